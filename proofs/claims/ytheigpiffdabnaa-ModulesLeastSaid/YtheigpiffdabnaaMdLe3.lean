/-
  LAWS: faces in another order, as they lie; for ModulesLeast.
-/
import Derived.Test.YtheigpiffdabnaaMdLe2
import Derived.Test.YtheigpiffdabnaaMdF
import Derived.Test.YtheigpiffdabnaaMdH
import Derived.Test.YtheigpiffdabnaaLw
namespace Go.Proofs.Ytheigpiffdabnaa.Mds
open Go Go.RowKit Go.Maps
set_option linter.unusedVariables false
set_option linter.unusedSimpArgs false
set_option maxRecDepth 1000000

theorem rot_any {α : Type} {l : List α} (hl : l.length = 4) {k : Nat} (hk : k ≤ 4) (i : Nat) (hi : i < 4) : (l.drop k ++ l.take k)[i]? = l[(i + k) % 4]? := by
  by_cases h : i < 4 - k
  · rw [List.getElem?_append_left (by rw [List.length_drop]; omega), List.getElem?_drop, show (i + k) % 4 = k + i by omega]
  · rw [List.getElem?_append_right (by rw [List.length_drop]; omega), List.length_drop, hl, List.getElem?_take_of_lt (by omega), show (i + k) % 4 = i - (4 - k) by omega]
theorem rot_len {α : Type} {l : List α} (hl : l.length = 4) {k : Nat} (hk : k ≤ 4) : (l.drop k ++ l.take k).length = 4 := by rw [List.length_append, List.length_drop, List.length_take]; omega
theorem faces_rot {w w' : World} {v : Value} {l : List Fc} {R : List (ByteArray × Sv × Sv)} {k : Nat} (hk : k ≤ 4) (hl : l.length = 4) (hR : R.length = l.length)
    (hat : ∀ (i : Nat) (f : Fc) (r : ByteArray × Sv × Sv), l[i]? = some f → R[i]? = some r → r.1 = f.mo ∧ SlIs encS w (svV r.2.1) f.own ∧ SlIs encS w (svV r.2.2) f.pub) (hb : Below w.heap.size w w') (hv : SlIs encFc w' v (R.drop k ++ R.take k)) : FacesAt w' v (l.drop k ++ l.take k) := by
  refine ⟨_, hv, by rw [rot_len (hR.trans hl) hk, rot_len hl hk], fun i f r hf hr => ?_⟩
  have hi : i < 4 := by have := (List.getElem?_eq_some_iff.1 hf).1; rw [rot_len hl hk] at this; exact this
  rw [rot_any hl hk i hi] at hf
  rw [rot_any (hR.trans hl) hk i hi] at hr
  obtain ⟨h1, h2, h3⟩ := hat _ f r hf hr
  exact ⟨h1, h2.below hb, h3.below hb⟩
theorem fit_rot {l : List Fc} {k : Nat} (hl : l.length = 4) (hk : k ≤ 4) (h : FcsFit l) : FcsFit (l.drop k ++ l.take k) := by
  refine ⟨by rw [rot_len hl hk]; omega, fun f hf => h.2 f ?_⟩
  rcases List.mem_append.1 hf with q | q
  · exact List.mem_of_mem_drop q
  · exact List.mem_of_mem_take q
/-- the lists in another order are the same lists -/
theorem lists_rot {l : List Fc} {LA LB : Nat → List Bd} {k : Nat} (hl : l.length = 4) (hk : k < 4) (hn : (l.map Fc.mo).Nodup) (hA : GivA l LA) (hB : GivA (l.drop k ++ l.take k) LB) (i : Nat) (hi : i < 4) : LB i = LA ((i + k) % 4) := by
  obtain ⟨b1, b2⟩ := hB i (by rw [rot_len hl (by omega)]; exact hi)
  obtain ⟨a1, a2⟩ := hA ((i + k) % 4) (by omega)
  exact AscB.eq b1 a1 fun b => by rw [b2 b, a2 b, giv_rot hl hk hn hi b]
theorem all_part {L : List (ByteArray × Sv × Sv)} {k : Nat} (hk : k ≤ L.length) (j : Nat) : (encFc.all (L.drop k))[j]? = (encFc.all L)[k * 3 + j]? := by
  have e : encFc.all L = encFc.all (L.take k) ++ encFc.all (L.drop k) := by rw [← encFc.all_append, List.take_append_drop]
  have hl : (encFc.all (L.take k)).length = k * 3 := by rw [encFc.all_length, List.length_take, Nat.min_eq_left hk]; rfl
  rw [e, List.getElem?_append_right (by omega), hl, Nat.add_sub_cancel_left]
theorem all_front {L : List (ByteArray × Sv × Sv)} {k : Nat} (hk : k ≤ L.length) (j : Nat) (u : Value) (h : (encFc.all (L.take k))[j]? = some u) : (encFc.all L)[j]? = some u := by
  have e : encFc.all L = encFc.all (L.take k) ++ encFc.all (L.drop k) := by rw [← encFc.all_append, List.take_append_drop]
  rw [e, List.getElem?_append_left (List.getElem?_eq_some_iff.1 h).1]
  exact h
def tyOwnF (base : Nat) (L : List (ByteArray × Sv × Sv)) : Ty LeW := ⟨{v : Value // True}, ⟨⟨undef, trivial⟩⟩, fun v => v.1, fun v w => OwnL encFc fcT w base v.1 L, fun x w w' hl h => OwnL.below h hl⟩
theorem tyOwnF_f (base : Nat) (L : List (ByteArray × Sv × Sv)) (v : Value) (h : True) : (tyOwnF base L).f ⟨v, h⟩ = v := rfl
theorem app_fc {w : World} {base g k cp : Nat} {L : List (ByteArray × Sv × Sv)} (hb : base ≤ w.heap.size) (hc : CellsAt w g 0 (encFc.all L)) (hl : L.length = 4) (hk : k ≤ 4) (ty : TypeId) :
    ∃ v' w', (Builtin.append_ #[46, 46] ty #[.slice none 0 0, .slice (some ⟨g, k * 3, none⟩) (4 - k) cp]).run Try.prog w = .ok v' w' ∧ relUpon Try.prog LeW (tyOwnF base (L.drop k)) w (.ok (.value v') w') := by
  obtain ⟨i0, hi0, hz0, hz1, hz2⟩ := info_parts infoFc
  have hdl : (L.drop k).length = 4 - k := by rw [List.length_drop, hl]
  obtain ⟨v', w', hr, h2, h3, _, h5⟩ := run_append_own_at (P := Try.prog) w base 46 ty fcT i0 (.agg #[.string ⟨#[]⟩, .slice none 0 0, .slice none 0 0]) 3 64 Try.underlying46 hi0 hz0 hz1 hz2 rfl (by decide) (.slice none 0 0) 0 [] (World.ownsRow_nil w base _ _) ⟨g, k * 3, none⟩ (4 - k) cp (encFc.all (L.drop k)) (by rw [encFc.all_length, hdl]; rfl) (fun j u hj => by
    rw [all_part (by omega)] at hj
    have h := hc _ _ hj
    rw [Nat.zero_add] at h
    rw [show (⟨g, k * 3, none⟩ : Addr).add j = ⟨g, k * 3 + j, none⟩ from by first | rfl | simp [Addr.add]]
    exact h) (fun u hu => encFc.all_one _ u hu) (by unfold maxLen; omega) (by omega) hb
  refine ⟨v', w', hr, ?_, ⟨v', trivial⟩, rfl, ?_⟩
  · exact (Below.refl _ _).grown h3 (Nat.le_refl _) (fun k hk => by cases hk)
  · show OwnL encFc fcT w' base v' (L.drop k)
    unfold OwnL
    rw [hdl]
    rw [Nat.zero_add, List.nil_append] at h2
    exact h2
theorem relAt_appendF {P : Program} {ops : Array Oper} {o : Oper} {a : Act} {Le : World → World → Prop} {t : Ty Le} {w w' : World} {s x : Operand} {sT : TypeId} {v u v' : Value} (hgd : o.guard = none)
    (ho : o.op = .call { callee := .builtin .append, args := #[s, x], argTypes := #[sT, sT] }) (hs : a.eval s = v) (hx : a.eval x = u) (hr : (Builtin.append_ #[sT, sT] o.type #[v, u]).run P w = .ok v' w') (h : relUpon P Le t w (.ok (.value v') w')) : relAt P ops Le t o a w := by
  have hw : Region.wanted o (yielded ops a.tmps) = true := by simp [Region.wanted, hgd]
  unfold relAt
  rw [if_pos hw]
  unfold execOp
  simp only [ho, resolve, invoke, builtin, Sem.run_bind, Sem.run_pure, Result.andThen_ok, List.map_toArray, List.map_cons, List.map_nil, hs, hx, hr]
  exact h
end Go.Proofs.Ytheigpiffdabnaa.Mds
