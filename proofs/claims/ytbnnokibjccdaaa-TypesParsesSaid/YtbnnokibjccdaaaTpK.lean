/-
  LAWS: a row of types of one's own that grows, no dice: the kinds of its region.
-/
import Derived.Test.YtbnnokibjccdaaaTpG
import Derived.Test.YtbnnokibjccdaaaTpC
namespace Go.Proofs.Ytbnnokibjccdaaa
open Go Go.RowKit Go.Maps
set_option linter.unusedVariables false
set_option linter.unusedSimpArgs false
set_option maxRecDepth 1000000

abbrev LB : World → World → Prop := fun x y => Below x.heap.size x y
theorem one_isB {P : Program} {C : World → World → Prop} {Pn : Ending → World → Prop} {c k : Nat} {v : Value} {w : World} (h : k ≠ c) : oneUpon P (sel LB C c k) Pn (tvIs v) w (.ok (.value v) w) := by
  refine ⟨?_, (), rfl, trivial⟩
  unfold sel
  rw [if_neg h]
  exact Below.refl _ _
/-- where the types of a row lie -/
def offK (K : Nat → Prop) (row : Option Nat) : Nat → Prop := fun k => K k ∧ some k ≠ row
/-- a row of types of one's own, whose types lie in K -/
structure TRk (w : World) (base : Nat) (K : Nat → Prop) (v : Value) (R : List Rw) (l : List Tp) : Prop where
  own : OwnL rwEnc tpT w base v R
  len : R.length = l.length
  at_ : ∀ i (h1 : i < R.length) (h2 : i < l.length), IsP (offK K v.ownBlock) w R[i] l[i]
theorem TRk.isNil (w : World) (base : Nat) (K : Nat → Prop) : TRk w base K (.slice none 0 0) [] [] := ⟨OwnL.isNil _ _ _ _, rfl, fun i h => absurd h (Nat.not_lt_zero i)⟩
theorem TRk.below {w w' : World} {base : Nat} {K : Nat → Prop} {v : Value} {R : List Rw} {l : List Tp} (h : TRk w base K v R l) (hb : Below w.heap.size w w') : TRk w' base K v R l :=
  ⟨OwnL.below h.own hb, h.len, fun i a b => (h.at_ i a b).later hb⟩
theorem TRk.push {w w' : World} {base : Nat} {K : Nat → Prop} {v v' : Value} {R : List Rw} {l : List Tp} {q : Rw} {t : Tp} (h : TRk w base K v R l) (hg : w.grownBy w' v.ownBlock) (hv : OwnL rwEnc tpT w' base v' (R ++ [q]))
    (hat : v'.ownBlock = v.ownBlock ∨ v'.ownBlock = some w.heap.size) (hq : IsP (offK K v.ownBlock) w q t) : TRk w' base K v' (R ++ [q]) (l ++ [t]) := by
  have key : ∀ q t, IsP (offK K v.ownBlock) w q t → IsP (offK K v'.ownBlock) w' q t := fun q t h => by
    have h1 := h.here.keepB (w' := w') (fun k hk hlt => hg.block k hlt hk.1.2)
    refine h1.mono (fun k hk => ⟨hk.1.1, ?_⟩)
    rcases hat with e | e
    · rw [e]; exact hk.1.2
    · rw [e]; intro q; injection q with q; have := hk.2; omega
  refine ⟨hv, by simp [h.len], fun i a b => ?_⟩
  by_cases e : i < l.length
  · rw [List.getElem_append_left (by rw [h.len]; exact e), List.getElem_append_left e]
    exact key _ _ (h.at_ i _ e)
  · have e' : i = l.length := by simp at b; omega
    subst e'
    rw [List.getElem_append_right (Nat.le_refl _), List.getElem_append_right (by rw [h.len]; exact Nat.le_refl _)]
    simp only [h.len, Nat.sub_self, List.getElem_cons_zero]
    exact key _ _ hq
theorem TRk.slice {w : World} {base : Nat} {K : Nat → Prop} {v : Value} {R : List Rw} {l : List Tp} (h : TRk w base K v R l) : ∃ p n c, v = .slice p n c := by
  rcases h.own.2 with ⟨rfl, _⟩ | ⟨g, cap, cur, rfl, _⟩
  · exact ⟨_, _, _, rfl⟩
  · exact ⟨_, _, _, rfl⟩
theorem TRk.fin {w : World} {base : Nat} {K : Nat → Prop} {v : Value} {R : List Rw} {l : List Tp} (h : TRk w base K v R l) (hK : ∀ k, base ≤ k → K k) : ∃ p c, v = .slice p l.length c ∧ IsPs K w v l := by
  have hs := h.own.sl
  have hl := h.len
  rcases h.own.2 with ⟨rfl, h0⟩ | ⟨g, cap, cur, rfl, hb, hg, hr⟩
  · have e : l = [] := List.eq_nil_of_length_eq_zero (by omega)
    subst e
    exact ⟨none, 0, rfl, IsPs.isNil _ _⟩
  · refine ⟨some ⟨g, 0, none⟩, cap, by rw [hl], some ⟨g, 0, none⟩, R.length, cap, R, rfl, hs, (fun e => by cases e), fun b o e _ => hK _ ?_, hl, fun i a b => (h.at_ i a b).mono (fun k hk => hk.1)⟩
    injection e with e
    injection e with e _ _
    omega
/-- a type that was made -/
def tvTq (K : Nat → Prop) (row : Option Nat) (t : Tp) : TyV := ⟨Rw, ⟨default⟩, fun q => .agg #[.string q.name, .slice q.p q.n q.cap], fun q w => IsP (offK K row) w q t⟩
theorem tvTq_good (K : Nat → Prop) (row : Option Nat) (t : Tp) (c k : Nat) : Good LB (fun x y => x.grownBy y row) c k (tvTq K row t) :=
  ⟨fun x w w' hl h => IsP.later h hl, fun _ x w w' hl h => IsP.keepB h (fun k hk hlt => hl.block k hlt hk.2)⟩
theorem tvTq_f (K : Nat → Prop) (row : Option Nat) (t : Tp) (s : ByteArray) (p : Option Addr) (n c : Nat) : (tvTq K row t).f ⟨s, p, n, c⟩ = .agg #[.string s, .slice p n c] := rfl
/-- one type in a slice that was just laid -/
def tvOneQ (K : Nat → Prop) (row : Option Nat) (t : Tp) : TyV := ⟨Nat × Rw, ⟨(0, default)⟩, fun x => .slice (some ⟨x.1, 0, none⟩) 1 1, fun x w => CellsAt w x.1 0 (Rw.cells x.2) ∧ some x.1 ≠ row ∧ x.1 < w.heap.size ∧ IsP (offK K row) w x.2 t⟩
theorem cells_sameK {w w' : World} {b off : Nat} {cs : List Value} (h : CellsAt w b off cs) (e : w'.heap[b]? = w.heap[b]?) : CellsAt w' b off cs := fun j v hv => by
  rw [World.cell?_of_block (w := w) e]; exact h j v hv
theorem tvOneQ_good (K : Nat → Prop) (row : Option Nat) (t : Tp) (c k : Nat) : Good LB (fun x y => x.grownBy y row) c k (tvOneQ K row t) :=
  ⟨fun x w w' hl h => ⟨cells_sameK h.1 (hl.block x.1 h.2.2.1), h.2.1, Nat.lt_of_lt_of_le h.2.2.1 hl.size, h.2.2.2.later hl⟩,
   fun _ x w w' hl h => ⟨cells_sameK h.1 (hl.block x.1 h.2.2.1 h.2.1), h.2.1, Nat.lt_of_lt_of_le h.2.2.1 hl.size, IsP.keepB h.2.2.2 (fun k hk hlt => hl.block k hlt hk.2)⟩⟩
theorem tvOneQ_f (K : Nat → Prop) (row : Option Nat) (t : Tp) (b : Nat) (q : Rw) : (tvOneQ K row t).f (b, q) = .slice (some ⟨b, 0, none⟩) 1 1 := rfl
theorem tvOneQ_mk {K : Nat → Prop} {row : Option Nat} {q : Rw} {t : Tp} {w : World} {c k : Nat} {P : Program} {Pn : Ending → World → Prop} (hq : IsP (offK K row) w q t) (hr : ∀ j, row = some j → j < w.heap.size) (h : k ≠ c) :
    oneUpon P (sel LB (fun x y => x.grownBy y row) c k) Pn (tvOneQ K row t) w (.ok (.value (.slice (some ⟨w.heap.size, 0, none⟩) 1 1)) (w.alloc (.cells #[.string q.name, .slice q.p q.n q.cap] tpT))) := by
  refine ⟨?_, (w.heap.size, q), rfl, cellsAt_alloc w (Rw.cells q) tpT, fun e => ?_, by simp, hq.later (below_box w _)⟩
  · unfold sel; rw [if_neg h]; exact below_box w _
  · have := hr _ e.symm; simp only at this; omega
/-- the list with one more -/
def tvAppQ (base : Nat) (K : Nat → Prop) (R : List Rw) (l : List Tp) (t : Tp) : TyV := ⟨Value × Rw, ⟨(undef, default)⟩, fun x => x.1, fun x w => TRk w base K x.1 (R ++ [x.2]) (l ++ [t])⟩
theorem tvAppQ_good (row : Option Nat) (base : Nat) (K : Nat → Prop) (R : List Rw) (l : List Tp) (t : Tp) (c : Nat) : Good LB (fun x y => x.grownBy y row) c c (tvAppQ base K R l t) :=
  ⟨fun x w w' hl h => TRk.below h hl, fun hk => absurd rfl hk⟩
theorem tvAppQ_f (base : Nat) (K : Nat → Prop) (R : List Rw) (l : List Tp) (t : Tp) (v : Value) (q : Rw) : (tvAppQ base K R l t).f (v, q) = v := rfl
theorem tvAppQ_mk {row : Option Nat} {base c sb : Nat} {K : Nat → Prop} {R : List Rw} {l : List Tp} {q : Rw} {t : Tp} {v : Value} {w : World} {Pn : Ending → World → Prop} (hv : TRk w base K v R l) (hrow : row = v.ownBlock) (hx : CellsAt w sb 0 (Rw.cells q)) (hq : IsP (offK K row) w q t) (hl : l.length ≤ 1000000000) (hb : base ≤ w.heap.size) (ty : TypeId) :
    ∃ v' w', (Builtin.append_ #[22, 22] ty #[v, .slice (some ⟨sb, 0, none⟩) 1 1]).run Try.prog w = .ok v' w' ∧ oneUpon Try.prog (sel LB (fun x y => x.grownBy y row) c c) Pn (tvAppQ base K R l t) w (.ok (.value v') w') := by
  obtain ⟨i0, hi0, hz0, hz1, hz2⟩ := info_parts infoTp
  have hRl := hv.len
  obtain ⟨v', w', hr, h2, h3, _, h5⟩ := run_append_own_at (P := Try.prog) w base 22 ty tpT i0 (.agg #[.string ⟨#[]⟩, .slice none 0 0]) 2 40 Try.underlying22 hi0 hz0 hz1 hz2 rfl (by decide) v R.length (rwEnc.all R) hv.own ⟨sb, 0, none⟩ 1 1 (Rw.cells q) rfl (fun j u hj => by rw [add_lit]; exact hx j u hj) (fun u hu => rwEnc.one q u hu) (by unfold maxLen; omega) (by omega) hb
  subst hrow
  refine ⟨v', w', hr, ?_, (v', q), rfl, ?_⟩
  · unfold sel; rw [if_pos rfl]; exact h3
  · refine hv.push h3 ?_ h5 hq
    unfold OwnL
    rw [List.length_append, rwEnc.all_append, show rwEnc.all [q] = Rw.cells q by simp [Enc.all, rwEnc]]
    exact h2
end Go.Proofs.Ytbnnokibjccdaaa
