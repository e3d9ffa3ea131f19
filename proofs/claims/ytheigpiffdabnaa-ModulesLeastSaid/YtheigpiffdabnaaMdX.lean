/-
  LAWS: a copy of faces, with one more re-export; what the statement of growth asks, plain.
-/
import Derived.Test.YtheigpiffdabnaaMdW
import Derived.Test.YtheigpiffdabnaaMdH
namespace Go.Proofs.Ytheigpiffdabnaa.Mds
open Go Go.RowKit Go.Maps
set_option linter.unusedVariables false
set_option linter.unusedSimpArgs false
set_option maxRecDepth 1000000

theorem encFc_set2 (s : Sv) (r : ByteArray × Sv × Sv) : ∀ (M : List (ByteArray × Sv × Sv)) (i : Nat), M[i]? = some r → encFc.all (M.set i (r.1, r.2.1, s)) = (encFc.all M).set (i * 3 + 2) (svV s)
  | [], i, h => by cases h
  | a :: M, 0, h => by
    injection h with h
    subst h
    simp [Enc.all, encFc]
  | a :: M, i + 1, h => by
    have h2 : M[i]? = some r := by simpa using h
    rw [List.set_cons_succ, encFc.all_cons, encFc.all_cons, encFc_set2 s r M i h2]
    have e : encFc.cells a = [.string a.1, svV a.2.1, svV a.2.2] := rfl
    rw [e, show (i + 1) * 3 + 2 = (i * 3 + 2) + 1 + 1 + 1 by omega]
    simp only [List.cons_append, List.nil_append, List.set_cons_succ]
/-- strings appended, all of a list -/
theorem wpList_appendSl {w : World} {ops : Array Oper} {rest : List Oper} {o : Oper} {a : Act} {Q : Exit → Act → World → Prop} (hgd : o.guard = none) (s x : Operand)
    (ho : o.op = .call { callee := .builtin .append, args := #[s, x], argTypes := #[54, 54] })
    (base B : Nat) (v u : Value) (xs ys : List ByteArray) (hs : a.eval s = v) (hv : OwnL encS strT w base v xs) (hx : a.eval x = u) (hu : OwnL encS strT w B u ys) (hl : xs.length + ys.length ≤ 100000) (hb : base ≤ w.heap.size)
    (h : ∀ v' w', OwnL encS strT w' base v' (xs ++ ys) → w.grownBy w' v.ownBlock → wpList Try.prog ops Q rest (a.put o.dst v') w') :
    wpList Try.prog ops Q (o :: rest) a w := by
  obtain ⟨i0, hi0, hz0, hz1, hz2⟩ := info_parts infoS
  rcases hu.2 with ⟨rfl, hn⟩ | ⟨g, cap, cur, rfl, hg, hh, g1, g2, g3, g4⟩
  · have hy : ys = [] := List.length_eq_zero_iff.1 hn
    subst hy
    exact wpList_append_own_none hgd s x 54 ho base strT i0 1 Try.underlying54 hi0 v xs.length (encS.all xs) hs hv hx (h v w (by rw [List.append_nil]; exact hv) (World.grownBy.refl _ _))
  · refine wpList_append_own_at _ hgd s x 54 ho base strT i0 (.string ⟨#[]⟩) 1 16 Try.underlying54 hi0 hz0 hz1 hz2 rfl (by decide) v xs.length (encS.all xs) hs hv ⟨g, 0, none⟩ ys.length cap (encS.all ys) hx (encS.all_length ys) ?_ ?_ (by unfold maxLen; omega) (by omega) hb ?_
    · intro j y hj
      have e : encS.size = 1 := rfl
      have hlen : (encS.all ys).length = ys.length := by rw [encS.all_length, e, Nat.mul_one]
      have hjl : j < ys.length := by have := (List.getElem?_eq_some_iff.1 hj).1; omega
      rw [add_lit]
      have := World.ownsRow.cellAt hu j (by rw [e]; omega)
      rw [Nat.zero_add, this]
      exact hj
    · intro y hy
      exact encS.all_one ys y hy
    · intro v' w' h1 h2 _ _
      refine h v' w' ?_ h2
      unfold OwnL
      rw [List.length_append, encS.all_append]
      exact h1
theorem FacesAt.of_own {w : World} {B B2 : Nat} {v : Value} {R : List (ByteArray × Sv × Sv)} {l : List Fc} (ho : OwnL encFc fcT w B v R) (hr : FcRow w B2 R l) : FacesAt w v l :=
  ⟨R, ho.sl, hr.len, fun i f r hf hr' => by obtain ⟨h1, h2, h3⟩ := hr.at_ i f r hf hr'; exact ⟨h1, h2.sl, h3.sl⟩⟩
theorem fit_made {l : List Fc} (hm : ∀ f ∈ l, FcMade f) (hl : l.length ≤ 4) : FcsFit l := ⟨by omega, fun f hf => by
  have h := hm f hf
  exact ⟨by have := h.mo; omega, fun s hs => by have := h.own s hs; omega, by have := h.owns; omega, fun s hs => by have := h.pub s hs; omega, by have := h.pubs; omega⟩⟩
/-- with one more re-export -/
def moreF (l : List Fc) (k : Nat) (s : ByteArray) : List Fc := l.set k ⟨(l.getD k fc0).mo, (l.getD k fc0).own, (l.getD k fc0).pub ++ [s]⟩
theorem fit_more {l : List Fc} {k : Nat} {s : ByteArray} (hm : ∀ f ∈ l, FcMade f) (hl : l.length ≤ 4) (hk : k < l.length) (hs : s.size ≤ 12) : FcsFit (moreF l k s) := by
  refine ⟨by unfold moreF; rw [List.length_set]; omega, fun f hf => ?_⟩
  rcases List.mem_or_eq_of_mem_set hf with h | rfl
  · exact (fit_made hm hl).2 f h
  · have h := (fit_made hm hl).at_ k hk
    have h2 := hm (l.getD k fc0) (by simp [List.getD, List.getElem?_eq_getElem hk])
    exact ⟨h.mo, h.own, h.owns, fun u hu => by rcases List.mem_append.1 hu with q | q; exact h.pub u q; rw [List.mem_singleton] at q; subst q; omega, by rw [List.length_append]; have := h2.pubs; rw [List.length_singleton]; omega⟩
theorem giv_more {l : List Fc} {k : Nat} {s : ByteArray} {i : Nat} {b : Bd} (hk : k < l.length) (h : Giv l i b) : Giv (moreF l k s) i b := by
  refine Giv.more (by unfold moreF; rw [List.length_set]) (fun i f hf => ?_) h
  unfold moreF
  by_cases e : k = i
  · subst e
    have hg : l.getD k fc0 = f := by simp [List.getD, hf]
    rw [hg]
    exact ⟨⟨f.mo, f.own, f.pub ++ [s]⟩, by rw [List.getElem?_set_self hk], rfl, rfl, fun m hm => List.mem_append.2 (.inl hm)⟩
  · exact ⟨f, by rw [List.getElem?_set_ne e]; exact hf, rfl, rfl, fun m hm => hm⟩
theorem own_aside {w : World} {B g n cap j : Nat} {R : List (ByteArray × Sv × Sv)} {u x : Value} {L : List ByteArray} (hb : OwnL encFc fcT w B (.slice (some ⟨g, 0, none⟩) n cap) R) (h : OwnL encS strT w B u L) : OwnL encS strT (w.setCell ⟨g, j, none⟩ x) B u L := by
  refine ownsRow_setCell_other h ?_ x
  rcases face_row (yb := 0) hb h with e | e
  · rw [e]; intro q; cases q
  · exact e
theorem faces_set {w : World} {B g n cap k : Nat} {R : List (ByteArray × Sv × Sv)} {l : List Fc} {sp : Sv} {s : ByteArray} (hn : n = R.length) (ho : OwnL encFc fcT w B (.slice (some ⟨g, 0, none⟩) n cap) R) (hr : FcRow w B R l) (hk : k < l.length) (hsp : OwnL encS strT w B (svV sp) ((l.getD k fc0).pub ++ [s])) :
    FacesAt (w.setCell ⟨g, k * 3 + 2, none⟩ (svV sp)) (.slice (some ⟨g, 0, none⟩) n cap) (moreF l k s) := by
  subst hn
  have hkR : k < R.length := by rw [hr.len]; exact hk
  have hrk : R[k]? = some R[k] := List.getElem?_eq_getElem hkR
  obtain ⟨s1, g1⟩ := World.ownsRow.stored ho (k * 3 + 2) (svV sp)
  have ho2 : OwnL encFc fcT (w.setCell ⟨g, k * 3 + 2, none⟩ (svV sp)) B (.slice (some ⟨g, 0, none⟩) R.length cap) (R.set k (R[k].1, R[k].2.1, sp)) := by
    unfold OwnL
    rw [List.length_set, encFc_set2 sp R[k] R k hrk]
    exact s1
  have hg : l.getD k fc0 = l[k] := by simp [List.getD, List.getElem?_eq_getElem hk]
  rw [hg] at hsp
  refine ⟨_, ho2.sl, by unfold moreF; rw [List.length_set, List.length_set]; exact hr.len, fun i f r hf hr' => ?_⟩
  unfold moreF at hf
  rw [hg] at hf
  by_cases e : k = i
  · subst e
    rw [List.getElem?_set_self hk] at hf
    rw [List.getElem?_set_self hkR] at hr'
    injection hf with hf; injection hr' with hr'; subst hf; subst hr'
    obtain ⟨h1, h2, h3⟩ := hr.at_ k l[k] R[k] (List.getElem?_eq_getElem hk) hrk
    exact ⟨h1, (own_aside ho h2).sl, (own_aside ho hsp).sl⟩
  · rw [List.getElem?_set_ne e] at hf hr'
    obtain ⟨h1, h2, h3⟩ := hr.at_ i f r hf hr'
    exact ⟨h1, (own_aside ho h2).sl, (own_aside ho h3).sl⟩
theorem faces_aside {w : World} {B g n cap j : Nat} {R R2 : List (ByteArray × Sv × Sv)} {l : List Fc} {v x : Value} (ho : OwnL encFc fcT w B v R) (hr : FcRow w B R l) (hb : OwnL encFc fcT w B (.slice (some ⟨g, 0, none⟩) n cap) R2) (hne : v.ownBlock ≠ some g) : FacesAt (w.setCell ⟨g, j, none⟩ x) v l := by
  have ho2 : OwnL encFc fcT (w.setCell ⟨g, j, none⟩ x) B v R := ownsRow_setCell_other ho hne x
  exact ⟨R, ho2.sl, hr.len, fun i f r hf hr' => by obtain ⟨h1, h2, h3⟩ := hr.at_ i f r hf hr'; exact ⟨h1, (own_aside hb h2).sl, (own_aside hb h3).sl⟩⟩
theorem FcRow.dr {d : Dice} {w w' : World} {B s0 : Nat} {R : List (ByteArray × Sv × Sv)} {l : List Fc} (h : FcRow w B R l) (hd : Dr d s0 w w') (hD : d.D < B) (hs : w.heap.size ≤ s0) : FcRow w' B R l :=
  ⟨h.len, fun i f r hf hr => by obtain ⟨h1, h2, h3⟩ := h.at_ i f r hf hr; exact ⟨h1, own_dr h2 hd hD hs, own_dr h3 hd hD hs⟩⟩
theorem FcRow.below {w w' : World} {B : Nat} {R : List (ByteArray × Sv × Sv)} {l : List Fc} (h : FcRow w B R l) (hb : Below w.heap.size w w') : FcRow w' B R l :=
  ⟨h.len, fun i f r hf hr => by obtain ⟨h1, h2, h3⟩ := h.at_ i f r hf hr; exact ⟨h1, OwnL.below h2 hb, OwnL.below h3 hb⟩⟩
theorem base_thrown6 {d : Dice} {w w2 w3 : World} (hB : Below w.heap.size w w2) (ht : Thrown d w2 w3) (hD : w.heap.size ≤ d.D) : Below w.heap.size w w3 :=
  hB.trans (ht.but.below hB.size (fun q hq => by unfold isAt at hq; subst hq; exact hD))
theorem svEta (s : Sv) : svV s = .slice s.1 s.2.1 s.2.2 := rfl
end Go.Proofs.Ytheigpiffdabnaa.Mds
