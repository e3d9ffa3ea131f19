/-
  LAWS: faces as they lie; rows of rows of one's own.
-/
import Derived.Test.YtheigpiffdabnaaMdT
import Derived.Test.YtheigpiffdabnaaMdB
namespace Go.Proofs.Ytheigpiffdabnaa.Mds
open Go Go.RowKit Go.Maps
set_option linter.unusedVariables false
set_option linter.unusedSimpArgs false
set_option maxRecDepth 1000000

abbrev fcT : TypeId := 56
abbrev intT : TypeId := 3
abbrev intsT : TypeId := 22
def fc0 : Fc := ⟨ByteArray.empty, [], []⟩
/-- faces lie there -/
def FacesAt (w : World) (v : Value) (l : List Fc) : Prop :=
  ∃ R : List (ByteArray × Sv × Sv), SlIs encFc w v R ∧ R.length = l.length ∧ ∀ (i : Nat) (f : Fc) (r : ByteArray × Sv × Sv), l[i]? = some f → R[i]? = some r → r.1 = f.mo ∧ SlIs encS w (svV r.2.1) f.own ∧ SlIs encS w (svV r.2.2) f.pub
theorem FacesAt.below {w w' : World} {v : Value} {l : List Fc} (h : FacesAt w v l) (hb : Below w.heap.size w w') : FacesAt w' v l := by
  obtain ⟨R, h1, h2, h3⟩ := h
  exact ⟨R, h1.below hb, h2, fun i f r hf hr => ⟨(h3 i f r hf hr).1, (h3 i f r hf hr).2.1.below hb, (h3 i f r hf hr).2.2.below hb⟩⟩
/-- one of them -/
structure FaceAt (w : World) (p : Option Addr) (i : Nat) (f : Fc) (r : ByteArray × Sv × Sv) : Prop where
  at_ : ∃ b off, p = some ⟨b, off, none⟩ ∧ w.cell? ⟨b, off + i * 3, none⟩ = some (.string f.mo) ∧ w.cell? ⟨b, off + i * 3 + 1, none⟩ = some (svV r.2.1) ∧ w.cell? ⟨b, off + i * 3 + 2, none⟩ = some (svV r.2.2)
  own : SlIs encS w (svV r.2.1) f.own
  pub : SlIs encS w (svV r.2.2) f.pub
theorem FacesAt.face {w : World} {p : Option Addr} {n cap : Nat} {l : List Fc} (h : FacesAt w (.slice p n cap) l) (i : Nat) (hi : i < l.length) : ∃ r, FaceAt w p i (l.getD i fc0) r := by
  obtain ⟨R, h1, h2, h3⟩ := h
  have hR : i < R.length := by omega
  obtain ⟨g1, g2, g3⟩ := h3 i l[i] R[i] (List.getElem?_eq_getElem hi) (List.getElem?_eq_getElem hR)
  obtain ⟨hn, hc1, hc2, hl⟩ := h1.lies
  obtain ⟨b, off, rfl, hc⟩ := hl (by omega)
  have hg : l.getD i fc0 = l[i] := by simp [List.getD, List.getElem?_eq_getElem hi]
  rw [hg]
  have e3 : encFc.size = 3 := rfl
  have c0 := hc.elem i hR 0 (by decide) _ rfl
  have c1 := hc.elem i hR 1 (by decide) _ rfl
  have c2 := hc.elem i hR 2 (by decide) _ rfl
  rw [e3] at c0 c1 c2
  exact ⟨R[i], ⟨b, off, rfl, by rw [← g1]; simpa using c0, c1, c2⟩, g2, g3⟩
theorem FacesAt.len {w : World} {p : Option Addr} {n cap : Nat} {l : List Fc} (h : FacesAt w (.slice p n cap) l) : n = l.length := by
  obtain ⟨R, h1, h2, _⟩ := h
  have := (h1.lies).1
  omega
theorem FaceAt.below {w w' : World} {p : Option Addr} {i : Nat} {f : Fc} {r : ByteArray × Sv × Sv} (h : FaceAt w p i f r) (hb : Below w.heap.size w w') : FaceAt w' p i f r := by
  obtain ⟨⟨b, off, e, c0, c1, c2⟩, h2, h3⟩ := h
  have hbl := World.block_lt_of_cell? w _ c0
  exact ⟨⟨b, off, e, by rw [hb.cell (p := ⟨b, off + i * 3, none⟩) hbl]; exact c0, by rw [hb.cell (p := ⟨b, off + i * 3 + 1, none⟩) hbl]; exact c1, by rw [hb.cell (p := ⟨b, off + i * 3 + 2, none⟩) hbl]; exact c2⟩, h2.below hb, h3.below hb⟩
/-- faces that are small -/
structure FcFit (f : Fc) : Prop where
  mo : f.mo.size ≤ 1000
  own : ∀ s ∈ f.own, s.size ≤ 1000
  owns : f.own.length ≤ 100
  pub : ∀ s ∈ f.pub, s.size ≤ 1000
  pubs : f.pub.length ≤ 100
def FcsFit (l : List Fc) : Prop := l.length ≤ 100 ∧ ∀ f ∈ l, FcFit f
theorem FcsFit.at_ {l : List Fc} (h : FcsFit l) (i : Nat) (hi : i < l.length) : FcFit (l.getD i fc0) := h.2 _ (by simp [List.getD, List.getElem?_eq_getElem hi])

/-! ### first -/
theorem firstI_snoc (l : List Fc) (f : Fc) (m : ByteArray) : firstI (l ++ [f]) m = match firstI l m with | some i => some i | none => if f.mo = m then some l.length else none := by
  unfold firstI
  rw [List.findIdx?_append]
  cases List.findIdx? (fun f => decide (f.mo = m)) l with
  | some i => rfl
  | none =>
    by_cases e : f.mo = m
    · simp [e, List.findIdx?_cons]
    · simp [e, List.findIdx?_cons]
theorem firstI_lt {l : List Fc} {m : ByteArray} {i : Nat} (h : firstI l m = some i) : i < l.length := by
  unfold firstI at h
  exact (List.findIdx?_eq_some_iff_getElem.1 h).1
def natV (n : Nat) : Value := .int .i64 n
theorem firstF_skip {l : List Fc} {f : Fc} {i : Nat} (h : firstI l f.mo = some i) : firstI (l ++ [f]) = firstI l := by
  funext m
  rw [firstI_snoc]
  cases e : firstI l m with
  | some k => rfl
  | none =>
    by_cases q : f.mo = m
    · subst q; rw [h] at e; cases e
    · simp [q]
theorem firstF_put {l : List Fc} {f : Fc} (h : firstI l f.mo = none) : firstI (l ++ [f]) = updM (firstI l) f.mo (some l.length) := by
  funext m
  rw [firstI_snoc]
  by_cases q : m = f.mo
  · subst q; rw [updM_same, h]; simp
  · rw [updM_ne _ _ q]
    cases e : firstI l m with
    | some k => rfl
    | none => simp [Ne.symm q]

/-! ### rows of rows -/
theorem encSv_len (n : Nat) (rows : Nat → Sv) : encSv.all ((List.range n).map rows) = (List.range n).map fun i => svV (rows i) := by
  have : ∀ L : List Sv, encSv.all L = L.map svV := fun L => by
    induction L with
    | nil => rfl
    | cons a L ih => rw [encSv.all_cons, ih]; rfl
  rw [this, List.map_map]
  rfl
def sv0 : Sv := (none, 0, 0)
theorem OwnL_kept2 {B : Nat} {wr w1 w2 : World} {v : Value} {L : List Nat} {r1 r2 : Option Nat} (h : OwnL encI intT wr B v L) (g1 : wr.grownBy w1 r1) (g2 : w1.grownBy w2 r2) (h1 : v.ownBlock = none ∨ v.ownBlock ≠ r1) (h2 : v.ownBlock = none ∨ v.ownBlock ≠ r2) : OwnL encI intT w2 B v L := World.ownsRow.kept (World.ownsRow.kept h g1 h1) g2 h2
/-- rows in a block of one's own, each owned, all apart -/
structure TkAt (B : Nat) (wr : World) (ob n : Nat) (rows : Nat → Sv) (tk : Nat → List Nat) : Prop where
  out : wr.ownsRow B intsT 1 (.slice (some ⟨ob, 0, none⟩) n n) n ((List.range n).map fun i => svV (rows i))
  own : ∀ i, i < n → OwnL encI intT wr B (svV (rows i)) (tk i)
  dif : ∀ i j, i < n → j < n → i ≠ j → (svV (rows i)).ownBlock = none ∨ (svV (rows i)).ownBlock ≠ (svV (rows j)).ownBlock
theorem TkAt.same {B : Nat} {wr wx : World} {ob n : Nat} {rows : Nat → Sv} {tk : Nat → List Nat} (h : TkAt B wr ob n rows tk) (hb : Below wr.heap.size wr wx) : TkAt B wx ob n rows tk :=
  ⟨h.out.kept (row := none) ⟨hb.os, hb.tape, hb.output, hb.size, fun k hk _ => hb.block k hk⟩ (.inr (by simp [Value.ownBlock])), fun i hi => (h.own i hi).below hb, h.dif⟩
theorem TkAt.block {B : Nat} {wr : World} {ob n : Nat} {rows : Nat → Sv} {tk : Nat → List Nat} (h : TkAt B wr ob n rows tk) : ∃ cur, wr.heap[ob]? = some (.cells cur intsT (0, 0)) ∧ B ≤ ob := by
  rcases h.out.2 with ⟨e, -⟩ | ⟨g, cap, cur, e, hb, hg, -⟩
  · cases e
  · injection e with e; injection e with e; injection e with e1 _ _
    subst e1
    exact ⟨cur, hg, hb⟩
theorem own_ints {B : Nat} {wr : World} {v : Value} {L : List Nat} (h : OwnL encI intT wr B v L) {k : Nat} (e : v.ownBlock = some k) : ∃ cur, wr.heap[k]? = some (.cells cur intT (0, 0)) ∧ B ≤ k := by
  rcases h.2 with ⟨rfl, -⟩ | ⟨g, cap, cur, rfl, hb, hg, -⟩
  · cases e
  · injection e with e
    subst e
    exact ⟨cur, hg, hb⟩
theorem TkAt.far {B : Nat} {wr : World} {ob n : Nat} {rows : Nat → Sv} {tk : Nat → List Nat} (h : TkAt B wr ob n rows tk) {i : Nat} (hi : i < n) : (svV (rows i)).ownBlock ≠ some ob := fun e => by
  obtain ⟨c1, h1, -⟩ := h.block
  obtain ⟨c2, h2, -⟩ := own_ints (h.own i hi) e
  rw [h1] at h2
  injection h2 with h2
  injection h2 with _ h2 _
  cases h2
def setN {α : Type} (f : Nat → α) (i : Nat) (x : α) : Nat → α := fun k => if k = i then x else f k
theorem setN_same {α : Type} (f : Nat → α) (i : Nat) (x : α) : setN f i x i = x := by simp [setN]
theorem setN_ne {α : Type} (f : Nat → α) {i k : Nat} (x : α) (h : k ≠ i) : setN f i x k = f k := by simp [setN, h]
theorem range_set (n : Nat) (rows : Nat → Sv) (i : Nat) (s : Sv) : ((List.range n).map fun k => svV (rows k)).set i (svV s) = (List.range n).map fun k => svV (setN rows i s k) := by
  refine List.ext_getElem? fun k => ?_
  rw [List.getElem?_set]
  by_cases e : i = k
  · subst e
    by_cases q : i < n
    · simp [q, setN_same]
    · simp [q]
  · rw [if_neg e]
    simp only [List.getElem?_map]
    by_cases q : k < n
    · simp [q, setN_ne rows s (fun r => e r.symm)]
    · simp [q]
/-- one more in a row -/
theorem TkAt.push {B : Nat} {wr w1 : World} {ob n : Nat} {rows : Nat → Sv} {tk : Nat → List Nat} {i x : Nat} {s : Sv} (h : TkAt B wr ob n rows tk) (hi : i < n) (ho : OwnL encI intT w1 B (svV s) (tk i ++ [x])) (hg : wr.grownBy w1 (svV (rows i)).ownBlock)
    (hat : (svV s).ownBlock = (svV (rows i)).ownBlock ∨ ∃ k, (svV s).ownBlock = some k ∧ wr.heap.size ≤ k) : TkAt B (w1.setCell ⟨ob, i, none⟩ (svV s)) ob n (setN rows i s) (setN tk i (tk i ++ [x])) ∧ Below B wr (w1.setCell ⟨ob, i, none⟩ (svV s)) := by
  have hB : B ≤ wr.heap.size := by obtain ⟨c, h1, h2⟩ := h.block; have := heap_lt h1; omega
  have hout1 : w1.ownsRow B intsT 1 (.slice (some ⟨ob, 0, none⟩) n n) n _ := h.out.kept hg (.inr (fun e => h.far hi e.symm))
  have hobl : ob < wr.heap.size := by obtain ⟨c, h1, _⟩ := h.block; exact heap_lt h1
  obtain ⟨s1, s2⟩ := World.ownsRow.stored hout1 i (svV s)
  have hfs : (svV s).ownBlock ≠ some ob := fun e => by
    rcases hat with q | ⟨k, q, hk⟩
    · exact h.far hi (by rw [← q]; exact e)
    · rw [e] at q; cases q; omega
  have hob : B ≤ ob := by obtain ⟨c, _, h2⟩ := h.block; exact h2
  refine ⟨⟨?_, fun k hk => ?_, fun k j hk hj hkj => ?_⟩, ?_⟩
  · have e := range_set n rows i s
    rw [← e]
    exact s1
  · by_cases e : k = i
    · subst e
      rw [setN_same, setN_same]
      exact ho.kept s2 (.inr hfs)
    · rw [setN_ne _ _ e, setN_ne _ _ e]
      refine OwnL_kept2 (h.own k hk) hg s2 ?_ (.inr (h.far hk))
      exact h.dif k i hk hi e
  · by_cases e1 : k = i
    · subst e1
      rw [setN_same, setN_ne _ _ (fun q => hkj q.symm)]
      rcases hat with q | ⟨b, q, hb⟩
      · rw [q]; exact h.dif k j hk hj hkj
      · right
        rw [q]
        intro r
        have := (h.own j hj).lt b r.symm
        omega
    · by_cases e2 : j = i
      · subst e2
        rw [setN_same, setN_ne _ _ e1]
        rcases hat with q | ⟨b, q, hb⟩
        · rw [q]; exact h.dif k j hk hj hkj
        · right
          rw [q]
          intro r
          have := (h.own k hk).lt b r
          omega
      · rw [setN_ne _ _ e1, setN_ne _ _ e2]
        exact h.dif k j hk hj hkj
  · have b1 : Below B wr w1 := (Below.refl _ _).grown hg hB (fun k e => ((h.own i hi).lt k e).1)
    exact b1.grown s2 (by have := b1.size; omega) (fun k e => by cases e; exact hob)
end Go.Proofs.Ytheigpiffdabnaa.Mds
