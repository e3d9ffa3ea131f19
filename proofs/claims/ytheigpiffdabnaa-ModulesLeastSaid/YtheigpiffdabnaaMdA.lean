/-
  CONTRACTS: modules.begin.
-/
import Derived.Test.YtheigpiffdabnaaMdK
import Derived.Test.YtheigpiffdabnaaLw
import Derived.Test.YtheigpiffdabnaaShelf
import Derived.Lib.Hide
namespace Go.Proofs.Ytheigpiffdabnaa.Mds
open Go Go.RowKit Go.Maps
set_option linter.unusedVariables false
set_option linter.unusedSimpArgs false
set_option maxRecDepth 1000000

abbrev gvT : TypeId := 83
/-- the keys of a list, as a map to true -/
def setF {α : Type} [DecidableEq α] (l : List α) : α → Option Unit := fun x => if (l.any fun y => decide (y = x)) then some () else none
theorem any_mem {α : Type} [DecidableEq α] (l : List α) (x : α) : (l.any fun y => decide (y = x)) = true ↔ x ∈ l := by
  rw [List.any_eq_true]
  exact ⟨fun ⟨y, h1, h2⟩ => by have := of_decide_eq_true h2; subst this; exact h1, fun h => ⟨x, h, by simp⟩⟩
theorem setF_mem {α : Type} [DecidableEq α] {l : List α} {x : α} (h : x ∈ l) : setF l x = some () := by unfold setF; rw [if_pos ((any_mem l x).2 h)]
theorem setF_not {α : Type} [DecidableEq α] {l : List α} {x : α} (h : x ∉ l) : setF l x = none := by unfold setF; rw [if_neg (fun q => h ((any_mem l x).1 q))]
theorem setF_iff {α : Type} [DecidableEq α] {l m : List α} (h : ∀ x, x ∈ l ↔ x ∈ m) : setF l = setF m := by
  funext x
  by_cases q : x ∈ l
  · rw [setF_mem q, setF_mem ((h x).1 q)]
  · rw [setF_not q, setF_not (fun r => q ((h x).2 r))]
theorem setF_put {α : Type} [DecidableEq α] (l : List α) (x : α) : updM (setF l) x (some ()) = setF (l ++ [x]) := by
  funext y
  by_cases e : y = x
  · subst e; rw [updM_same, setF_mem (by simp)]
  · rw [updM_ne _ _ e]
    by_cases q : y ∈ l
    · rw [setF_mem q, setF_mem (by simp [q])]
    · rw [setF_not q, setF_not (by simp [q, e])]
/-- one more, if it is not there -/
def addN {α : Type} [DecidableEq α] (l : List α) (x : α) : List α := if (l.any fun y => decide (y = x)) then l else l ++ [x]
theorem addN_mem {α : Type} [DecidableEq α] (l : List α) (x y : α) : y ∈ addN l x ↔ y ∈ l ∨ y = x := by
  unfold addN
  split
  · rename_i h
    have := (any_mem l x).1 h
    exact ⟨.inl, fun q => q.elim id (fun e => e ▸ this)⟩
  · simp
theorem addN_nodup {α : Type} [DecidableEq α] {l : List α} (h : l.Nodup) (x : α) : (addN l x).Nodup := by
  unfold addN
  split
  · exact h
  · rename_i q
    rw [List.nodup_append]
    exact ⟨h, by simp, fun a ha c hc e => by rw [List.mem_singleton] at hc; subst hc; subst e; exact q ((any_mem _ _).2 ha)⟩
theorem addN_set {α : Type} [DecidableEq α] (l : List α) (x : α) : updM (setF l) x (some ()) = setF (addN l x) := by
  rw [setF_put]
  exact setF_iff fun y => by rw [addN_mem]; simp
theorem addN_cnt {α : Type} [DecidableEq α] (l : List α) (x : α) : cntPut (setF l) x l.length = (addN l x).length := by
  unfold cntPut addN
  by_cases q : x ∈ l
  · rw [setF_mem q, if_pos ((any_mem l x).2 q)]; rfl
  · rw [setF_not q, if_neg (fun h => by cases h), if_neg (fun r => q ((any_mem l x).1 r))]; simp
/-- the keys of some, each once -/
def dedup {α : Type} [DecidableEq α] (l : List α) : List α := l.foldl addN []
theorem dedup_snoc {α : Type} [DecidableEq α] (l : List α) (x : α) : dedup (l ++ [x]) = addN (dedup l) x := by unfold dedup; rw [List.foldl_append]; rfl
theorem foldl_addN {α : Type} [DecidableEq α] : ∀ (l : List α) (a : List α), a.Nodup → (l.foldl addN a).Nodup ∧ (∀ y, y ∈ l.foldl addN a ↔ y ∈ a ∨ y ∈ l) ∧ (l.foldl addN a).length ≤ a.length + l.length
  | [], a, h => ⟨h, fun y => by simp, by simp⟩
  | x :: l, a, h => by
    obtain ⟨h1, h2, h3⟩ := foldl_addN l (addN a x) (addN_nodup h x)
    refine ⟨h1, fun y => by rw [List.foldl_cons, h2, addN_mem]; simp [or_assoc], ?_⟩
    have : (addN a x).length ≤ a.length + 1 := by unfold addN; split <;> simp
    rw [List.foldl_cons]
    simp only [List.length_cons]
    omega
theorem dedup_nodup {α : Type} [DecidableEq α] (l : List α) : (dedup l).Nodup := (foldl_addN l [] List.nodup_nil).1
theorem dedup_mem {α : Type} [DecidableEq α] (l : List α) (y : α) : y ∈ dedup l ↔ y ∈ l := by unfold dedup; rw [(foldl_addN l [] List.nodup_nil).2.1]; simp
theorem dedup_len {α : Type} [DecidableEq α] (l : List α) : (dedup l).length ≤ l.length := by have := (foldl_addN l [] List.nodup_nil).2.2; simpa [dedup] using this
theorem visL_snoc (l : List ByteArray) (x : ByteArray) : visL (l ++ [x]) = if hidB x then visL l else visL l ++ [x] := by
  unfold visL
  rw [List.filter_append]
  by_cases h : hidB x = true <;> simp [h]
theorem visL_len (l : List ByteArray) : (visL l).length ≤ l.length := List.length_filter_le _ _
theorem bindsOf_len (m : ByteArray) (l : List ByteArray) : (bindsOf m l).length = (visL l).length := by unfold bindsOf; simp
theorem bindsOf_snoc (m : ByteArray) (l : List ByteArray) (x : ByteArray) : bindsOf m (l ++ [x]) = if hidB x then bindsOf m l else bindsOf m l ++ [(x, defB m x)] := by
  unfold bindsOf
  rw [visL_snoc]
  split <;> simp
/-- a module's two maps -/
structure GvAt (w : World) (o b : Nat) (own : List ByteArray) (bs : List Bd) : Prop where
  own : MapAt sKeys tt w o own.length (setF own)
  bs : MapAt bdKeys tt w b bs.length (setF bs)
theorem GvAt.below {w w' : World} {B o b : Nat} {own : List ByteArray} {bs : List Bd} (h : GvAt w o b own bs) (hb : Below B w w') (h1 : o < B) (h2 : b < B) : GvAt w' o b own bs := ⟨h.own.below hb h1, h.bs.below hb h2⟩
theorem load_gv (W : World) (b : Nat) (x y : Nat) (h : W.heap[b]? = some (.cells #[.map (some x), .map (some y)] gvT (0, 0))) : (loadVar gvT ⟨b, 0, none⟩).run Try.prog W = .ok (.agg #[.map (some x), .map (some y)]) W := by
  have c0 : W.cell? ⟨b, 0, none⟩ = some (.map (some x)) := by rw [Lib.cell_of_heap h]; rfl
  have c1 : W.cell? ⟨b, 1, none⟩ = some (.map (some y)) := by rw [Lib.cell_of_heap h]; rfl
  go_simp
theorem sAt {w : World} {b off : Nat} {L : List ByteArray} (h : CellsAt w b off (encS.all L)) (i : Nat) (hi : i < L.length) : w.cell? ⟨b, off + i, none⟩ = some (.string (L.getD i ByteArray.empty)) := by
  have := h.elem i hi 0 (by decide) (.string L[i]) rfl
  have e : encS.size = 1 := rfl
  rw [e] at this
  simpa [List.getD, List.getElem?_eq_getElem hi] using this
theorem take_snoc {α : Type} (L : List α) (d : α) (j : Nat) (h : j < L.length) : L.take (j + 1) = L.take j ++ [L.getD j d] := by
  rw [List.take_succ_eq_append_getElem h]
  simp [List.getD, List.getElem?_eq_getElem h]

/-- begin under way: the result's box, the box of g, the two maps -/
structure Bg (w wr : World) (own : List ByteArray) (bs : List Bd) : Prop where
  res : wr.heap[w.heap.size]? = some (.cells #[.map none, .map none] gvT (0, 0))
  box : wr.heap[w.heap.size + 1 + 1 + 1]? = some (.cells #[.map (some (w.heap.size + 1)), .map (some (w.heap.size + 1 + 1))] gvT (0, 0))
  gv : GvAt wr (w.heap.size + 1) (w.heap.size + 1 + 1) own bs
  below : Below w.heap.size w wr
theorem heap_lt {w : World} {k : Nat} {o : Obj} (h : w.heap[k]? = some o) : k < w.heap.size := (Array.getElem?_eq_some_iff.1 h).1
theorem Bg.turn1 {w wr w1 : World} {own : List ByteArray} {bs : List Bd} {x : ByteArray} (h : Bg w wr own bs) (hm : MapAt sKeys tt w1 (w.heap.size + 1) (cntPut (setF own) x own.length) (updM (setF own) x (some ()))) (ht : wr.mapTurned w1 (w.heap.size + 1)) : Bg w w1 (addN own x) bs := by
  have hg := ht.grown
  refine ⟨(hg.block _ (heap_lt h.res) (by simp <;> omega)).trans h.res, (hg.block _ (heap_lt h.box) (by simp <;> omega)).trans h.box, ⟨?_, h.gv.bs.kept hg (by simp <;> omega)⟩, h.below.trans (mapTurned_below ht (by omega) h.gv.own.lt)⟩
  rw [← addN_set, ← addN_cnt]
  exact hm
theorem Bg.turn2 {w wr w1 : World} {own : List ByteArray} {bs : List Bd} {x : Bd} (h : Bg w wr own bs) (hm : MapAt bdKeys tt w1 (w.heap.size + 1 + 1) (cntPut (setF bs) x bs.length) (updM (setF bs) x (some ()))) (ht : wr.mapTurned w1 (w.heap.size + 1 + 1)) : Bg w w1 own (addN bs x) := by
  have hg := ht.grown
  refine ⟨(hg.block _ (heap_lt h.res) (by simp <;> omega)).trans h.res, (hg.block _ (heap_lt h.box) (by simp <;> omega)).trans h.box, ⟨h.gv.own.kept hg (by simp <;> omega), ?_⟩, h.below.trans (mapTurned_below ht (by omega) h.gv.bs.lt)⟩
  rw [← addN_set, ← addN_cnt]
  exact hm
theorem Bg.start (w : World) : Bg w ((((w.alloc (.cells #[.map none, .map none] gvT)).alloc (.map #[] 0)).alloc (.map #[] 0)).alloc (.cells #[.map (some (w.heap.size + 1)), .map (some (w.heap.size + 1 + 1))] gvT)) [] [] := by
  have s1 : (w.alloc (.cells #[.map none, .map none] gvT)).heap.size = w.heap.size + 1 := World.size_alloc _ _
  have s2 : ((w.alloc (.cells #[.map none, .map none] gvT)).alloc (.map #[] 0)).heap.size = w.heap.size + 1 + 1 := by rw [World.size_alloc, s1]
  have s3 : (((w.alloc (.cells #[.map none, .map none] gvT)).alloc (.map #[] 0)).alloc (.map #[] 0)).heap.size = w.heap.size + 1 + 1 + 1 := by rw [World.size_alloc, s2]
  have m1 := MapAt.made sKeys tt (w.alloc (.cells #[.map none, .map none] gvT))
  have m2 := MapAt.made bdKeys tt ((w.alloc (.cells #[.map none, .map none] gvT)).alloc (.map #[] 0))
  rw [s1] at m1; rw [s2] at m2
  have b1 := below_box w (.cells #[.map none, .map none] gvT)
  have b2 := below_box (w.alloc (.cells #[.map none, .map none] gvT)) (.map #[] 0)
  have b3 := below_box ((w.alloc (.cells #[.map none, .map none] gvT)).alloc (.map #[] 0)) (.map #[] 0)
  have b4 := below_box (((w.alloc (.cells #[.map none, .map none] gvT)).alloc (.map #[] 0)).alloc (.map #[] 0)) (.cells #[.map (some (w.heap.size + 1)), .map (some (w.heap.size + 1 + 1))] gvT)
  have h0 := heap_alloc_new w (.cells #[.map none, .map none] gvT)
  have h3 := heap_alloc_new (((w.alloc (.cells #[.map none, .map none] gvT)).alloc (.map #[] 0)).alloc (.map #[] 0)) (.cells #[.map (some (w.heap.size + 1)), .map (some (w.heap.size + 1 + 1))] gvT)
  rw [s3] at h3
  have b24 := bnext b2 (bnext b3 b4)
  exact ⟨(b24.block _ (by rw [s1]; omega)).trans h0, h3, ⟨((m1.alloc _).alloc _), m2.alloc _⟩, bnext b1 b24⟩

set_option maxHeartbeats 4000000 in
theorem begin_any (m : ByteArray) (p : Option Addr) (n cap : Nat) (L : List ByteArray) (w : World) (hL : L.length ≤ 1000) (hs : SlIs encS w (.slice p n cap) L) (hm : m.size ≤ 1000) (hf : ∀ s ∈ L, s.size ≤ 1000) :
    Calls Try.prog 45 #[.string m, .slice p n cap] w fun e w' => ∃ o b, e = .returned (.agg #[.map (some o), .map (some b)]) ∧ w.heap.size ≤ o ∧ w.heap.size ≤ b ∧ o ≠ b ∧ b < w'.heap.size ∧ GvAt w' o b (dedup (visL L)) (dedup (bindsOf m L)) ∧ Below w.heap.size w w' := by
  obtain ⟨hn, hc1, hc2, hlies⟩ := hs.lies
  have hnb : (n : Int) ≤ 1000 := by omega
  have Hn := Lib.hid hn
  have HL := Lib.hid hL
  have HF := Lib.hid hf
  have HM := Lib.hid hm
  clear hn hs hL hf hm
  have hm1 := @run_makeMap Try.prog
  have H0 := Lib.hid (Bg.start w)
  go_enter Try.func45, Try.ntmps45
  go_wp2_with fail
  go_loopw [13] (fun i wr => ∃ j : Nat, j ≤ n ∧ i = .int .i64 j ∧ Hid (Bg w wr (dedup (visL (L.take j))) (dedup (bindsOf m (L.take j))))) (fun i _ => n - (intOf i).toNat)
  case atStart => exact ⟨0, Nat.zero_le _, rfl, H0⟩
  case round =>
    obtain ⟨j, hj, rfl, HB⟩ := hrel
    clear H0
    by_cases hlt : j < n
    · obtain ⟨b, off, rfl, hcells⟩ := hlies (by omega)
      have hjl : j < L.length := by rw [← Hn.out]; exact hlt
      have c0 := sAt (hcells.belowN HB.out.below (by have := World.block_lt_of_cell? w _ (sAt hcells j hjl); exact this)) j hjl
      have HT := Lib.hid (take_snoc L ByteArray.empty j hjl)
      have HS : Hid ((L.getD j ByteArray.empty).size ≤ 1000) := HF.out _ (by simp [List.getD, List.getElem?_eq_getElem hjl])
      generalize L.getD j ByteArray.empty = s at *
      have q1 : wr.cell? ⟨w.heap.size + 1 + 1 + 1, 0, none⟩ = some (.map (some (w.heap.size + 1))) := by rw [Lib.cell_of_heap HB.out.box]; rfl
      have q2 : wr.cell? ⟨w.heap.size + 1 + 1 + 1, 1, none⟩ = some (.map (some (w.heap.size + 1 + 1))) := by rw [Lib.cell_of_heap HB.out.box]; rfl
      obtain ⟨hb, hbe⟩ : ∃ hb, hb = hidB s := ⟨_, rfl⟩
      have HBE := Lib.hid hbe
      clear hbe
      have hm0 : m.size ≤ 1000 := HM.out
      have hs0 : s.size ≤ 1000 := HS.out
      have hsz1 : ¬ 9223372036854775807 < m.size + 2 := by omega
      have hsz2 : ¬ 9223372036854775807 < m.size + 2 + s.size := by omega
      have hn1 : (dedup (visL (L.take j))).length < maxLen := by
        have h1 := dedup_len (visL (L.take j)); have h2 := visL_len (L.take j); have h3 := HL.out; simp at h2; unfold maxLen; omega
      have hn2 : (dedup (bindsOf m (L.take j))).length < maxLen := by
        have h1 := dedup_len (bindsOf m (L.take j)); have h2 := visL_len (L.take j); have h3 := HL.out; rw [bindsOf_len] at h1; simp at h2; unfold maxLen; omega
      have hfs : s.size ≤ maxLen := by unfold maxLen; omega
      have hfd : (defB m s).size ≤ maxLen := by unfold defB colons maxLen; rw [ByteArray.size_append, ByteArray.size_append]; show m.size + 2 + s.size ≤ _; omega
      cases hb with
      | true =>
        have HN : Hid (Bg w wr (dedup (visL (L.take (j + 1)))) (dedup (bindsOf m (L.take (j + 1))))) := by
          rw [HT.out, visL_snoc, bindsOf_snoc, if_pos HBE.out.symm, if_pos HBE.out.symm]; exact HB.out
        clear HB hsz1 hsz2 hn1 hn2 hfs hfd HF HL
        go_wp2_with (first
          | (go_at_call 60; refine (Try.strings_HasPrefix s ⟨#[105, 109, 112, 108, 32]⟩ _).mono ?_; rintro e w1 ⟨rfl, rfl⟩; rw [show Lib.hasPrefix s.data.toList _ = true from HBE.out.symm])
          | fail)
        go_roundw
        case rel => exact ⟨j + 1, by omega, by go_num, HN⟩
        case measure => simp [intOf]; omega
      | false =>
        have HVE : Hid (dedup (visL (L.take (j + 1))) = addN (dedup (visL (L.take j))) s) := by
          rw [Hid, HT.out, visL_snoc, if_neg (by rw [← HBE.out]; simp), dedup_snoc]
        have HDE : Hid (dedup (bindsOf m (L.take (j + 1))) = addN (dedup (bindsOf m (L.take j))) (s, defB m s)) := by
          rw [Hid, HT.out, bindsOf_snoc, if_neg (by rw [← HBE.out]; simp), dedup_snoc]
        generalize dedup (visL (L.take j)) = own at *
        generalize dedup (bindsOf m (L.take j)) = bs at *
        have HFD := Lib.hid hfd
        have HFS := Lib.hid hfs
        have HN2 := Lib.hid hn2
        clear hfd hfs HF HL hn2
        go_wp2_with (first
          | (go_at_call 60; refine (Try.strings_HasPrefix s ⟨#[105, 109, 112, 108, 32]⟩ _).mono ?_; rintro e w1 ⟨rfl, rfl⟩; rw [show Lib.hasPrefix s.data.toList _ = false from HBE.out.symm])
          | (at_mapUpdate; refine wpList_store (K := sKeys) (val := tt) _ rfl _ _ _ 80 4 rfl Try.underlying80 hn1 rfl HB.out.gv.own s rfl HFS.out () rfl ?_; intro w2 hm2 ht2; have HB2 := Lib.hid (HB.out.turn1 hm2 ht2); clear hm2 ht2 HB q1 q2 c0; have q2 : w2.cell? ⟨w.heap.size + 1 + 1 + 1, 1, none⟩ = some (.map (some (w.heap.size + 1 + 1))) := (by rw [Lib.cell_of_heap HB2.out.box]; rfl))
          | (at_mapUpdate; refine wpList_store (K := bdKeys) (val := tt) _ rfl _ _ _ 81 4 rfl Try.underlying81 HN2.out rfl HB2.out.gv.bs (s, defB m s) rfl ⟨HFS.out, HFD.out⟩ () rfl ?_; intro w3 hm3 ht3; have HB3 := Lib.hid (HB2.out.turn2 hm3 ht3); clear hm3 ht3 HB2 q2)
          | fail)
        go_roundw
        case rel => exact ⟨j + 1, by omega, by go_num, by rw [HVE.out, HDE.out]; exact HB3⟩
        case measure => simp [intOf]; omega
    · have hje : j = n := by omega
      have hlen : L.take j = L := by rw [hje, Hn.out]; exact List.take_length
      rw [hlen] at HB
      have q1 : wr.cell? ⟨w.heap.size + 1 + 1 + 1, 0, none⟩ = some (.map (some (w.heap.size + 1))) := by rw [Lib.cell_of_heap HB.out.box]; rfl
      have q2 : wr.cell? ⟨w.heap.size + 1 + 1 + 1, 1, none⟩ = some (.map (some (w.heap.size + 1 + 1))) := by rw [Lib.cell_of_heap HB.out.box]; rfl
      have r1 : wr.cell? ⟨w.heap.size, 0, none⟩ = some (.map none) := by rw [Lib.cell_of_heap HB.out.res]; rfl
      have r2 : wr.cell? ⟨w.heap.size, 1, none⟩ = some (.map none) := by rw [Lib.cell_of_heap HB.out.res]; rfl
      have rf : ∀ i, wr.frozen? ⟨w.heap.size, i, none⟩ = false := fun i => Lib.frozen_of_heap HB.out.res i
      clear hje hlen hlies
      go_wp2_with fail
      have hb1 := heap_setCell_same _ _ 0 _ _ (.map (some (w.heap.size + 1))) HB.out.res
      have hb2 := heap_setCell_same _ _ 1 _ _ (.map (some (w.heap.size + 1 + 1))) hb1
      have hbe1 : Below w.heap.size wr (wr.setCell ⟨w.heap.size, 0, none⟩ (.map (some (w.heap.size + 1)))) := (Below.refl _ _).setCell (p := ⟨w.heap.size, 0, none⟩) (Nat.le_refl _) _
      have hbe2 := hbe1.setCell (p := ⟨w.heap.size, 1, none⟩) (Nat.le_refl _) (.map (some (w.heap.size + 1 + 1)))
      refine bodyPost_ret (results_cellE rfl _ _ _ ⟨w.heap.size, 0, none⟩ _ rfl (load_gv _ _ (w.heap.size + 1) (w.heap.size + 1 + 1) hb2)) rfl ?_
      have hsz := hbe2.size
      have hlb := HB.out.gv.bs.lt
      have hlo := HB.out.gv.own.lt
      refine ⟨_, _, rfl, by omega, by omega, by omega, by omega, ⟨HB.out.gv.own.same ?_, HB.out.gv.bs.same ?_⟩, HB.out.below.trans hbe2⟩
      · rw [Below.heap_setCell _ _ _ _ (by simp <;> omega), Below.heap_setCell _ _ _ _ (by simp <;> omega)]
      · rw [Below.heap_setCell _ _ _ _ (by simp <;> omega), Below.heap_setCell _ _ _ _ (by simp <;> omega)]
end Go.Proofs.Ytheigpiffdabnaa.Mds
