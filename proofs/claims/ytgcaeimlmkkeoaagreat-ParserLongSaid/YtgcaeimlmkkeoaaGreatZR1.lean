/-
  CONTRACTS: the reader of the reference: whether nothing was wrong so far, the next token, its place, a fault.
-/
import Derived.Test.YtgcaeimlmkkeoaaGreatZA13
import Derived.Deep.QuietTactic
import Derived.BigQuiet
set_option linter.unusedSimpArgs false
set_option linter.unusedVariables false
namespace Go.Proofs.YtgcaeimlmkkeoaaGreat
open Go Go.RowKit
attribute [local go_sem] field_tok0 field_tok1 field_tok2
/-- the reference's reader lies there: the token a comes next, and bad is the first one that is not permitted, or -1 -/
structure RrIn (r : Rdr) (a : Nat) (bad : Int) (s : Bool) (w : World) : Prop where
 cells : w.heap[r.b]? = some (.cells #[.slice r.p r.L.length r.cap, .int .i64 (a : Int), .int .i64 bad, .bool s] 71 (0, 0))
 toks : SlIs tokEnc w (.slice r.p r.L.length r.cap) r.L
 away : ∀ b o, r.p = some ⟨b, o, none⟩ → b < r.b
 lt : a < r.L.length
 few : r.L.length ≤ 20001
 low : -1 ≤ bad ∧ bad < 20001
theorem RrIn.below {r : Rdr} {a : Nat} {bad : Int} {s : Bool} {w w' : World} (h : RrIn r a bad s w) (hb : Below w.heap.size w w') : RrIn r a bad s w' :=
 ⟨by rw [hb.block r.b (lt_heap h.cells)]; exact h.cells, h.toks.below hb, h.away, h.lt, h.few, h.low⟩
theorem RrIn.c {r : Rdr} {a : Nat} {bad : Int} {s : Bool} {w : World} (h : RrIn r a bad s w) :
  w.cell? ⟨r.b, 0, none⟩ = some (.slice r.p r.L.length r.cap) ∧ w.cell? ⟨r.b, 1, none⟩ = some (.int .i64 (a : Int)) ∧ w.cell? ⟨r.b, 2, none⟩ = some (.int .i64 bad) ∧ w.cell? ⟨r.b, 3, none⟩ = some (.bool s) ∧ ∀ k, w.frozen? ⟨r.b, k, none⟩ = false :=
 ⟨by rw [Lib.cell_of_heap h.cells]; rfl, by rw [Lib.cell_of_heap h.cells]; rfl, by rw [Lib.cell_of_heap h.cells]; rfl, by rw [Lib.cell_of_heap h.cells]; rfl, fun k => Lib.frozen_of_heap h.cells k⟩
theorem RrIn.tok {r : Rdr} {a : Nat} {bad : Int} {s : Bool} {w : World} (h : RrIn r a bad s w) (k : Nat) (hk : k < r.L.length) : ∃ b off, r.p = some ⟨b, off, none⟩ ∧
  w.cell? ⟨b, off + k * 3, none⟩ = some (.int .i64 (r.L.getD k tok0).kind) ∧ w.cell? ⟨b, off + k * 3 + 1, none⟩ = some (.string (r.L.getD k tok0).text) ∧ w.cell? ⟨b, off + k * 3 + 2, none⟩ = some (.int .i64 (r.L.getD k tok0).at_) := by
 obtain ⟨_, _, _, hl⟩ := h.toks.lies
 obtain ⟨b, off, e, hc⟩ := hl (by omega)
 exact ⟨b, off, e, tok_cells hc k hk⟩
/-- another place, another fault -/
theorem RrIn.set {r : Rdr} {a a' : Nat} {bad bad' : Int} {s s' : Bool} {w w' : World} (h : RrIn r a bad s w) (hm : Mv r w w') (hc : w'.heap[r.b]? = some (.cells #[.slice r.p r.L.length r.cap, .int .i64 (a' : Int), .int .i64 bad', .bool s'] 71 (0, 0))) (ha : a' < r.L.length) (hb : -1 ≤ bad' ∧ bad' < 20001) : RrIn r a' bad' s' w' :=
 ⟨hc, SlIs.but h.toks hm (fun b o i e q => by have h1 := h.away b o e; have h2 : b = r.b := q; omega), h.away, ha, h.few, hb⟩
/-- the states of a reading: at a token, or with the first fault -/
def RrAt (r : Rdr) (σ : Except Nat Nat) (s : Bool) (w : World) : Prop :=
 match σ with
 | .ok i => RrIn r i (-1) s w
 | .error k => k < r.L.length ∧ ∃ a, RrIn r a (k : Int) s w
/-- the first fault, if this token is not permitted -/
def badOf : Except Nat Nat → Nat
 | .ok i => i
 | .error k => k
set_option maxRecDepth 100000 in
theorem rOk_any (r : Rdr) (a : Nat) (bad : Int) (s : Bool) (w : World) (h : RrIn r a bad s w) :
  Calls Tryz.prog 34 #[.pointer (some ⟨r.b, 0, none⟩)] w fun e w' => e = .returned (.bool (decide (bad < 0))) ∧ w' = w := by
 obtain ⟨c0, c1, c2, c3, fz⟩ := h.c
 clear h
 go_enter Tryz.func34, Tryz.ntmps34
 go_wp2_with fail
 go_ret
 exact ⟨rfl, rfl⟩
set_option maxRecDepth 100000 in
set_option maxHeartbeats 1000000 in
theorem rNext_any (r : Rdr) (a : Nat) (bad : Int) (s : Bool) (w : World) (h : RrIn r a bad s w) :
  Calls Tryz.prog 39 #[.pointer (some ⟨r.b, 0, none⟩)] w fun e w' => e = .returned (.agg (tkC (r.L.getD a tok0).kind (r.L.getD a tok0).text (r.L.getD a tok0).at_)) ∧ Below w.heap.size w w' := by
 have HR : Hid (RrIn r a bad s (w.alloc (.cells #[.int .i64 0, .string ⟨#[]⟩, .int .i64 0] 62)).drew) := (h.below (boxB w _)).below ((Below.refl _ _).drew)
 have HN : Hid ((w.alloc (.cells #[.int .i64 0, .string ⟨#[]⟩, .int .i64 0] 62)).drew.heap[w.heap.size]? = some (.cells (tkC 0 ⟨#[]⟩ 0) 62 (0, 0))) := heap_alloc_new w _
 have HB : Hid (Below w.heap.size w (w.alloc (.cells #[.int .i64 0, .string ⟨#[]⟩, .int .i64 0] 62)).drew) := (boxB w _).drew
 have HRB : Hid (r.b < w.heap.size) := lt_heap h.cells
 clear h
 go_enter Tryz.func39, Tryz.ntmps39
 go_wp2_with fail
 obtain ⟨wd, hwd⟩ : ∃ wd, (w.alloc (.cells #[.int .i64 0, .string ⟨#[]⟩, .int .i64 0] 62)).drew = wd := ⟨_, rfl⟩
 refine still_tail 10 (by kernel_rfl) (by kernel_rfl) wd hwd ?_
 rw [hwd] at HR HN HB
 clear hwd
 obtain ⟨c0, c1, c2, c3, fz⟩ := HR.out.c
 have hlt := HR.out.lt
 obtain ⟨b, off, hp, t0, t1, t2⟩ := HR.out.tok a hlt
 rw [hp] at c0
 have hi : (a : Int) < (r.L.length : Int) := by omega
 generalize hx : r.L.getD a tok0 = x at *
 obtain ⟨k, t, z⟩ := x
 have HX := Lib.hid hx
 clear hx
 simp only at t0 t1 t2
 have d0 : wd.cell? ⟨w.heap.size, 0, none⟩ = some (.int .i64 0) := by rw [Lib.cell_of_heap HN.out]; rfl
 have d1 : wd.cell? ⟨w.heap.size, 1, none⟩ = some (.string ⟨#[]⟩) := by rw [Lib.cell_of_heap HN.out]; rfl
 have d2 : wd.cell? ⟨w.heap.size, 2, none⟩ = some (.int .i64 0) := by rw [Lib.cell_of_heap HN.out]; rfl
 have f0 : ∀ j, wd.frozen? ⟨w.heap.size, j, none⟩ = false := fun j => Lib.frozen_of_heap HN.out j
 simp only [List.take_succ_cons, List.take_zero, List.drop_succ_cons, List.drop_zero]
 repeat still_step
 refine wpStill_nil ?_
 go_wp2_with fail
 have hcell : (((wd.setCell ⟨w.heap.size, 0, none⟩ (.int .i64 k)).setCell ⟨w.heap.size, 1, none⟩ (.string t)).setCell ⟨w.heap.size, 2, none⟩ (.int .i64 z)).heap[w.heap.size]? = some (.cells (tkC k t z) 62 (0, 0)) :=
  heap_setCell_same _ _ _ _ _ _ (heap_setCell_same _ _ _ _ _ _ (heap_setCell_same _ _ _ _ _ _ HN.out))
 have hbel : Below w.heap.size w (((wd.setCell ⟨w.heap.size, 0, none⟩ (.int .i64 k)).setCell ⟨w.heap.size, 1, none⟩ (.string t)).setCell ⟨w.heap.size, 2, none⟩ (.int .i64 z)) :=
  ((HB.out.setCell (p := ⟨w.heap.size, 0, none⟩) (Nat.le_refl _) _).setCell (p := ⟨w.heap.size, 1, none⟩) (Nat.le_refl _) _).setCell (p := ⟨w.heap.size, 2, none⟩) (Nat.le_refl _) _
 refine bodyPost_ret (results_cellT rfl _ _ _ ⟨w.heap.size, 0, none⟩ _ rfl (load_tok _ _ _ _ _ hcell)) rfl ⟨?_, hbel⟩
 rw [HX.out]
set_option maxRecDepth 100000 in
theorem rHere_any (r : Rdr) (a : Nat) (bad : Int) (s : Bool) (w : World) (h : RrIn r a bad s w) :
  Calls Tryz.prog 54 #[.pointer (some ⟨r.b, 0, none⟩)] w fun e w' => e = .returned (.int .i64 (r.L.getD a tok0).at_) ∧ Below w.heap.size w w' := by
 have HR := Lib.hid h
 clear h
 go_enter Tryz.func54, Tryz.ntmps54
 go_wp2_with fail
 refine (rNext_any r a bad s w HR.out).mono ?_
 rintro e w1 ⟨rfl, hb⟩
 have HB := Lib.hid hb
 clear hb
 unfold tkC
 go_wp2_with fail
 go_ret
 exact ⟨rfl, HB.out⟩
set_option maxRecDepth 100000 in
set_option maxHeartbeats 1000000 in
/-- a fault at the next token, if there was none before -/
theorem rFail_any (r : Rdr) (σ : Except Nat Nat) (s : Bool) (w : World) (h : RrAt r σ s w) :
  Calls Tryz.prog 64 #[.pointer (some ⟨r.b, 0, none⟩)] w fun e w' => e = .returned (.tuple #[]) ∧ RrAt r (.error (badOf σ)) s w' ∧ Mv r w w' := by
 match σ, h with
 | .ok i, h =>
  have h' : RrIn r i (-1) s w := h
  have HR := Lib.hid h'
  obtain ⟨c0, c1, c2, c3, fz⟩ := h'.c
  have hI : Hid (RrIn r i (i : Int) s (w.setCell ⟨r.b, 2, none⟩ (.int .i64 (i : Int)))) := h'.set (But.setCell w _ _ rfl) (heap_setCell_same w r.b 2 _ _ _ h'.cells) h'.lt (by have := h'.lt; have := h'.few; omega)
  clear h h'
  go_enter Tryz.func64, Tryz.ntmps64
  go_wp2_with fail
  refine (rOk_any r i (-1) s w HR.out).mono ?_
  rintro e w1 ⟨rfl, rfl⟩
  go_wp2_with fail
  first | go_end0 | refine bodyPost_ret (results_none rfl _ _ _) rfl ?_
  exact ⟨rfl, ⟨HR.out.lt, i, hI.out⟩, But.setCell w1 _ _ rfl⟩
 | .error k, h =>
  obtain ⟨hk, a, h'⟩ := h
  have HR := Lib.hid h'
  have hkn : ¬ ((k : Int) < 0) := by omega
  go_enter Tryz.func64, Tryz.ntmps64
  go_wp2_with fail
  refine (rOk_any r a k s w HR.out).mono ?_
  rintro e w1 ⟨rfl, rfl⟩
  go_wp2_with fail
  first | go_end0 | refine bodyPost_ret (results_none rfl _ _ _) rfl ?_
  exact ⟨rfl, ⟨hk, a, HR.out⟩, But.refl _ _⟩
theorem RrAt.in_ {r : Rdr} {σ : Except Nat Nat} {s : Bool} {w : World} (h : RrAt r σ s w) : ∃ a bad, RrIn r a bad s w ∧ (decide (bad < 0) = match σ with | .ok _ => true | .error _ => false) ∧ ∀ i, σ = .ok i → a = i := by
 cases σ with
 | ok i => exact ⟨i, -1, h, rfl, fun j e => by cases e; rfl⟩
 | error k =>
  obtain ⟨_, a, h⟩ := h
  exact ⟨a, k, h, by simp, fun j e => by cases e⟩
theorem RrAt.below {r : Rdr} {σ : Except Nat Nat} {s : Bool} {w w' : World} (h : RrAt r σ s w) (hb : Below w.heap.size w w') : RrAt r σ s w' := by
 cases σ with
 | ok i => exact RrIn.below h hb
 | error k => obtain ⟨h1, a, h⟩ := h; exact ⟨h1, a, h.below hb⟩
/-- the token a is a word or a mark, and this one -/
def isSign (r : Rdr) (a : Nat) (sg : ByteArray) : Bool := (decide ((r.L.getD a tok0).kind = 2) || decide ((r.L.getD a tok0).kind = 4)) && ((r.L.getD a tok0).text.toList == sg.toList)
set_option maxRecDepth 100000 in
set_option maxHeartbeats 1000000 in
theorem rIs_any (r : Rdr) (a : Nat) (bad : Int) (s : Bool) (sg : ByteArray) (w : World) (h : RrIn r a bad s w) :
  Calls Tryz.prog 63 #[.pointer (some ⟨r.b, 0, none⟩), .string sg] w fun e w' => e = .returned (.bool (decide (bad < 0) && isSign r a sg)) ∧ Below w.heap.size w w' := by
 have HR := Lib.hid h
 obtain ⟨kd, HKD⟩ : ∃ kd, Hid ((r.L.getD a tok0).kind = kd) := ⟨_, rfl⟩
 obtain ⟨tx, HTX⟩ : ∃ tx, Hid ((r.L.getD a tok0).text = tx) := ⟨_, rfl⟩
 obtain ⟨ax, HAX⟩ : ∃ ax, Hid ((r.L.getD a tok0).at_ = ax) := ⟨_, rfl⟩
 have hn := rNext_any r a bad s w h
 rw [HKD.out, HTX.out, HAX.out] at hn
 have HN := Lib.hid hn
 generalize hV : (decide (bad < 0) && isSign r a sg) = V
 unfold isSign at hV
 rw [HKD.out, HTX.out] at hV
 have HV := Lib.hid hV
 clear h hn hV
 go_enter Tryz.func63, Tryz.ntmps63
 go_wp2_with fail
 refine HN.out.mono ?_
 rintro e w1 ⟨rfl, hb⟩
 have HB1 := Lib.hid hb
 have HR1 := Lib.hid (HR.out.below hb)
 clear hb HKD HTX HAX HN
 unfold tkC
 have HR2 := Lib.hid (HR1.out.below (boxB w1 (.cells #[.int .i64 kd, .string tx, .int .i64 ax] 62)))
 have HB2 := Lib.hid (HB1.out.trans ((boxB w1 (.cells #[.int .i64 kd, .string tx, .int .i64 ax] 62)).mono HB1.out.size))
 by_cases hbad : bad < 0
 ·by_cases h2 : kd = 2
  ·subst h2
   cases ht : (tx.toList == sg.toList)
   all_goals
    have hve := HV.out
    rw [ht, decide_eq_true hbad] at hve
    have HVE := Lib.hid hve
    clear hve
    have hd : decide (bad < 0) = true := decide_eq_true hbad
    clear HV
    go_wp2_with fail
    refine (rOk_any r a bad s _ HR2.out).mono ?_
    rintro e w2 ⟨rfl, rfl⟩
    rw [hd]
    go_wp2_with fail
    go_ret
    exact ⟨by rw [← HVE.out]; rfl, HB2.out⟩
  ·have h2b : (kd == 2) = false := by simpa using h2
   by_cases h4 : kd = 4
   ·subst h4
    cases ht : (tx.toList == sg.toList)
    all_goals
     have hve := HV.out
     rw [ht, decide_eq_true hbad] at hve
     have HVE := Lib.hid hve
     clear hve
     have hd : decide (bad < 0) = true := decide_eq_true hbad
     clear HV
     go_wp2_with fail
     refine (rOk_any r a bad s _ HR2.out).mono ?_
     rintro e w2 ⟨rfl, rfl⟩
     rw [hd]
     go_wp2_with fail
     go_ret
     exact ⟨by rw [← HVE.out]; rfl, HB2.out⟩
   ·have h4b : (kd == 4) = false := by simpa using h4
    have HVE : Hid (V = false) := by have h := HV.out; rw [decide_eq_false h2, decide_eq_false h4, Bool.or_false, Bool.false_and, Bool.and_false] at h; exact h.symm
    have hd : decide (bad < 0) = true := decide_eq_true hbad
    clear HV
    go_wp2_with fail
    refine (rOk_any r a bad s _ HR2.out).mono ?_
    rintro e w2 ⟨rfl, rfl⟩
    rw [hd]
    go_wp2_with fail
    go_ret
    exact ⟨(by rw [HVE.out]; rfl), HB2.out⟩
 ·have HVE : Hid (V = false) := by have h := HV.out; rw [decide_eq_false hbad, Bool.false_and] at h; exact h.symm
  have hd : decide (bad < 0) = false := decide_eq_false hbad
  clear HV
  go_wp2_with fail
  refine (rOk_any r a bad s _ HR2.out).mono ?_
  rintro e w2 ⟨rfl, rfl⟩
  rw [hd]
  go_wp2_with fail
  go_ret
  exact ⟨(by rw [HVE.out]; rfl), HB2.out⟩
end Go.Proofs.YtgcaeimlmkkeoaaGreat
namespace Go.Proofs.YtgcaeimlmkkeoaaGreat
open Go Go.RowKit
def marksL : List Lx.Bs := [[124, 124], [38, 38], [61, 61], [45, 62], [40], [41], [123], [125], [60], [62], [44], [59], [58], [46], [61], [43], [45], [42], [47], [37], [33]]
def knownL : List Lx.Bs := Lx.words ++ marksL
theorem known_run : ∀ x ∈ knownL, x.all Lx.runB = true → Lx.kindRun x = 2 := by decide
theorem known_one : ∀ x ∈ knownL, x.length = 1 → (x.head?.map fun c => Lx.markI (c.toNat : Int)) = some true := by decide
/-- a text that is a word or a mark of the language is a token of these kinds -/
theorem known_kind (c : UInt8) (l : Lx.Bs) (h : ((c :: l).take (Lx.tokLen (c :: l))) ∈ knownL) : Lx.tokKind (c :: l) = 2 ∨ Lx.tokKind (c :: l) = 4 := by
 unfold Lx.tokKind Lx.tokLen at *
 by_cases hr : 0 < Lx.runLen (c :: l)
 ·rw [if_pos hr] at h ⊢
  left
  refine known_run _ h ?_
  have hp : (c :: l).take (Lx.runLen (c :: l)) = (c :: l).takeWhile Lx.runB := ((List.prefix_iff_eq_take.1 (List.takeWhile_prefix Lx.runB))).symm
  rw [hp]
  exact List.all_takeWhile
 ·rw [if_neg hr] at h ⊢
  by_cases hm : 0 < Lx.markLen (c :: l)
  ·rw [if_pos hm]; exact .inr rfl
  ·exfalso
   rw [if_neg hm] at h
   have h1 := known_one _ h rfl
   have h2 : Lx.markI (c.toNat : Int) = true := by simpa using h1
   apply hm
   show 0 < (if Lx.twoM ((c :: l).take 2) = true then 2 else if Lx.markI (c.toNat : Int) = true then 1 else 0)
   rw [if_pos h2]
   split <;> decide
theorem scan_known {l : Lx.Bs} {a : Nat} {T : List Lx.Tok} (h : Lx.Scan l a T) : ∀ t ∈ T, t.text.toList ∈ knownL → t.kind = 2 ∨ t.kind = 4 := by
 induction h with
 | fin a =>
  intro t ht hk
  have : t = ⟨0, ByteArray.empty, a⟩ := by simpa using ht
  subst this
  have e : (ByteArray.empty : ByteArray).toList = [] := by rw [ByteArray.toList_eq]; rfl
  simp only [e] at hk
  exact absurd hk (by decide)
 | blank c l a T hb h ih => exact ih
 | comm c l a T hb hc h ih => exact ih
 | tok c l a T hb hc h ih =>
  intro t ht hk
  rcases List.mem_cons.1 ht with rfl | ht
  ·refine known_kind c l ?_
   have : (Lx.tokOf (c :: l) a).text.toList = (c :: l).take (Lx.tokLen (c :: l)) := by
    unfold Lx.tokOf
    rw [ByteArray.toList_eq, Lx.mk_data]
   rwa [this] at hk
  ·exact ih t ht hk
/-- words and marks are what they look like -/
def Known (L : List Lx.Tok) : Prop := ∀ t ∈ L, t.text.toList ∈ knownL → t.kind = 2 ∨ t.kind = 4
theorem Known.sign {r : Rdr} (h : Known r.L) {a : Nat} (ha : a < r.L.length) {sg : ByteArray} (hs : sg.toList ∈ knownL) : isSign r a sg = isMark r a sg := by
 unfold isSign isMark
 cases ht : ((r.L.getD a tok0).text.toList == sg.toList)
 ·simp
 ·have he : (r.L.getD a tok0).text.toList = sg.toList := by simpa using ht
  have hk := h (r.L.getD a tok0) (by rw [getD_eq _ _ _ ha]; exact List.getElem_mem ha) (by rw [he]; exact hs)
  rcases hk with hk | hk <;> (rw [hk]; rfl)
set_option maxRecDepth 100000 in
set_option maxHeartbeats 1000000 in
theorem rTake_any (r : Rdr) (σ : Except Nat Nat) (s : Bool) (sg : ByteArray) (w : World) (h : RrAt r σ s w) (hE : EndAt r) (hK : Known r.L) (hs : sg.size ≠ 0) (hk : sg.toList ∈ knownL) :
  Calls Tryz.prog 55 #[.pointer (some ⟨r.b, 0, none⟩), .string sg] w fun e w' => ∃ b : Bool, e = .returned (.bool b) ∧ Mv r w w' ∧
   ((∃ i j, σ = .ok i ∧ tookM r sg i = .ok (b, j) ∧ RrAt r (.ok j) s w') ∨ (∃ k, σ = .error k ∧ b = false ∧ RrAt r (.error k) s w')) := by
 obtain ⟨a, bad, hin, hd, ha⟩ := h.in_
 have HIS := Lib.hid (rIs_any r a bad s sg w hin)
 have HR := Lib.hid h
 have HIN := Lib.hid hin
 match σ, HR with
 | .error k, HR =>
  have hdf : decide (bad < 0) = false := hd
  clear h hd hin
  go_enter Tryz.func55, Tryz.ntmps55
  go_wp2_with fail
  refine HIS.out.mono ?_
  rintro e w1 ⟨rfl, hb⟩
  have HR1 := Lib.hid (HR.out.below hb)
  have HM1 := Lib.hid (Mv.of_below (r := r) hb)
  clear hb
  rw [hdf, Bool.false_and]
  go_wp2_with fail
  go_ret
  exact ⟨false, rfl, HM1.out, .inr ⟨k, rfl, rfl, HR1.out⟩⟩
 | .ok i, HR =>
  have hdt : decide (bad < 0) = true := hd
  have hai : a = i := ha i rfl
  subst hai
  have hsg := hK.sign hin.lt hk
  have hlt := hin.lt
  clear h hd hin
  cases hm : isMark r a sg
  ·have hmn : ¬ isMark r a sg = true := by rw [hm]; decide
   go_enter Tryz.func55, Tryz.ntmps55
   go_wp2_with fail
   refine HIS.out.mono ?_
   rintro e w1 ⟨rfl, hb⟩
   have HR1 := Lib.hid (HR.out.below hb)
   have HM1 := Lib.hid (Mv.of_below (r := r) hb)
   clear hb
   rw [hdt, hsg, hm]
   go_wp2_with fail
   go_ret
   exact ⟨false, rfl, HM1.out, .inl ⟨a, a, rfl, by unfold tookM; rw [if_neg hmn], HR1.out⟩⟩
  ·have hi1 := hE.mark hlt hm hs
   have HMK := Lib.hid hm
   go_enter Tryz.func55, Tryz.ntmps55
   go_wp2_with fail
   refine HIS.out.mono ?_
   rintro e w1 ⟨rfl, hb⟩
   have hr1 : RrIn r a (-1) s w1 := HR.out.below hb
   obtain ⟨c0, c1, c2, c3, fz⟩ := hr1.c
   have hwr : IntKind.i64.wrap ((a : Int) + 1) = ((a + 1 : Nat) : Int) := by have := hr1.few; rw [IntWalk.i64_in _ (by omega)]; omega
   have HR2 : Hid (RrIn r (a + 1) (-1) s (w1.setCell ⟨r.b, 1, none⟩ (.int .i64 ((a + 1 : Nat) : Int)))) := hr1.set (But.setCell w1 _ _ rfl) (heap_setCell_same w1 r.b 1 _ _ _ hr1.cells) hi1 (by omega)
   have HM2 : Hid (Mv r w (w1.setCell ⟨r.b, 1, none⟩ (.int .i64 ((a + 1 : Nat) : Int)))) := (Mv.of_below (r := r) hb).trans (But.setCell w1 _ _ rfl)
   clear hb hr1
   rw [hdt, hsg, hm]
   go_wp2_with fail
   go_ret
   exact ⟨true, rfl, HM2.out, .inl ⟨a, a + 1, rfl, by unfold tookM; rw [if_pos HMK.out], HR2.out⟩⟩
end Go.Proofs.YtgcaeimlmkkeoaaGreat
namespace Go.Proofs.YtgcaeimlmkkeoaaGreat
open Go Go.RowKit
/-- where a plain reader leaves a reading -/
def after {α : Type} (p : PM α) (σ : Except Nat Nat) : Except Nat Nat := match σ with
 | .error k => .error k
 | .ok i => match p i with
  | .ok (_, j) => .ok j
  | .error k => .error k
theorem after_ok {α : Type} {p : PM α} {i j : Nat} {x : α} (h : p i = .ok (x, j)) : after p (.ok i) = .ok j := by simp only [after, h]
theorem after_err {α : Type} {p : PM α} {i k : Nat} (h : p i = .error k) : after p (.ok i) = .error k := by simp only [after, h]
theorem after_bind {α β : Type} {p : PM α} {f : α → PM β} {i j : Nat} {x : α} (h : p i = .ok (x, j)) : after (bindM p f) (.ok i) = after (f x) (.ok j) := by
 simp only [after, bindM, h]
theorem after_stop {α β : Type} {p : PM α} {f : α → PM β} {i k : Nat} (h : p i = .error k) : after (bindM p f) (.ok i) = .error k := by
 simp only [after, bindM, h]
theorem RrAt.in2 {r : Rdr} {σ : Except Nat Nat} {s : Bool} {w : World} (h : RrAt r σ s w) : ∃ a bad, RrIn r a bad s w := by
 obtain ⟨a, bad, h, _⟩ := h.in_
 exact ⟨a, bad, h⟩
set_option maxRecDepth 100000 in
set_option maxHeartbeats 1000000 in
theorem rNeed_any (r : Rdr) (σ : Except Nat Nat) (s : Bool) (sg : ByteArray) (w : World) (h : RrAt r σ s w) (hE : EndAt r) (hK : Known r.L) (hs : sg.size ≠ 0) (hk : sg.toList ∈ knownL) :
  Calls Tryz.prog 57 #[.pointer (some ⟨r.b, 0, none⟩), .string sg] w fun e w' => e = .returned (.tuple #[]) ∧ Mv r w w' ∧ RrAt r (after (needM r sg) σ) s w' := by
 obtain ⟨a, bad, hin, hd0, ha⟩ := h.in_
 have hdk : ∀ k, σ = .error k → decide (bad < 0) = false := by
  intro k hk
  subst hk
  exact hd0
 have hdo : ∀ k, σ = .ok k → decide (bad < 0) = true := by
  intro k hk
  subst hk
  exact hd0
 clear hd0
 have HIN := Lib.hid hin
 have HT := Lib.hid (rTake_any r σ s sg w h hE hK hs hk)
 have HR := Lib.hid h
 generalize hX : after (needM r sg) σ = X
 have HX := Lib.hid hX
 clear h hin hX hE hK
 go_enter Tryz.func57, Tryz.ntmps57
 go_wp2_with fail
 refine (rOk_any r a bad s w HIN.out).mono ?_
 rintro e w1 ⟨rfl, rfl⟩
 match σ, HR, HT, HX, hdk, hdo with
 | .error k, HR, HT, HX, hdk, hdo =>
  have hdf : decide (bad < 0) = false := hdk k rfl
  have hX : Except.error k = X := HX.out
  subst hX
  rw [hdf]
  clear HT HX hdf hdk hdo
  go_wp2_with fail
  first | go_end0 | refine bodyPost_ret (results_none rfl _ _ _) rfl ?_
  exact ⟨rfl, But.refl _ _, HR.out⟩
 | .ok i, HR, HT, HX, hdk, hdo =>
  have hdt : decide (bad < 0) = true := hdo i rfl
  rw [hdt]
  clear hdt hdk hdo
  go_wp2_with fail
  refine HT.out.mono ?_
  rintro e w2 ⟨b, rfl, hm, h2⟩
  rcases h2 with ⟨i', j, hi, htk, hr⟩ | ⟨k, hi, _⟩
  ·have hii : i = i' := by simpa using hi
   subst hii
   have HM := Lib.hid hm
   have HR2 := Lib.hid hr
   have hmk : isMark r i sg = b := by
    unfold tookM at htk
    split at htk
    ·rename_i h1; simp only [Except.ok.injEq, Prod.mk.injEq] at htk; rw [h1]; exact htk.1
    ·rename_i h1; simp only [Except.ok.injEq, Prod.mk.injEq] at htk; rw [← htk.1]; simpa using h1
   have hj : j = if b = true then i + 1 else i := by
    unfold tookM at htk
    rw [hmk] at htk
    cases b <;> simp at htk <;> simp [← htk]
   clear hm hr hi htk HT
   cases b
   ·have hX : Except.error i = X := by
     have h := HX.out
     have hn : needM r sg i = .error i := by unfold needM; rw [if_neg (by rw [hmk]; decide)]
     rw [after_err hn] at h
     exact h
    have hji : j = i := by simpa using hj
    clear HX hj
    subst hX
    subst hji
    go_wp2_with fail
    refine (rFail_any r (.ok j) s w2 HR2.out).mono ?_
    rintro e w3 ⟨rfl, hr3, hm3⟩
    have HR3 := Lib.hid hr3
    have HM3 := Lib.hid (HM.out.trans hm3)
    clear hr3 hm3
    go_wp2_with fail
    first | go_end0 | refine bodyPost_ret (results_none rfl _ _ _) rfl ?_
    exact ⟨rfl, HM3.out, HR3.out⟩
   ·have hji : j = i + 1 := by simpa using hj
    have hX : Except.ok j = X := by
     have h := HX.out
     have hn : needM r sg i = .ok ((), i + 1) := by unfold needM; rw [if_pos (by rw [hmk])]
     rw [after_ok hn] at h
     rw [hji]
     exact h
    clear HX hj
    subst hX
    go_wp2_with fail
    first | go_end0 | refine bodyPost_ret (results_none rfl _ _ _) rfl ?_
    exact ⟨rfl, HM.out, HR2.out⟩
  ·cases hi
def deepM (lv : Int) : PM Unit := if 60 < lv then failM else pureM ()
set_option maxRecDepth 100000 in
theorem rDeep_any (r : Rdr) (σ : Except Nat Nat) (s : Bool) (lv : Int) (w : World) (h : RrAt r σ s w) :
  Calls Tryz.prog 67 #[.pointer (some ⟨r.b, 0, none⟩), .int .i64 lv] w fun e w' => e = .returned (.tuple #[]) ∧ Mv r w w' ∧ RrAt r (after (deepM lv) σ) s w' := by
 have HR := Lib.hid h
 clear h
 by_cases hl : 60 < lv
 ·have hX : after (deepM lv) σ = .error (badOf σ) := by
   unfold deepM after
   rw [if_pos hl]
   cases σ <;> rfl
  rw [hX]
  go_enter Tryz.func67, Tryz.ntmps67
  go_wp2_with fail
  refine (rFail_any r σ s w HR.out).mono ?_
  rintro e w3 ⟨rfl, hr3, hm3⟩
  have HR3 := Lib.hid hr3
  have HM3 := Lib.hid hm3
  clear hr3 hm3
  go_wp2_with fail
  first | go_end0 | refine bodyPost_ret (results_none rfl _ _ _) rfl ?_
  exact ⟨rfl, HM3.out, HR3.out⟩
 ·have hX : after (deepM lv) σ = σ := by
   unfold deepM after
   rw [if_neg hl]
   cases σ <;> rfl
  rw [hX]
  go_enter Tryz.func67, Tryz.ntmps67
  go_wp2_with fail
  first | go_end0 | refine bodyPost_ret (results_none rfl _ _ _) rfl ?_
  exact ⟨rfl, But.refl _ _, HR.out⟩
end Go.Proofs.YtgcaeimlmkkeoaaGreat
namespace Go.Proofs.YtgcaeimlmkkeoaaGreat
open Go Go.RowKit
attribute [local go_sem] field_tok0 field_tok1 field_tok2
/-- what was read is what the plain reader gives, where nothing was wrong -/
def Got {α : Type} (p : PM α) (σ : Except Nat Nat) (v : α) : Prop := ∀ i x j, σ = .ok i → p i = .ok (x, j) → v = x
theorem Got.err {α : Type} (p : PM α) (k : Nat) (v : α) : Got p (.error k) v := fun i x j e => by cases e
theorem Got.of {α : Type} {p : PM α} {i j : Nat} {v : α} (h : p i = .ok (v, j)) : Got p (.ok i) v := fun i' x j' e h' => by
 cases e
 rw [h] at h'
 simp only [Except.ok.injEq, Prod.mk.injEq] at h'
 exact h'.1
theorem Got.stop {α : Type} {p : PM α} {i k : Nat} {v : α} (h : p i = .error k) : Got p (.ok i) v := fun i' x j' e h' => by
 cases e
 rw [h] at h'
 cases h'
set_option maxRecDepth 100000 in
set_option maxHeartbeats 1000000 in
theorem rName_any (r : Rdr) (σ : Except Nat Nat) (s : Bool) (w : World) (h : RrAt r σ s w) (hE : EndAt r) :
  Calls Tryz.prog 56 #[.pointer (some ⟨r.b, 0, none⟩)] w fun e w' => ∃ t : ByteArray, e = .returned (.string t) ∧ Mv r w w' ∧ RrAt r (after (nameM r) σ) s w' ∧ Got (nameM r) σ t := by
 have HR := Lib.hid h
 match σ, h, HR with
 | .error k, h, HR =>
  obtain ⟨hk, a, hin⟩ := h
  have HIN := Lib.hid hin
  have hd : decide ((k : Int) < 0) = false := by simp
  have HF := Lib.hid (rFail_any r (.error k) s w HR.out)
  clear hin h
  go_enter Tryz.func56, Tryz.ntmps56
  go_wp2_with fail
  refine (rOk_any r a k s w HIN.out).mono ?_
  rintro e w1 ⟨rfl, rfl⟩
  rw [hd]
  go_wp2_with fail
  refine HF.out.mono ?_
  rintro e w3 ⟨rfl, hr3, hm3⟩
  have HR3 := Lib.hid hr3
  have HM3 := Lib.hid hm3
  clear hr3 hm3
  go_wp2_with fail
  go_ret
  exact ⟨⟨#[]⟩, rfl, HM3.out, HR3.out, Got.err _ _ _⟩
 | .ok i, h, HR =>
  have hin : RrIn r i (-1) s w := h
  have HIN := Lib.hid hin
  have hlt := hin.lt
  have hd : decide ((-1 : Int) < 0) = true := by decide
  have hn := rNext_any r i (-1) s w hin
  obtain ⟨kd, HKD⟩ : ∃ kd, Hid ((r.L.getD i tok0).kind = kd) := ⟨_, rfl⟩
  obtain ⟨tx, HTX⟩ : ∃ tx, Hid ((r.L.getD i tok0).text = tx) := ⟨_, rfl⟩
  obtain ⟨ax, HAX⟩ : ∃ ax, Hid ((r.L.getD i tok0).at_ = ax) := ⟨_, rfl⟩
  rw [HKD.out, HTX.out, HAX.out] at hn
  have HN := Lib.hid hn
  clear hn hin h
  by_cases hk : kd = 1
  ·subst hk
   have hi1 : i + 1 < r.L.length := hE i hlt (.inl HKD.out)
   have hp : nameM r i = .ok (tx, i + 1) := by unfold nameM; rw [if_pos HKD.out, HTX.out]
   have HP := Lib.hid hp
   rw [after_ok hp]
   clear hp
   go_enter Tryz.func56, Tryz.ntmps56
   go_wp2_with fail
   refine (rOk_any r i (-1) s w HIN.out).mono ?_
   rintro e w1 ⟨rfl, rfl⟩
   rw [hd]
   go_wp2_with fail
   refine HN.out.mono ?_
   rintro e w2 ⟨rfl, hb⟩
   have hr1 : RrIn r i (-1) s w2 := HIN.out.below hb
   obtain ⟨c0, c1, c2, c3, fz⟩ := hr1.c
   have hwr : IntKind.i64.wrap ((i : Int) + 1) = ((i + 1 : Nat) : Int) := by have := hr1.few; rw [IntWalk.i64_in _ (by omega)]; omega
   have hws : IntKind.i64.wrap (i : Int) = (i : Int) := by have := hr1.few; exact IntWalk.i64_in _ (by omega)
   have HR2 : Hid (RrIn r (i + 1) (-1) s (w2.setCell ⟨r.b, 1, none⟩ (.int .i64 ((i + 1 : Nat) : Int)))) := hr1.set (But.setCell w2 _ _ rfl) (heap_setCell_same w2 r.b 1 _ _ _ hr1.cells) hi1 (by omega)
   have HM2 : Hid (Mv r w1 (w2.setCell ⟨r.b, 1, none⟩ (.int .i64 ((i + 1 : Nat) : Int)))) := (Mv.of_below (r := r) hb).trans (But.setCell w2 _ _ rfl)
   clear hb hr1
   unfold tkC
   go_wp2_with fail
   obtain ⟨wd, hwd⟩ : ∃ wd, (w2.setCell ⟨r.b, 1, none⟩ (.int .i64 ((i + 1 : Nat) : Int))).drew = wd := ⟨_, rfl⟩
   refine still_tail 12 (by kernel_rfl) (by kernel_rfl) wd hwd ?_
   have hr2 : RrIn r (i + 1) (-1) s wd := by rw [← hwd]; exact HR2.out.below ((Below.refl _ _).drew)
   have hm2 : Mv r w1 wd := by rw [← hwd]; exact HM2.out.trans (Mv.of_below ((Below.refl _ _).drew))
   have HR4 := Lib.hid hr2
   have HM4 := Lib.hid hm2
   clear c0 c1 c2 c3 fz hwd hm2 HR2 HM2
   obtain ⟨c0, c1, c2, c3, fz⟩ := hr2.c
   obtain ⟨b, off, hp, t0, t1, t2⟩ := hr2.tok i hlt
   rw [hp] at c0
   rw [HTX.out] at t1
   have hi : (i : Int) < (r.L.length : Int) := by omega
   clear hr2 t0 t2
   simp only [List.take_succ_cons, List.take_zero, List.drop_succ_cons, List.drop_zero]
   repeat still_step
   refine wpStill_nil ?_
   go_wp2_with fail
   go_ret
   exact ⟨tx, rfl, HM4.out, HR4.out, Got.of HP.out⟩
  ·have hkb : (kd == 1) = false := beq_eq_false_iff_ne.2 hk
   have hp : nameM r i = .error i := by unfold nameM; rw [if_neg (by rw [HKD.out]; exact hk)]
   have HP := Lib.hid hp
   rw [after_err hp]
   clear hp
   go_enter Tryz.func56, Tryz.ntmps56
   go_wp2_with fail
   refine (rOk_any r i (-1) s w HIN.out).mono ?_
   rintro e w1 ⟨rfl, rfl⟩
   rw [hd]
   go_wp2_with fail
   refine HN.out.mono ?_
   rintro e w2 ⟨rfl, hb⟩
   have HR1 := Lib.hid (HR.out.below hb)
   have HM1 := Lib.hid (Mv.of_below (r := r) hb)
   clear hb
   unfold tkC
   go_wp2_with fail
   refine (rFail_any r (.ok i) s w2 HR1.out).mono ?_
   rintro e w3 ⟨rfl, hr3, hm3⟩
   have HR3 := Lib.hid hr3
   have HM3 := Lib.hid (HM1.out.trans hm3)
   clear hr3 hm3
   go_wp2_with fail
   go_ret
   exact ⟨⟨#[]⟩, rfl, HM3.out, HR3.out, Got.stop HP.out⟩
end Go.Proofs.YtgcaeimlmkkeoaaGreat
namespace Go.Proofs.YtgcaeimlmkkeoaaGreat
open Go Go.RowKit
theorem bytes_ext {a b : ByteArray} (h : (a.toList == b.toList) = true) : a = b := by
 rw [beq_iff_eq, ByteArray.toList_eq, ByteArray.toList_eq] at h
 cases a
 cases b
 simpa using h
/-- so far none of them was the next token -/
def NoneYet (r : Rdr) (V : List ByteArray) (σ : Except Nat Nat) (j : Nat) : Prop := ∀ i, σ = .ok i → noHit (r.L.getD i tok0).text V j
set_option maxRecDepth 100000 in
set_option maxHeartbeats 1000000 in
theorem rSign_any (r : Rdr) (σ : Except Nat Nat) (s : Bool) (V : List ByteArray) (b o n cap : Nat) (w : World) (h : RrAt r σ s w) (hE : EndAt r) (hK : Known r.L) (hn : n = V.length) (hn2 : n ≤ 100) (hV : TextsAt w b o V) (hbr : b ≠ r.b) (hs : ∀ v ∈ V, v.size ≠ 0) (hk : ∀ v ∈ V, v.toList ∈ knownL) :
  Calls Tryz.prog 121 #[.pointer (some ⟨r.b, 0, none⟩), .slice (some ⟨b, o, none⟩) n cap] w fun e w' => ∃ t : ByteArray, e = .returned (.string t) ∧ Mv r w w' ∧ RrAt r (after (signM r V) σ) s w' ∧ Got (signM r V) σ t ∧ (∀ k, σ = .error k → t = ⟨#[]⟩) := by
 have HR := Lib.hid h
 have HV := Lib.hid hV
 have HN := Lib.hid hn
 have HEK : Hid (EndAt r ∧ Known r.L) := ⟨hE, hK⟩
 have HSK : Hid ((∀ v ∈ V, v.size ≠ 0) ∧ (∀ v ∈ V, v.toList ∈ knownL)) := ⟨hs, hk⟩
 clear h hV hn hE hK hs hk
 go_enter Tryz.func121, Tryz.ntmps121
 go_wp2_with fail
 go_loopw [4, 6, 9] (fun _ _ i' wr => ∃ j : Nat, j ≤ n ∧ i' = .int .i64 j ∧ Hid (NoneYet r V σ j) ∧ Hid (Mv r w wr) ∧ Hid (RrAt r σ s wr)) (fun _ _ i' _ => n - (intOf i').toNat)
 case atStart => exact ⟨0, Nat.zero_le _, rfl, fun i _ q hq h => absurd h (by omega), But.refl _ _, HR.out⟩
 case round =>
  obtain ⟨j, hj, rfl, hg, hm, hr⟩ := hrel
  by_cases hlt : j < n
  ·have hjV : j < V.length := by rw [← HN.out]; exact hlt
   have c0 := (TextsAt.mvT HV.out hm.out hbr) j hjV
   have hji : (j : Int) < (n : Int) := by omega
   have HT := Lib.hid (rTake_any r σ s V[j] wr hr.out HEK.out.1 HEK.out.2 (HSK.out.1 _ (List.getElem_mem hjV)) (HSK.out.2 _ (List.getElem_mem hjV)))
   generalize hv : V[j] = v at c0 HT
   have HVE := Lib.hid hv
   clear hv
   go_wp2_with fail
   refine HT.out.mono ?_
   rintro e w1 ⟨tk, rfl, hm1, h2⟩
   have HM1 := Lib.hid (hm.out.trans hm1)
   have HG := Lib.hid hg.out
   have H2 := Lib.hid h2
   clear hm hr hm1 c0 hg HT h2
   cases tk
   ·have HS : Hid (NoneYet r V σ (j + 1) ∧ RrAt r σ s w1) := by
     rcases H2.out with ⟨i, j', rfl, htk, hr⟩ | ⟨k, rfl, _, hr⟩
     ·have hmk : isMark r i v = false := by
       unfold tookM at htk
       split at htk
       ·simp at htk
       ·rename_i h1; simpa using h1
      have hj' : j' = i := by
       unfold tookM at htk
       rw [hmk] at htk
       simp at htk
       exact htk.symm
      subst hj'
      refine ⟨fun i' e => ?_, hr⟩
      cases e
      intro q hq hqj
      by_cases e : q = j
      ·subst e; rw [HVE.out]; exact hmk
      ·exact HG.out _ rfl q hq (by omega)
     ·exact ⟨fun i' e => (by cases e), hr⟩
    clear H2
    go_wp2_with fail
    go_roundw
    case rel => exact ⟨j + 1, by omega, by go_num, HS.out.1, HM1.out, HS.out.2⟩
    case measure => simp [intOf]; omega
   ·have HS : Hid (RrAt r (after (signM r V) σ) s w1 ∧ Got (signM r V) σ v ∧ (∀ k, σ = .error k → v = ⟨#[]⟩)) := by
     rcases H2.out with ⟨i, j', rfl, htk, hr⟩ | ⟨k, _, hf, _⟩
     ·have hmk : isMark r i v = true := by
       unfold tookM at htk
       split at htk
       ·rename_i h1; exact h1
       ·simp at htk
      have hj' : j' = i + 1 := by
       unfold tookM at htk
       rw [hmk] at htk
       simp at htk
       exact htk.symm
      subst hj'
      have hh : hit (r.L.getD i tok0).text V = true := hit_yes hjV (by rw [HVE.out]; exact hmk)
      have hvt : (r.L.getD i tok0).text = v := bytes_ext hmk
      have hp : signM r V i = .ok (v, i + 1) := by unfold signM; rw [if_pos hh, hvt]
      exact ⟨by rw [after_ok hp]; exact hr, Got.of hp, fun k e => by cases e⟩
     ·cases hf
    clear H2
    go_wp2_with fail
    go_ret
    exact ⟨v, rfl, HM1.out, HS.out.1, HS.out.2.1, HS.out.2.2⟩
  ·have hje : j = n := by omega
   have HS : Hid (RrAt r (after (signM r V) σ) s wr ∧ Got (signM r V) σ ⟨#[]⟩) := by
    match σ, hg, hr with
    | .ok i, hg, hr =>
     have hh : hit (r.L.getD i tok0).text V = false := hit_no (by rw [← HN.out, ← hje]; exact hg.out _ rfl)
     have hp : signM r V i = .ok (⟨#[]⟩, i) := by unfold signM; rw [if_neg (by rw [hh]; decide)]
     exact ⟨by rw [after_ok hp]; exact hr.out, Got.of hp⟩
    | .error k, hg, hr => exact ⟨hr.out, Got.err _ _ _⟩
   have HM1 := Lib.hid hm.out
   clear hg hm hr
   go_wp2_with fail
   go_ret
   exact ⟨⟨#[]⟩, rfl, HM1.out, HS.out.1, HS.out.2, fun _ _ => rfl⟩
end Go.Proofs.YtgcaeimlmkkeoaaGreat
namespace Go.Proofs.YtgcaeimlmkkeoaaGreat
open Go Go.RowKit
set_option maxRecDepth 100000 in
set_option maxHeartbeats 1000000 in
theorem rLeaf_any (k : Int) (t : ByteArray) (a : Int) (p : Option Addr) (n cap : Nat) (w : World) :
  Calls Tryz.prog 58 #[.int .i64 k, .string t, .int .i64 a, .slice p n cap] w fun e w' => e = .returned (.agg (ndC ⟨k, t, a, p, n, cap⟩)) ∧ Below w.heap.size w w' := by
 have HB := Lib.hid (boxB w (.cells #[.int .i64 0, .string ⟨#[]⟩, .int .i64 0, .slice none 0 0] 40))
 have HN : Hid ((w.alloc (.cells #[.int .i64 0, .string ⟨#[]⟩, .int .i64 0, .slice none 0 0] 40)).heap[w.heap.size]? = some (.cells (ndC ⟨0, ⟨#[]⟩, 0, none, 0, 0⟩) 40 (0, 0))) := heap_alloc_new w _
 go_enter Tryz.func58, Tryz.ntmps58
 go_wp2_with fail
 refine bodyPost_ret (results_cellT rfl _ _ _ ⟨w.heap.size, 0, none⟩ _ rfl (load_node _ _ ⟨k, t, a, p, n, cap⟩ (heap_alloc_new w _))) rfl ⟨rfl, boxB w _⟩
end Go.Proofs.YtgcaeimlmkkeoaaGreat
namespace Go.Proofs.YtgcaeimlmkkeoaaGreat
open Go Go.RowKit
/-- the token behind the next one is this mark -/
def isAft (r : Rdr) (a : Nat) (sg : ByteArray) : Bool := decide (a + 1 < r.L.length) && decide ((r.L.getD (a + 1) tok0).kind = 4) && ((r.L.getD (a + 1) tok0).text.toList == sg.toList)
set_option maxRecDepth 100000 in
set_option maxHeartbeats 1000000 in
theorem rAfter_any (r : Rdr) (a : Nat) (bad : Int) (s : Bool) (sg : ByteArray) (w : World) (h : RrIn r a bad s w) :
  Calls Tryz.prog 117 #[.pointer (some ⟨r.b, 0, none⟩), .string sg] w fun e w' => e = .returned (.bool (isAft r a sg)) ∧ Below w.heap.size w w' := by
 have HR := Lib.hid h
 have hf := h.few
 obtain ⟨c0, c1, c2, c3, fz⟩ := h.c
 have hwr : IntKind.i64.wrap ((a : Int) + 1) = ((a + 1 : Nat) : Int) := by have := h.lt; rw [IntWalk.i64_in _ (by omega)]; omega
 generalize hX : isAft r a sg = X
 have HX := Lib.hid hX
 clear hX
 by_cases hl : a + 1 < r.L.length
 ·obtain ⟨b, off, hp, t0, t1, t2⟩ := h.tok (a + 1) hl
  rw [hp] at c0
  obtain ⟨kd, HKD⟩ : ∃ kd, Hid ((r.L.getD (a + 1) tok0).kind = kd) := ⟨_, rfl⟩
  obtain ⟨tx, HTX⟩ : ∃ tx, Hid ((r.L.getD (a + 1) tok0).text = tx) := ⟨_, rfl⟩
  rw [HKD.out] at t0
  rw [HTX.out] at t1
  have hx : X = (decide (kd = 4) && (tx.toList == sg.toList)) := by
   rw [← HX.out]; unfold isAft; rw [HKD.out, HTX.out, decide_eq_true hl, Bool.true_and]
  have hli : ((a : Int) + 1) < (r.L.length : Int) := by omega
  have hd : decide (((a : Int) + 1) < (r.L.length : Int)) = true := decide_eq_true hli
  clear h HX HKD HTX t2
  by_cases hk : kd = 4
  ·subst hk
   cases ht : (tx.toList == sg.toList)
   all_goals
    rw [ht] at hx
    subst hx
    go_enter Tryz.func117, Tryz.ntmps117
    go_wp2_with fail
    go_quiet (fail)
    go_wp2_with fail
    go_ret
    exact ⟨rfl, drew_below _⟩
  ·have hkb : (kd == 4) = false := beq_eq_false_iff_ne.2 hk
   rw [decide_eq_false hk, Bool.false_and] at hx
   subst hx
   go_enter Tryz.func117, Tryz.ntmps117
   go_wp2_with fail
   go_quiet (fail)
   go_wp2_with fail
   go_ret
   exact ⟨rfl, drew_below _⟩
 ·have hx : X = false := by rw [← HX.out]; unfold isAft; rw [decide_eq_false hl]; rfl
  have hd : decide (((a : Int) + 1) < (r.L.length : Int)) = false := decide_eq_false (by omega)
  subst hx
  clear h HX
  go_enter Tryz.func117, Tryz.ntmps117
  go_wp2_with fail
  go_quiet (fail)
  go_wp2_with fail
  go_ret
  exact ⟨rfl, drew_below _⟩
end Go.Proofs.YtgcaeimlmkkeoaaGreat
