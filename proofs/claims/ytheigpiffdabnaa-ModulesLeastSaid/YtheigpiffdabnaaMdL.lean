/-
  CONTRACTS: (modules.giving).list: the binds of a module in their order.
-/
import Derived.Test.YtheigpiffdabnaaMdJ
import Derived.Test.YtheigpiffdabnaaShelf2
import Derived.Shelf.SlSortCmp.NoneTotal
namespace Go.Proofs.Ytheigpiffdabnaa.Mds
open Go Go.RowKit Go.Maps Go.Shelf
set_option linter.unusedVariables false
set_option linter.unusedSimpArgs false
set_option maxRecDepth 1000000

/-! ### worlds that have draws and blocks behind -/
def GrW (w w' : World) : Prop := ∃ q os, w' = Sort.grow (w.drewN q) os
theorem GrW.refl (w : World) : GrW w w := ⟨0, #[], by rw [Sort.grow_empty]; rfl⟩
theorem grow_drew (w : World) (os : Array Obj) (q : Nat) : (Sort.grow w os).drewN q = Sort.grow (w.drewN q) os := rfl
theorem drewN_drewN (w : World) (a b : Nat) : (w.drewN a).drewN b = w.drewN (a + b) := by
  unfold World.drewN
  simp [Nat.add_assoc]
theorem GrW.trans (w1 w2 w3 : World) (h : GrW w1 w2) (k : GrW w2 w3) : GrW w1 w3 := by
  obtain ⟨q, os, rfl⟩ := h
  obtain ⟨q2, os2, rfl⟩ := k
  exact ⟨q + q2, os ++ os2, by rw [grow_drew, Sort.grow_grow, drewN_drewN]⟩
theorem GrW.alloc (w : World) (o : Obj) : GrW w (w.alloc o) := ⟨0, #[o], Sort.alloc_eq_grow _ _⟩
theorem GrW.drew (w : World) : GrW w w.drew := ⟨1, #[], by rw [Sort.grow_empty]; rfl⟩
theorem GrW.below {w w' : World} (h : GrW w w') : Below w.heap.size w w' := by
  obtain ⟨q, os, rfl⟩ := h
  refine ⟨rfl, rfl, rfl, ?_, fun k hk => Sort.heap_grow_old _ _ (by simpa using hk)⟩
  simp [Sort.grow, World.drewN]
theorem cells_gr {w w' : World} {b off : Nat} {cs : List Value} (h : CellsAt w b off cs) (g : GrW w w') : CellsAt w' b off cs := h.below g.below
def tySl2 (cs : List Value) : Ty GrW := ⟨{b : Nat // True}, ⟨⟨0, trivial⟩⟩, fun b => .slice (some ⟨b.1, 0, none⟩) 2 2, fun b w => CellsAt w b.1 0 cs, fun x w w' hl h => cells_gr h hl⟩
theorem tySl2_f (cs : List Value) (b : Nat) (h : True) : (tySl2 cs).f ⟨b, h⟩ = .slice (some ⟨b, 0, none⟩) 2 2 := rfl
theorem tySl2_p (cs : List Value) (b : Nat) (h : True) (w : World) : (tySl2 cs).φ ⟨b, h⟩ w = CellsAt w b 0 cs := rfl

/-! ### cmp.Or of two -/
def orV (a b : Int) : Int := if a ≠ 0 then a else b
set_option maxHeartbeats 1000000 in
theorem or_any (sb : Nat) (a b : Int) (W : World) (h : CellsAt W sb 0 [.int .i64 a, .int .i64 b]) :
    Calls Try.prog 65 #[.slice (some ⟨sb, 0, none⟩) 2 2] W fun e w' => e = .returned (.int .i64 (orV a b)) ∧ w' = W := by
  obtain ⟨c0, c1⟩ := bd2 h
  clear h
  go_enter Try.func65, Try.ntmps65
  go_wp2
  go_loopw [8] (fun i wr => ∃ j : Nat, j ≤ 2 ∧ i = .int .i64 j ∧ wr = W ∧ (1 ≤ j → a = 0) ∧ (2 ≤ j → b = 0)) (fun i _ => 2 - (intOf i).toNat)
  case atStart => exact ⟨0, by omega, rfl, rfl, fun h => by omega, fun h => by omega⟩
  case round =>
    obtain ⟨j, hj, rfl, rfl, h1, h2⟩ := hrel
    rcases (show j = 0 ∨ j = 1 ∨ j = 2 by omega) with rfl | rfl | rfl
    · clear h1 h2
      by_cases ha : a = 0
      · subst ha
        go_wp2_with fail
        go_roundw
        case rel => exact ⟨1, by omega, by go_num, by first | rfl | trivial, fun _ => by first | rfl | trivial, fun h => by omega⟩
        case measure => simp [intOf]
      · have e1 : orV a b = a := by unfold orV; rw [if_pos ha]
        go_wp2_with fail
        go_ret
        exact ⟨by rw [e1]; rfl, rfl⟩
    · obtain rfl : a = 0 := h1 (by omega)
      clear h1 h2
      by_cases hb : b = 0
      · subst hb
        go_wp2_with fail
        go_roundw
        case rel => exact ⟨2, by omega, by go_num, by first | rfl | trivial, fun _ => by first | rfl | trivial, fun _ => by first | rfl | trivial⟩
        case measure => simp [intOf]
      · have e1 : orV 0 b = b := by unfold orV; simp
        go_wp2_with fail
        go_ret
        exact ⟨by rw [e1]; rfl, rfl⟩
    · obtain rfl : a = 0 := h1 (by omega)
      obtain rfl : b = 0 := h2 (by omega)
      clear h1 h2
      go_wp2_with fail
      go_ret
      exact ⟨rfl, rfl⟩

/-! ### the order of binds -/
open Go.Sort in
theorem lt_bd (x y : Bd) : ltOf bcmp x y = decide (bcmp x y < 0) := rfl
open Go.Sort in
theorem swo_bd : SWO (ltOf bcmp) := by
  refine ⟨fun x => ?_, fun x y z h1 h2 => ?_, fun x y z h1 h2 => ?_⟩
  · rw [lt_bd]; have := bcmp_neg x x; simp; omega
  · rw [lt_bd] at *; simp at *; exact bcmp_trans h1 h2
  · rw [lt_bd] at *
    simp at *
    have e1 := bcmp_neg x y
    have e2 := bcmp_neg y z
    have e3 := bcmp_neg x z
    by_cases q : bcmp x z < 0
    · exfalso
      by_cases r : bcmp x y = 0
      · have := bcmp_zero r; subst this; omega
      · by_cases s : bcmp y z = 0
        · have := bcmp_zero s; subst this; omega
        · have := bcmp_trans (show bcmp z y < 0 by omega) (show bcmp y x < 0 by omega)
          omega
    · omega
open Go.Sort in
def sortB (l : List Bd) : List Bd := l.mergeSort fun x y => !(ltOf bcmp) y x
theorem sortB_perm (l : List Bd) : (sortB l).Perm l := List.mergeSort_perm _ _
open Go.Sort in
theorem sortB_asc {l : List Bd} (h : l.Nodup) : AscB (sortB l) := by
  have key : ∀ x y : Bd, (!(ltOf bcmp) y x) = true ↔ ¬ bcmp y x < 0 := fun x y => by rw [lt_bd]; simp
  have hs := List.pairwise_mergeSort (le := fun x y => !(ltOf bcmp) y x) (fun x y z h1 h2 => by
    rw [key] at *
    have e1 := bcmp_neg x y
    have e2 := bcmp_neg y z
    intro q
    by_cases r : bcmp x y = 0
    · have := bcmp_zero r; subst this; exact h2 q
    · by_cases s : bcmp y z = 0
      · have := bcmp_zero s; subst this; exact h1 q
      · have h3 := bcmp_trans (show bcmp x y < 0 by omega) (show bcmp y z < 0 by omega)
        have e3 := bcmp_neg x z
        omega) (fun x y => by
    rw [Bool.or_eq_true, key, key]
    have := bcmp_neg x y
    omega) l
  have hn : (sortB l).Pairwise fun a b => a ≠ b := (sortB_perm l).symm.pairwise h (fun {a b} q => q.symm)
  refine (List.Pairwise.and hs hn).imp ?_
  intro a b q
  have h1 := (key a b).1 q.1
  have e := bcmp_neg a b
  by_cases r : bcmp a b = 0
  · exact absurd (bcmp_zero r) q.2
  · omega

/-! ### list's closure -/
set_option maxHeartbeats 2000000 in
theorem closureB_any (x y : Bd) (W : World) : Calls Try.prog 64 #[.agg #[.string x.1, .string x.2], .agg #[.string y.1, .string y.2]] W fun e w' => e = .returned (.int .i64 (bcmp x y)) ∧ ∃ q os', w' = Sort.grow (W.drewN q) os' := by
  obtain ⟨x1, x2⟩ := x
  obtain ⟨y1, y2⟩ := y
  have hc1 := fun W' => Try.strings_Compare x1 y1 W'
  have hc2 := fun W' => Try.strings_Compare x2 y2 W'
  have he : bcmp (x1, x2) (y1, y2) = orV (Lib.compareBytes x1.data.toList y1.data.toList) (Lib.compareBytes x2.data.toList y2.data.toList) := rfl
  rw [he]
  clear he
  generalize Lib.compareBytes x1.data.toList y1.data.toList = r1 at *
  generalize Lib.compareBytes x2.data.toList y2.data.toList = r2 at *
  have HG0 : Hid (GrW W ((W.alloc (.cells #[.string x1, .string x2] bdT)).alloc (.cells #[.string y1, .string y2] bdT))) := GrW.trans _ _ _ (GrW.alloc W _) (GrW.alloc _ _)
  have HX0 := Lib.hid (cells_gr (cellsAt_alloc W [.string x1, .string x2] bdT) (GrW.alloc _ (.cells #[.string y1, .string y2] bdT)))
  have HY0 := Lib.hid (cellsAt_alloc (W.alloc (.cells #[.string x1, .string x2] bdT)) [.string y1, .string y2] bdT)
  rw [World.size_alloc] at HY0
  go_enter Try.func64, Try.ntmps64
  go_wp2_with fail
  generalize (W.alloc (.cells #[.string x1, .string x2] bdT)).alloc (.cells #[.string y1, .string y2] bdT) = wx at *
  generalize W.heap.size = xb at *
  have HX := Lib.hid (cells_gr HX0.out (GrW.drew wx))
  have HY := Lib.hid (cells_gr HY0.out (GrW.drew wx))
  have HG := Lib.hid (GrW.trans _ _ _ HG0.out (GrW.drew wx))
  clear HX0 HY0 HG0
  apply wp_region_relT GrW.refl GrW.trans 12
  case hm => kernel_rfl
  case hB => kernel_rfl
  simp only [List.take_succ_cons, List.take_zero, List.drop_succ_cons, List.drop_zero]
  apply wpRel_cons (t := tyIs _ _)
  case h1 => (intro w' hl hd2; clear hl hd2; unfold relAt; go_simp; exact rel_is GrW.refl)
  intro _
  rw [tyIs_f]
  go_simp
  apply wpRel_cons (t := tyIs _ _)
  case h1 => (intro w' hl hd2; obtain ⟨c0, c1⟩ := bd2 (cells_gr HX.out hl); clear hl hd2; unfold relAt; go_simp; exact rel_is GrW.refl)
  intro _
  rw [tyIs_f]
  go_simp
  apply wpRel_cons (t := tyIs _ _)
  case h1 => (intro w' hl hd2; clear hl hd2; unfold relAt; go_simp; exact rel_is GrW.refl)
  intro _
  rw [tyIs_f]
  go_simp
  apply wpRel_cons (t := tyIs _ _)
  case h1 => (intro w' hl hd2; obtain ⟨d0, d1⟩ := bd2 (cells_gr HY.out hl); clear hl hd2; unfold relAt; go_simp; exact rel_is GrW.refl)
  intro _
  rw [tyIs_f]
  go_simp
  apply wpRel_cons (t := tyIs _ (.int .i64 r1))
  case h1 => (intro w' hl hd2; clear hl hd2; unfold relAt; go_simp; refine ⟨GrW.refl _, ?_⟩; refine (hc1 _).mono ?_; rintro e w'' ⟨rfl, rfl⟩; exact ⟨(), rfl, GrW.refl _, trivial⟩)
  intro _
  rw [tyIs_f]
  go_simp
  apply wpRel_cons (t := tyIs _ _)
  case h1 => (intro w' hl hd2; clear hl hd2; unfold relAt; go_simp; exact rel_is GrW.refl)
  intro _
  rw [tyIs_f]
  go_simp
  apply wpRel_cons (t := tyIs _ _)
  case h1 => (intro w' hl hd2; obtain ⟨c0, c1⟩ := bd2 (cells_gr HX.out hl); clear hl hd2; unfold relAt; go_simp; exact rel_is GrW.refl)
  intro _
  rw [tyIs_f]
  go_simp
  apply wpRel_cons (t := tyIs _ _)
  case h1 => (intro w' hl hd2; clear hl hd2; unfold relAt; go_simp; exact rel_is GrW.refl)
  intro _
  rw [tyIs_f]
  go_simp
  apply wpRel_cons (t := tyIs _ _)
  case h1 => (intro w' hl hd2; obtain ⟨d0, d1⟩ := bd2 (cells_gr HY.out hl); clear hl hd2; unfold relAt; go_simp; exact rel_is GrW.refl)
  intro _
  rw [tyIs_f]
  go_simp
  apply wpRel_cons (t := tyIs _ (.int .i64 r2))
  case h1 => (intro w' hl hd2; clear hl hd2; unfold relAt; go_simp; refine ⟨GrW.refl _, ?_⟩; refine (hc2 _).mono ?_; rintro e w'' ⟨rfl, rfl⟩; exact ⟨(), rfl, GrW.refl _, trivial⟩)
  intro _
  rw [tyIs_f]
  go_simp
  apply wpRel_cons (t := tySl2 [.int .i64 r1, .int .i64 r2])
  case h1 => (intro w' hl hd2; clear hl hd2; unfold relAt; go_simp; refine ⟨GrW.alloc _ _, ⟨_, trivial⟩, rfl, ?_⟩; rw [tySl2_p]; exact cellsAt_alloc _ [.int .i64 r1, .int .i64 r2] _)
  rintro ⟨sb, -⟩
  rw [tySl2_f]
  go_simp
  apply wpRel_cons (t := tyIs _ (.int .i64 (orV r1 r2)))
  case h1 => (intro w' hl hd2; have hx := fact_lw hd2 (j := 10) (by kernel_rfl); simp [upd] at hx; have hx2 : CellsAt w' sb 0 [.int .i64 r1, .int .i64 r2] := hx; clear hl hd2 hx; unfold relAt; go_simp; refine ⟨GrW.refl _, ?_⟩; refine (or_any sb r1 r2 _ hx2).mono ?_; rintro e w'' ⟨rfl, rfl⟩; exact ⟨(), rfl, GrW.refl _, trivial⟩)
  intro _
  rw [tyIs_f]
  go_simp
  apply wpRel_nil (Ts := [])
  intro w1 hl hF
  have HGW := Lib.hid (GrW.trans _ _ _ HG.out hl)
  clear hl hF
  go_wp2_with fail
  go_ret
  exact ⟨rfl, HGW.out⟩
theorem cmpLaysB (blk off size : Nat) (w : World) : CmpLays Try.prog 64 #[] bdC 2 bcmp blk off size w :=
  fun _ _ _ _ x y => closureB_any x y _
end Go.Proofs.Ytheigpiffdabnaa.Mds
