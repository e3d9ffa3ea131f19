/-
  CONTRACT: the reader's name: what comes before the first mark.
-/
import Derived.Test.YtbnnokibjccdaaaTpI0
import Derived.Test.YtbnnokibjccdaaaTpM
namespace Go.Proofs.Ytbnnokibjccdaaa
open Go Go.RowKit
set_option linter.unusedVariables false
set_option linter.unusedSimpArgs false

/-- what strings.IndexAny does with the marks -/
def IxC : Prop := ∀ (s : ByteArray) (w : World), s.size ≤ 1000000000 → Calls Try.prog 76 #[.string s, .string ⟨#[60, 62, 44]⟩] w fun e w' => e = .returned (.int .i64 (Lib.indexAny s.data.toList marks)) ∧ Below w.heap.size w w'
def inB (b : Nat) (a : Addr) : Prop := a.block = b
theorem RdP.below {w w' : World} {b k : Nat} {s : ByteArray} (h : RdP w b s k) (hb : Below w.heap.size w w') : RdP w' b s k := by
  have hl := World.block_lt_of_cell? w _ h.c0
  have hlt : b < w.heap.size := hl
  exact ⟨by rw [hb.cell (p := ⟨b, 0, none⟩) hlt]; exact h.c0, by rw [hb.cell (p := ⟨b, 1, none⟩) hlt]; exact h.c1, fun i => by rw [hb.frozen (p := ⟨b, i, none⟩) hlt]; exact h.warm i⟩
theorem RdP.lt {w : World} {b k : Nat} {s : ByteArray} (h : RdP w b s k) : b < w.heap.size := World.block_lt_of_cell? w _ h.c0
theorem But.ofSet {b : Nat} (w : World) (i : Nat) (u : Value) : But (inB b) w (w.setCell ⟨b, i, none⟩ u) := But.setCell w _ u rfl
set_option maxHeartbeats 1000000 in
/-- name -/
theorem name_any (hI : IxC) (b k : Nat) (s : ByteArray) (w : World) (h : RdP w b s k) (hs : s.size ≤ 1000000000) :
    Calls Try.prog 59 #[.pointer (some ⟨b, 0, none⟩)] w fun e w' => e = .returned (.string (nmB s)) ∧ RdP w' b (rsB s) k ∧ But (inB b) w w' := by
  have HI := Lib.hid (fun w => hI s w hs)
  have HR := Lib.hid h
  have hc := mkN_le s
  have x0 := h.c0
  clear h hI
  by_cases hlt : mkN s < s.size
  · have HX := Lib.hid ((index_marks s).trans (if_pos hlt))
    have HN := Lib.hid (show nmB s = s.extract 0 (mkN s) from rfl)
    have HN2 := Lib.hid (show rsB s = s.extract (mkN s) s.size from rfl)
    generalize mkN s = n at hc hlt HX HN HN2
    go_enter Try.func59, Try.ntmps59
    go_wp2_with fail
    refine (HI.out _).mono ?_
    rintro e w1 ⟨rfl, hb1⟩
    rw [HX.out]
    have HR1 := Lib.hid (HR.out.below hb1)
    have HB1 := Lib.hid (But.of_below (M := inB b) hb1)
    have y0 := HR1.out.c0
    have f0 := HR1.out.warm 0
    clear hb1 x0
    go_wp2_with fail
    go_ret
    rw [HN.out, HN2.out]
    exact ⟨rfl, HR1.out.set _, HB1.out.trans (But.ofSet _ _ _)⟩
  · have HX := Lib.hid ((index_marks s).trans (if_neg hlt))
    have HN := Lib.hid (nmB_all s hlt)
    clear hlt hc
    go_enter Try.func59, Try.ntmps59
    go_wp2_with fail
    refine (HI.out _).mono ?_
    rintro e w1 ⟨rfl, hb1⟩
    rw [HX.out]
    have HR1 := Lib.hid (HR.out.below hb1)
    have HB1 := Lib.hid (But.of_below (M := inB b) hb1)
    have y0 := HR1.out.c0
    have f0 := HR1.out.warm 0
    clear hb1 x0
    go_wp2_with fail
    go_ret
    rw [HN.out.1, HN.out.2]
    exact ⟨rfl, HR1.out.set _, HB1.out.trans (But.ofSet _ _ _)⟩
end Go.Proofs.Ytbnnokibjccdaaa
