/-
  CONTRACT: the sanity check of the statements of facts.
-/
import Derived.Test.YthikdkeanndidaaDoorFaK
namespace Go.Proofs.YthikdkeanndidaaDoor
open Go Go.RowKit
set_option linter.unusedVariables false
set_option linter.unusedSimpArgs false
set_option maxRecDepth 100000

def awL : List ByteArray := [⟨#[97]⟩, ⟨#[]⟩]
theorem aw_pack : Fa.packL awL = [49, 58, 97, 48, 58] := by decide +kernel
theorem aw_packS : packS awL = ⟨#[49, 58, 97, 48, 58]⟩ := by unfold packS; rw [aw_pack]
theorem aw_got {L : List ByteArray} {b : Bool} (h : Fa.Got [49, 58, 97, 48, 58] L b) : L = awL ∧ b = true :=
  Fa.Got.same (by decide) h ⟨fun _ => aw_pack, fun e => by cases e⟩

set_option maxHeartbeats 2000000 in
theorem awake10_any (w : World) (hw : LaidW w) :
    Calls Tryd.prog 6 #[] w fun e w' => e = .returned (.bool true) ∧ Below w.heap.size w w' := by
  have HU := Lib.hid (unpack_any ⟨#[49, 58, 97, 48, 58]⟩ w (by decide) hw)
  have HW := Lib.hid hw
  clear hw
  go_enter Tryd.func6, Tryd.ntmps6
  go_wp2_with fail
  refine HU.out.mono ?_
  rintro e w1 ⟨⟨v, L, b, rfl, hsl, hg⟩, hb1⟩
  obtain ⟨rfl, rfl⟩ := aw_got hg
  obtain ⟨p, c, rfl, -, -, h4⟩ := hsl.sl
  obtain ⟨b0, o0, rfl, hc⟩ := h4 (by decide)
  have HB1 := Lib.hid hb1
  have HC := Lib.hid hc
  have HS2 : Hid (SlIs encN (w1.alloc (.cells #[.string ⟨#[97]⟩, .string ⟨#[]⟩] 9)) (.slice (some ⟨w1.heap.size, 0, none⟩) 2 2) awL) :=
    ⟨_, _, rfl, Nat.le_refl _, by unfold maxLen; decide, fun _ => ⟨_, 0, rfl, cellsAt_alloc w1 [.string ⟨#[97]⟩, .string ⟨#[]⟩] _⟩⟩
  have HB2 : Hid (Below w.heap.size w (w1.alloc (.cells #[.string ⟨#[97]⟩, .string ⟨#[]⟩] 9))) := HB1.out.trans ((below_box w1 _).mono HB1.out.size)
  have HP := Lib.hid (pack_any awL _ _ _ _ HS2.out (by rw [aw_pack]; decide) (HW.out.below HB2.out))
  rw [aw_packS] at HP
  have hl2 : awL.length = 2 := rfl
  rw [hl2]
  clear hc h4 hb1 hg HU
  go_wp2_with fail
  refine HP.out.mono ?_
  rintro e w2 ⟨rfl, hb2⟩
  have HB3 := Lib.hid (HB2.out.trans (hb2.mono HB2.out.size))
  have hcell : w2.cell? ⟨b0, o0, none⟩ = some (.string ⟨#[97]⟩) := by
    have h1 : w1.cell? ⟨b0, o0 + 0, none⟩ = some (.string ⟨#[97]⟩) := HC.out 0 _ rfl
    have h2 : Below w1.heap.size w1 w2 := (below_box w1 _).trans (hb2.mono (below_box w1 _).size)
    have h3 : w2.cell? ⟨b0, o0 + 0, none⟩ = some (.string ⟨#[97]⟩) := by rw [h2.cell (World.block_lt_of_cell? _ _ h1)]; exact h1
    exact h3
  clear hb2 HP HS2 HC
  go_wp2_with fail
  go_ret
  exact ⟨rfl, HB3.out⟩
end Go.Proofs.YthikdkeanndidaaDoor
