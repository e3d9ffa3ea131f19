/-
  CONTRACT: the reference's Same for tokens.
-/
import Derived.Test.YtflcpcefjliijaaLexC
import Derived.Deep.QuietTactic
namespace Go.Proofs.Ytflcpcefjliijaa
open Go.RowKit
set_option linter.unusedVariables false

def tok0 : Lx.Tok := ⟨0, ByteArray.empty, 0⟩
theorem getD_eq {α : Type} (L : List α) (d : α) (j : Nat) (hj : j < L.length) : L.getD j d = L[j] := by simp [List.getD, List.getElem?_eq_getElem hj]
theorem tok_cells {w : World} {b off : Nat} {L : List Lx.Tok} (h : CellsAt w b off (tokEnc.all L)) (j : Nat) (hj : j < L.length) :
    w.cell? ⟨b, off + j * 3, none⟩ = some (.int .i64 (L.getD j tok0).kind) ∧ w.cell? ⟨b, off + j * 3 + 1, none⟩ = some (.string (L.getD j tok0).text) ∧ w.cell? ⟨b, off + j * 3 + 2, none⟩ = some (.int .i64 (L.getD j tok0).at_) := by
  rw [getD_eq L tok0 j hj]
  exact ⟨h.elem j hj 0 (by decide) _ rfl, h.elem j hj 1 (by decide) _ rfl, h.elem j hj 2 (by decide) _ rfl⟩

set_option maxHeartbeats 400000 in
theorem refSame_any (v1 v2 : Value) (L : List Lx.Tok) (w : World) (hc : L.length ≤ 4611686018427387904) (h1 : SlIs tokEnc w v1 L) (h2 : SlIs tokEnc w v2 L) :
    Calls Try.prog 24 #[v1, v2] w fun e w' => e = .returned (.bool true) ∧ Below w.heap.size w w' := by
  obtain ⟨p1, cap1, rfl, _, _, h1'⟩ := h1
  obtain ⟨p2, cap2, rfl, _, _, h2'⟩ := h2
  generalize hn : L.length = n at *
  have Hn := Lib.hid hn
  clear hn
  go_enter Try.func24, Try.ntmps24
  go_wp2
  go_loopw [5] (fun i wr => ∃ j : Nat, j ≤ n ∧ i = .int .i64 j ∧ Hid (Below w.heap.size w wr)) (fun i _ => n - (intOf i).toNat)
  case atStart => exact ⟨0, Nat.zero_le _, rfl, Below.refl _ _⟩
  case round =>
    obtain ⟨j, hj, rfl, hb⟩ := hrel
    by_cases hlt : j < n
    · obtain ⟨b1, off1, rfl, hcells1⟩ := h1' (by omega)
      obtain ⟨b2, off2, rfl, hcells2⟩ := h2' (by omega)
      have hjl : j < L.length := by rw [Hn.out]; exact hlt
      obtain ⟨x0, x1, x2⟩ := tok_cells (hcells1.below hb.out) j hjl
      obtain ⟨y0, y1, y2⟩ := tok_cells (hcells2.below hb.out) j hjl
      have hi1 : (j : Int) < (n : Int) := by omega
      generalize L.getD j tok0 = x at *
      obtain ⟨k, t, a⟩ := x
      have H1 := Lib.hid h1'
      have H2 := Lib.hid h2'
      clear h1' h2' hcells1 hcells2 hjl
      go_wp2_with fail
      go_quiet (fail)
      go_wp2_with fail
      go_roundw
      case rel => exact ⟨j + 1, by omega, by go_num, below_drewN hb.out _⟩
      case measure => simp [intOf]; omega
    · go_wp2
      go_ret
      exact ⟨rfl, hb.out⟩
end Go.Proofs.Ytflcpcefjliijaa
