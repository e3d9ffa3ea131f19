/-
  CONTRACTS: the reference's Same and Join, and lexer.Join.
-/
import Derived.Test.YteilkhenahkljaaLexC
import Derived.Test.YteilkhenahkljaaBuild
import Derived.Deep.QuietTactic
namespace Go.Proofs.Yteilkhenahkljaa
open Go.RowKit
set_option linter.unusedVariables false

def tok0 : Lx.Tok := ⟨0, ByteArray.empty, 0⟩
theorem getD_eq {α : Type} (L : List α) (d : α) (j : Nat) (hj : j < L.length) : L.getD j d = L[j] := by simp [List.getD, List.getElem?_eq_getElem hj]
theorem tok_cells {w : World} {b off : Nat} {L : List Lx.Tok} (h : CellsAt w b off (tokEnc.all L)) (j : Nat) (hj : j < L.length) :
    w.cell? ⟨b, off + j * 3, none⟩ = some (.int .i64 (L.getD j tok0).kind) ∧ w.cell? ⟨b, off + j * 3 + 1, none⟩ = some (.string (L.getD j tok0).text) ∧ w.cell? ⟨b, off + j * 3 + 2, none⟩ = some (.int .i64 (L.getD j tok0).at_) := by
  rw [getD_eq L tok0 j hj]
  exact ⟨h.elem j hj 0 (by decide) _ rfl, h.elem j hj 1 (by decide) _ rfl, h.elem j hj 2 (by decide) _ rfl⟩

set_option maxHeartbeats 400000 in
theorem refSame_any (v1 v2 : Value) (L : List Lx.Tok) (w : World) (hc : L.length ≤ 4611686018427387904) (h1 : SlIs tokEnc w v1 L) (h2 : SlIs tokEnc w v2 L) :
    Calls Try.prog 26 #[v1, v2] w fun e w' => e = .returned (.bool true) ∧ Below w.heap.size w w' := by
  obtain ⟨p1, cap1, rfl, _, _, h1'⟩ := h1
  obtain ⟨p2, cap2, rfl, _, _, h2'⟩ := h2
  generalize hn : L.length = n at *
  have Hn := Lib.hid hn
  clear hn
  go_enter Try.func26, Try.ntmps26
  go_wp2
  go_loopw [5] (fun i wr => ∃ j : Nat, j ≤ n ∧ i = .int .i64 j ∧ Hid (Below w.heap.size w wr)) (fun i _ => n - (intOf i).toNat)
  case atStart => exact ⟨0, Nat.zero_le _, rfl, Below.refl _ _⟩
  case round =>
    obtain ⟨j, hj, rfl, hb⟩ := hrel
    by_cases hlt : j < n
    · obtain ⟨b1, off1, rfl, hcells1⟩ := h1' (by omega)
      obtain ⟨b2, off2, rfl, hcells2⟩ := h2' (by omega)
      have hjl : j < L.length := by rw [Hn.out]; exact hlt
      obtain ⟨x0, x1, x2⟩ := tok_cells (hcells1.below hb.out) j hjl
      obtain ⟨y0, y1, y2⟩ := tok_cells (hcells2.below hb.out) j hjl
      have hi1 : (j : Int) < (n : Int) := by omega
      generalize L.getD j tok0 = x at *
      obtain ⟨k, t, a⟩ := x
      have H1 := Lib.hid h1'
      have H2 := Lib.hid h2'
      clear h1' h2' hcells1 hcells2 hjl
      go_wp2_with fail
      go_quiet (fail)
      go_wp2_with fail
      go_roundw
      case rel => exact ⟨j + 1, by omega, by go_num, below_drewN hb.out _⟩
      case measure => simp [intOf]; omega
    · go_wp2
      go_ret
      exact ⟨rfl, hb.out⟩

/-- what Join makes of tokens -/
def joinL (L : List Lx.Tok) : List UInt8 := L.flatMap fun t => if t.kind = 0 then [] else t.text.data.toList ++ [10]
theorem joinL_snoc (L : List Lx.Tok) (t : Lx.Tok) : joinL (L ++ [t]) = joinL L ++ if t.kind = 0 then [] else t.text.data.toList ++ [10] := by simp [joinL]
theorem joinL_take (L : List Lx.Tok) (j : Nat) (hj : j < L.length) : joinL (L.take (j + 1)) = joinL (L.take j) ++ if (L.getD j tok0).kind = 0 then [] else (L.getD j tok0).text.data.toList ++ [10] := by
  rw [List.take_succ_eq_append_getElem hj, joinL_snoc, getD_eq L tok0 j hj]
theorem joinL_le (L : List Lx.Tok) (j : Nat) : (joinL (L.take j)).length ≤ (joinL L).length := by
  conv => rhs; rw [← List.take_append_drop j L]
  unfold joinL
  rw [List.flatMap_append, List.length_append]
  omega

set_option maxHeartbeats 400000 in
theorem refJoin_any (v : Value) (L : List Lx.Tok) (w : World) (hc : (joinL L).length ≤ 4611686018427387904) (hn0 : L.length ≤ 4611686018427387904) (h1 : SlIs tokEnc w v L) :
    Calls Try.prog 33 #[v] w fun e w' => e = .returned (.string (Lx.mk (joinL L))) ∧ w = w' := by
  obtain ⟨p, cap, rfl, _, _, h1'⟩ := h1
  have HT : Hid (∀ j (hj : j < L.length), joinL (L.take (j + 1)) = joinL (L.take j) ++ if (L.getD j tok0).kind = 0 then [] else (L.getD j tok0).text.data.toList ++ [10]) := joinL_take L
  have HL : Hid (∀ j, (joinL (L.take j)).length ≤ (joinL L).length) := joinL_le L
  have HALL : Hid (joinL (L.take L.length) = joinL L) := by show joinL (L.take L.length) = joinL L; rw [List.take_length]
  generalize hn : L.length = n at *
  have Hn := Lib.hid hn
  clear hn
  have HC := Lib.hid hc
  clear hc
  go_enter Try.func33, Try.ntmps33
  go_wp2
  go_loop [3, 4] (fun s i => ∃ (j : Nat) (S : ByteArray), j ≤ n ∧ i = .int .i64 j ∧ s = .string S ∧ Hid (S.data.toList = joinL (L.take j))) (fun _ i => n - (intOf i).toNat)
  case atStart => exact ⟨0, ByteArray.empty, Nat.zero_le _, rfl, rfl, by show _ = _; simp [joinL]⟩
  case round =>
    obtain ⟨j, S, hj, rfl, rfl, hS⟩ := hrel
    by_cases hlt : j < n
    · obtain ⟨b1, off1, rfl, hcells1⟩ := h1' (by omega)
      have hjl : j < L.length := by rw [Hn.out]; exact hlt
      obtain ⟨x0, x1, x2⟩ := tok_cells hcells1 j hjl
      have hi1 : (j : Int) < (n : Int) := by omega
      have hs := HT.out j hlt
      have hle := HL.out (j + 1)
      generalize L.getD j tok0 = x at *
      obtain ⟨k, t, a⟩ := x
      have H1 := Lib.hid h1'
      clear h1' hcells1 hjl
      by_cases hk : k = 0
      · subst hk
        have HS : Hid (joinL (L.take (j + 1)) = joinL (L.take j)) := by rw [hs]; show _ = _; simp
        clear hs hle
        go_wp2
        go_round
        case rel => exact ⟨j + 1, S, by omega, by go_num, rfl, by show _ = _; rw [HS.out]; exact hS.out⟩
        case measure => simp [intOf]; omega
      · have hk0 : (k == 0) = false := by simpa using hk
        have hk1 : (k != 0) = true := by simpa using hk
        rw [if_neg hk] at hs
        have HS : Hid (joinL (L.take (j + 1)) = joinL (L.take j) ++ (t.data.toList ++ [10])) := hs
        have hlen : S.size + (t.size + 1) ≤ 4611686018427387904 := by
          rw [hs, ← hS.out] at hle
          have := HC.out
          simp at hle ⊢
          omega
        clear hs hle hk
        go_wp2
        go_round
        case rel => exact ⟨j + 1, _, by omega, by go_num, rfl, by show _ = _; rw [HS.out, ← hS.out]; simp⟩
        case measure => simp [intOf]; omega
    · have hje : j = n := by omega
      subst hje
      have HE : Hid (S = Lx.mk (joinL L)) := by show S = _; rw [← HALL.out, ← hS.out, Lx.mk_of]
      go_wp2
      go_ret
      exact ⟨congrArg (fun x => Ending.returned (.string x)) HE.out, rfl⟩

theorem builder_alloc {T e : TypeId} {B b : Nat} {bs : List Value} {w : World} (h : Lib.IsBuilder T e B b bs w) (o : Obj) : Lib.IsBuilder T e B b bs (w.alloc o) := by
  have key : ∀ p, Lib.BuilderAt T e B b p bs w → Lib.BuilderAt T e B b p bs (w.alloc o) := by
    intro p h
    have hlt := h.lt
    obtain ⟨hB, v, hb, hown, hne⟩ := h
    exact ⟨hB, v, by rw [Lib.alloc_old w o b hlt]; exact hb, hown.alloc o, hne⟩
  exact h.imp (key _) (key _)

set_option maxHeartbeats 1000000 in
set_option maxRecDepth 100000 in
theorem join_any (v : Value) (L : List Lx.Tok) (w : World) (hc : (joinL L).length ≤ 140737488355328) (hn0 : L.length ≤ 4611686018427387904) (h1 : SlIs tokEnc w v L) :
    Calls Try.prog 32 #[v] w fun e w' => e = .returned (.string (Lx.mk (joinL L))) ∧ Below w.heap.size w w' := by
  obtain ⟨p, cap, rfl, _, _, h1'⟩ := h1
  have HT : Hid (∀ j (hj : j < L.length), joinL (L.take (j + 1)) = joinL (L.take j) ++ if (L.getD j tok0).kind = 0 then [] else (L.getD j tok0).text.data.toList ++ [10]) := joinL_take L
  have HL : Hid (∀ j, (joinL (L.take j)).length ≤ (joinL L).length) := joinL_le L
  have HALL : Hid (joinL (L.take L.length) = joinL L) := by show joinL (L.take L.length) = joinL L; rw [List.take_length]
  generalize hn : L.length = n at *
  have Hn := Lib.hid hn
  clear hn
  have HC := Lib.hid hc
  clear hc
  have HB0 := Lib.hid (Lib.fresh_isBuilder 91 5 w)
  have H1 := Lib.hid h1'
  clear h1'
  go_enter Try.func32, Try.ntmps32
  go_wp2_with fail
  go_loopw [5, 8] (fun _ i wr => ∃ j : Nat, j ≤ n ∧ i = .int .i64 j ∧ Hid (Lib.IsBuilder 91 5 w.heap.size w.heap.size (Lib.byteCells (joinL (L.take j))) wr) ∧ Hid (Below w.heap.size w wr)) (fun _ i _ => n - (intOf i).toNat)
  case atStart => exact ⟨0, Nat.zero_le _, rfl, HB0.out, below_box _ _⟩
  case round =>
    obtain ⟨j, hj, rfl, hB, hb⟩ := hrel
    by_cases hlt : j < n
    · obtain ⟨b1, off1, rfl, hcells1⟩ := H1.out (by omega)
      have hjl : j < L.length := by rw [Hn.out]; exact hlt
      obtain ⟨x0, x1, x2⟩ := tok_cells (hcells1.below hb.out) j hjl
      have hi1 : (j : Int) < (n : Int) := by omega
      have hs := HT.out j hlt
      have hle := HL.out (j + 1)
      generalize L.getD j tok0 = x at *
      obtain ⟨k, t, a⟩ := x
      clear hcells1 hjl
      by_cases hk : k = 0
      · subst hk
        have HS : Hid (joinL (L.take (j + 1)) = joinL (L.take j)) := by rw [hs]; show _ = _; simp
        clear hs hle
        go_wp2_with fail
        go_roundw
        case rel => exact ⟨j + 1, by omega, by go_num, by show Lib.IsBuilder _ _ _ _ _ _; rw [HS.out]; exact builder_alloc hB.out _, hb.out.alloc hb.out.size _⟩
        case measure => simp [intOf]; omega
      · have hk1 : (k != 0) = true := by simpa using hk
        rw [if_neg hk] at hs
        have HS : Hid (joinL (L.take (j + 1)) = joinL (L.take j) ++ (t.data.toList ++ [10])) := hs
        have hlen : (joinL (L.take j)).length + (t.size + 1) ≤ 140737488355328 := by
          rw [hs] at hle
          have := HC.out
          simp at hle ⊢
          omega
        have HLEN := Lib.hid hlen
        clear hs hle hk hlen
        go_wp2_with fail
        refine (writeString_any w.heap.size w.heap.size _ t _ (builder_alloc hB.out _) (by have := HLEN.out; rw [Lib.byteCells_length]; omega) (by have := hb.out.size; simp; omega)).mono ?_
        rintro e w2 ⟨rfl, hB2, hb2⟩
        have HB2 := Lib.hid hB2
        have Hb2 := Lib.hid ((hb.out.alloc hb.out.size _).trans hb2)
        clear hB2 hb2
        go_wp2_with fail
        refine (writeByte_any w.heap.size w.heap.size _ 10 _ (.inr HB2.out) (by have := HLEN.out; rw [List.length_append, Lib.byteCells_length, Lib.strCells_length]; omega) Hb2.out.size).mono ?_
        rintro e w3 ⟨rfl, hB3, hb3⟩
        have HB3 : Hid (Lib.IsBuilder 91 5 w.heap.size w.heap.size (Lib.byteCells (joinL (L.take (j + 1)))) w3) := by
          show Lib.IsBuilder _ _ _ _ _ _
          rw [HS.out, Lib.byteCells_append, Lib.byteCells_append, ← List.append_assoc]
          exact .inr hB3
        have Hb3 := Lib.hid (Hb2.out.trans hb3)
        clear hB3 hb3
        go_wp2_with fail
        go_roundw
        case rel => exact ⟨j + 1, by omega, by go_num, HB3.out, Hb3.out⟩
        case measure => simp [intOf]; omega
    · have hje : j = n := by omega
      subst hje
      have HB4 : Hid (Lib.IsBuilder 91 5 w.heap.size w.heap.size (Lib.byteCells (joinL L)) wr) := by show Lib.IsBuilder _ _ _ _ _ _; rw [← HALL.out]; exact hB.out
      go_wp2_with fail
      refine (Try.Builder_String_any w.heap.size w.heap.size (joinL L) _ HB4.out hb.out.size).mono ?_
      rintro e w5 ⟨rfl, hb5⟩
      have Hb5 := Lib.hid (hb.out.trans hb5)
      clear hb5
      go_wp2_with fail
      go_ret
      exact ⟨rfl, Hb5.out⟩
end Go.Proofs.Yteilkhenahkljaa
