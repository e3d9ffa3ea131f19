/-
  CONTRACTS: identity.definitionOf, byDefinition.
-/
import Derived.Test.YtcplhnpblpmalaaIdE
import Derived.Test.YtcplhnpblpmalaaLw
import Derived.Test.YtcplhnpblpmalaaIdB
namespace Go.Proofs.Ytcplhnpblpmalaa.Idn
open Go Go.RowKit Go.Maps
set_option linter.unusedVariables false
set_option maxRecDepth 1000000

theorem load_df (W : World) (b : Nat) (m n : ByteArray) (h : CellsAt W b 0 [.string m, .string n]) : (loadVar 77 ⟨b, 0, none⟩).run Try.prog W = .ok (.agg #[.string m, .string n]) W := by
  have c0 : W.cell? ⟨b, 0, none⟩ = some (.string m) := h 0 _ rfl
  have c1 : W.cell? ⟨b, 1, none⟩ = some (.string n) := h 1 _ rfl
  go_simp
theorem definitionOf_any (x : It) (w : World) :
    Calls Try.prog 44 #[itV x] w fun e w' => e = .returned (dfV (dfn x)) ∧ Below w.heap.size w w' := by
  obtain ⟨m, n, s⟩ := x
  unfold itV dfV dfn
  go_enter Try.func44, Try.ntmps44
  go_wp2
  refine bodyPost_ret (results_cellE rfl _ _ _ ⟨w.heap.size + 1, 0, none⟩ _ rfl (load_df _ _ m n ?_)) rfl ?_
  · have := cellsAt_alloc (w.alloc (.cells #[.string m, .string n, .string s] 37)) [.string m, .string n] 77
    simpa using this
  · exact ⟨rfl, bnext (below_box w _) (below_box _ _)⟩

theorem en4 {w : World} {b : Nat} {c0 c1 c2 c3 : Value} (h : CellsAt w b 0 [c0, c1, c2, c3]) : w.cell? ⟨b, 0, none⟩ = some c0 ∧ w.cell? ⟨b, 1, none⟩ = some c1 ∧ w.cell? ⟨b, 2, none⟩ = some c2 ∧ w.cell? ⟨b, 3, none⟩ = some c3 :=
  ⟨h 0 _ rfl, h 1 _ rfl, h 2 _ rfl, h 3 _ rfl⟩
theorem en3 {w : World} {b : Nat} {c0 c1 c2 : Value} (h : CellsAt w b 0 [c0, c1, c2]) : w.cell? ⟨b, 0, none⟩ = some c0 ∧ w.cell? ⟨b, 1, none⟩ = some c1 ∧ w.cell? ⟨b, 2, none⟩ = some c2 :=
  ⟨h 0 _ rfl, h 1 _ rfl, h 2 _ rfl⟩
theorem en2 {w : World} {b : Nat} {c0 c1 : Value} (h : CellsAt w b 0 [c0, c1]) : w.cell? ⟨b, 0, none⟩ = some c0 ∧ w.cell? ⟨b, 1, none⟩ = some c1 := ⟨h 0 _ rfl, h 1 _ rfl⟩

set_option maxHeartbeats 1000000 in
theorem byDefinition_any (p : Option Addr) (n cap : Nat) (L : List En) (w : World) (hc : L.length ≤ 100000) (hs : SlIs encEn w (.slice p n cap) L) (hf : FitsE L) :
    Calls Try.prog 43 #[.slice p n cap] w fun e w' => ∃ b, e = .returned (.map (some b)) ∧ Below w.heap.size w w' ∧ w.heap.size ≤ b ∧ MapAt dfKeys enV w' b (bdC L) (bdF L) := by
  obtain ⟨hn, hc1, hc2, hlies⟩ := hs.lies
  have hnb : (n : Int) ≤ 100000 := by omega
  have Hn := Lib.hid hn
  have HC := Lib.hid hc
  have HF := Lib.hid hf
  clear hn hs hc hf
  have hmm := run_makeMapN (P := Try.prog) 74 Try.underlying74
  go_enter Try.func43, Try.ntmps43
  go_wp2
  go_loopw [11] (fun i wr => ∃ j : Nat, j ≤ n ∧ i = .int .i64 j ∧ Hid (Below w.heap.size w wr) ∧ Hid (w.heap.size < wr.heap.size) ∧ Hid (MapAt dfKeys enV wr w.heap.size (bdC (L.take j)) (bdF (L.take j)))) (fun i _ => n - (intOf i).toNat)
  case atStart => exact ⟨0, Nat.zero_le _, rfl, below_box w _, by simp [Hid], MapAt.made _ _ _⟩
  case round =>
    obtain ⟨j, hj, rfl, hb, hsz, hm⟩ := hrel
    by_cases hlt : j < n
    · obtain ⟨b, off, rfl, hcells0⟩ := hlies (by omega)
      have hjl : j < L.length := by rw [← Hn.out]; exact hlt
      obtain ⟨c0, c1, c2, c3⟩ := enAt (hcells0.below hb.out) j hjl
      have HT := Lib.hid (take_one L en0 j hjl)
      have HFJ := Lib.hid (fitE_at HF.out j hjl)
      have HI : Hid (∀ x, L.getD j en0 = x → True) := fun _ _ => trivial
      generalize L.getD j en0 = x at *
      obtain ⟨i, m, nm, s⟩ := x
      have H1 := Lib.hid hlies
      clear hlies hcells0 hjl HI
      go_wp2_with fail
      have HX := Lib.hid (cellsAt_alloc wr [.int .i64 i, .string m, .string nm, .string s] 39)
      have HM := Lib.hid (hm.out.alloc (.cells #[.int .i64 i, .string m, .string nm, .string s] 39))
      have HB := Lib.hid (hb.out.trans ((below_box wr (.cells #[.int .i64 i, .string m, .string nm, .string s] 39)).mono hb.out.size))
      have HS : Hid (w.heap.size < (wr.alloc (.cells #[.int .i64 i, .string m, .string nm, .string s] 39)).heap.size) := Nat.lt_of_lt_of_le hsz.out (below_box wr _).size
      clear hm hb hsz c0 c1 c2 c3
      generalize wr.alloc (.cells #[.int .i64 i, .string m, .string nm, .string s] 39) = wx at *
      generalize wr.heap.size = xb at *
      have HX := Lib.hid (HX.out.drewN 1)
      have HD : wx.drewN 1 = wx.drew := rfl
      rw [HD] at HX
      clear HD
      apply wp_region_relT LeW.refl LeW.trans 5
      case hm => kernel_rfl
      case hB => kernel_rfl
      simp only [List.take_succ_cons, List.take_zero, List.drop_succ_cons, List.drop_zero]
      apply wpRel_cons (t := tyIs _ _)
      case h1 => (intro w' hl hd2; obtain ⟨x0, x1, x2, x3⟩ := en4 (HX.out.below hl); clear hl hd2; unfold relAt; go_simp; exact rel_is LeW.refl)
      intro _
      rw [tyIs_f]
      go_simp
      apply wpRel_cons (t := tyIs _ _)
      case h1 => (intro w' hl hd2; obtain ⟨x0, x1, x2, x3⟩ := en4 (HX.out.below hl); clear hl hd2; unfold relAt; go_simp; exact rel_is LeW.refl)
      intro _
      rw [tyIs_f]
      go_simp
      apply wpRel_cons (t := tyIs _ _)
      case h1 => (intro w' hl hd2; obtain ⟨x0, x1, x2, x3⟩ := en4 (HX.out.below hl); clear hl hd2; unfold relAt; go_simp; exact rel_is LeW.refl)
      intro _
      rw [tyIs_f]
      go_simp
      apply wpRel_cons (t := tyIs _ (dfV (m, nm)))
      case h1 => (intro w' hl hd2; clear hl hd2; unfold relAt; go_simp; refine ⟨LeW.refl _, ?_⟩; refine (definitionOf_any (m, nm, s) _).mono ?_; rintro e w'' ⟨rfl, hb''⟩; exact ⟨(), rfl, hb'', trivial⟩)
      intro _
      rw [tyIs_f]
      go_simp
      apply wpRel_cons (t := tyIs _ _)
      case h1 => (intro w' hl hd2; obtain ⟨x0, x1, x2, x3⟩ := en4 (HX.out.below hl); clear hl hd2; unfold relAt; go_simp; exact rel_is LeW.refl)
      intro _
      rw [tyIs_f]
      go_simp
      apply wpRel_nil (Ts := [])
      intro w1 hl hF
      have hl1 : Below wx.heap.size wx w1 := bnext ((Below.refl _ wx).drew) hl
      have HM1 := Lib.hid (HM.out.below hl1 HM.out.lt)
      have HB1 := Lib.hid (HB.out.trans (hl1.mono HB.out.size))
      have HS1 : Hid (w.heap.size < w1.heap.size) := Nat.lt_of_lt_of_le HS.out hl1.size
      clear HM HB HS hl hl1 hF HX
      obtain ⟨⟨f1, f2, f3⟩, f4⟩ := HFJ.out
      have hle := bdC_le (L.take j)
      have hcm : bdC (L.take j) < maxLen := by have := HC.out; simp at hle; unfold maxLen; omega
      clear hle
      refine wpList_store (K := dfKeys) (val := enV) _ rfl _ _ _ 74 39 rfl Try.underlying74 hcm rfl HM1.out (m, nm) rfl ⟨f1, f2⟩ (i, m, nm, s) rfl ?_
      intro w2 hm2 ht2
      have HB2 := Lib.hid (HB1.out.trans (mapTurned_below (B := w.heap.size) ht2 (Nat.le_refl _) HS1.out))
      have HS2 : Hid (w.heap.size < w2.heap.size) := Nat.lt_of_lt_of_le HS1.out ht2.grown.size
      have HM2 : Hid (MapAt dfKeys enV w2 w.heap.size (bdC (L.take (j + 1))) (bdF (L.take (j + 1)))) := by rw [HT.out, bdC_snoc, bdF_snoc]; exact hm2
      clear hm2 ht2 HB1 HS1 HM1
      go_wp2_with fail
      go_roundw
      case rel => exact ⟨j + 1, by omega, by go_num, HB2, HS2, HM2⟩
      case measure => simp [intOf]; omega
    · have hje : j = n := by omega
      have hlen : L.take j = L := by rw [hje, Hn.out]; exact List.take_length
      rw [hlen] at hm
      clear hje hlen hlies
      go_wp2
      go_ret
      exact ⟨_, rfl, hb.out, Nat.le_refl _, hm.out⟩
end Go.Proofs.Ytcplhnpblpmalaa.Idn
