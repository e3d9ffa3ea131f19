/-
  CONTRACTS: the reference's SameBinds of lists that read alike; modules.Lookup.
-/
import Derived.Test.YtheigpiffdabnaaMdH
namespace Go.Proofs.Ytheigpiffdabnaa.Mds
open Go Go.RowKit Go.Maps
set_option linter.unusedVariables false
set_option linter.unusedSimpArgs false
set_option maxRecDepth 1000000

def bd0 : Bd := (ByteArray.empty, ByteArray.empty)
theorem bdAt {w : World} {b off : Nat} {L : List Bd} (h : CellsAt w b off (encBd.all L)) (i : Nat) (hi : i < L.length) : w.cell? ⟨b, off + i * 2, none⟩ = some (.string (L.getD i bd0).1) ∧ w.cell? ⟨b, off + i * 2 + 1, none⟩ = some (.string (L.getD i bd0).2) := by
  have hg : L.getD i bd0 = L[i] := by simp [List.getD, List.getElem?_eq_getElem hi]
  rw [hg]
  have e2 : encBd.size = 2 := rfl
  have c0 := h.elem i hi 0 (by decide) _ rfl
  have c1 := h.elem i hi 1 (by decide) _ rfl
  rw [e2] at c0 c1
  exact ⟨by simpa using c0, c1⟩

set_option maxHeartbeats 1000000 in
theorem sameB_eq (p : Option Addr) (n cap : Nat) (p2 : Option Addr) (n2 cap2 : Nat) (L : List Bd) (w : World) (hc : L.length ≤ 1000000) (hs : SlIs encBd w (.slice p n cap) L) (hs2 : SlIs encBd w (.slice p2 n2 cap2) L) :
    Calls Try.prog 24 #[.slice p n cap, .slice p2 n2 cap2] w fun e w' => e = .returned (.bool true) ∧ Below w.heap.size w w' := by
  obtain ⟨hn, hc1, hc2, hlies⟩ := hs.lies
  obtain ⟨hn2, hd1, hd2, hlies2⟩ := hs2.lies
  obtain rfl : n2 = n := by omega
  have hnb : (n2 : Int) ≤ 1000000 := by omega
  have Hn := Lib.hid hn
  clear hn hn2 hs hs2 hc
  go_enter Try.func24, Try.ntmps24
  go_wp2
  go_loopw [5] (fun i wr => ∃ j : Nat, j ≤ n2 ∧ i = .int .i64 j ∧ Hid (Below w.heap.size w wr)) (fun i _ => n2 - (intOf i).toNat)
  case atStart => exact ⟨0, Nat.zero_le _, rfl, Below.refl _ _⟩
  case round =>
    obtain ⟨j, hj, rfl, hb⟩ := hrel
    by_cases hlt : j < n2
    · obtain ⟨b, off, rfl, hca⟩ := hlies (by omega)
      obtain ⟨b2, off2, rfl, hcb⟩ := hlies2 (by omega)
      have hjl : j < L.length := by rw [← Hn.out]; exact hlt
      have HA := Lib.hid ((hca.below hb.out).below ((Below.refl _ wr).drew))
      have HB := Lib.hid ((hcb.below hb.out).below ((Below.refl _ wr).drew))
      obtain ⟨⟨m, nm⟩, hxe⟩ : ∃ x, L.getD j bd0 = x := ⟨_, rfl⟩
      clear hca hcb
      go_wp2_with fail
      apply wp_region_relT LeW.refl LeW.trans 8
      case hm => kernel_rfl
      case hB => kernel_rfl
      simp only [List.take_succ_cons, List.take_zero, List.drop_succ_cons, List.drop_zero]
      apply wpRel_cons (t := tyIs _ _)
      case h1 => (intro w' hl hd2; clear hl hd2; unfold relAt; go_simp; exact rel_is LeW.refl)
      intro _
      rw [tyIs_f]
      go_simp
      apply wpRel_cons (t := tyIs _ _)
      case h1 => (intro w' hl hd2; clear hl hd2; unfold relAt; go_simp; exact rel_is LeW.refl)
      intro _
      rw [tyIs_f]
      go_simp
      apply wpRel_cons (t := tyIs _ _)
      case h1 => (intro w' hl hd2; clear hl hd2; unfold relAt; go_simp; exact rel_is LeW.refl)
      intro _
      rw [tyIs_f]
      go_simp
      apply wpRel_cons (t := tyIs _ _)
      case h1 => (intro w' hl hd2; obtain ⟨c0, c1⟩ := bdAt (HA.out.below hl) j hjl; rw [hxe] at c0 c1; clear hl hd2; unfold relAt; go_simp; exact rel_is LeW.refl)
      intro _
      rw [tyIs_f]
      go_simp
      apply wpRel_cons (t := tyIs _ _)
      case h1 => (intro w' hl hd2; clear hl hd2; unfold relAt; go_simp; exact rel_is LeW.refl)
      intro _
      rw [tyIs_f]
      go_simp
      apply wpRel_cons (t := tyIs _ _)
      case h1 => (intro w' hl hd2; clear hl hd2; unfold relAt; go_simp; exact rel_is LeW.refl)
      intro _
      rw [tyIs_f]
      go_simp
      apply wpRel_cons (t := tyIs _ _)
      case h1 => (intro w' hl hd2; clear hl hd2; unfold relAt; go_simp; exact rel_is LeW.refl)
      intro _
      rw [tyIs_f]
      go_simp
      apply wpRel_cons (t := tyIs _ _)
      case h1 => (intro w' hl hd2; obtain ⟨d0, d1⟩ := bdAt (HB.out.below hl) j hjl; rw [hxe] at d0 d1; clear hl hd2; unfold relAt; go_simp; exact rel_is LeW.refl)
      intro _
      rw [tyIs_f]
      go_simp
      apply wpRel_nil (Ts := [])
      intro w2 hl hF
      have HB2 := Lib.hid (hb.out.trans ((((Below.refl _ wr).drew).trans hl).mono hb.out.size))
      clear hl hF HA HB hxe
      go_wp2_with fail
      go_roundw
      case rel => exact ⟨j + 1, by omega, by go_num, HB2⟩
      case measure => simp [intOf]; omega
    · have : j = n2 := by omega
      subst this
      go_wp2_with fail
      go_ret
      exact ⟨rfl, hb.out⟩

/-- the definitions that a name has in a list -/
def defsOf (L : List Bd) (nm : ByteArray) : List ByteArray := dedup ((L.filter fun b => decide (b.1 = nm)).map (·.2))
def lookD (L : List Bd) (nm : ByteArray) : ByteArray := if (defsOf L nm).length = 1 then (defsOf L nm).getD 0 ByteArray.empty else ByteArray.empty
theorem defsOf_snoc (L : List Bd) (nm : ByteArray) (x : Bd) : defsOf (L ++ [x]) nm = if x.1 = nm then addN (defsOf L nm) x.2 else defsOf L nm := by
  unfold defsOf
  rw [List.filter_append]
  by_cases h : x.1 = nm
  · simp [h, dedup_snoc]
  · simp [h]
theorem defsOf_len (L : List Bd) (nm : ByteArray) : (defsOf L nm).length ≤ L.length := by
  unfold defsOf
  refine Nat.le_trans (dedup_len _) ?_
  rw [List.length_map]
  exact List.length_filter_le _ _

set_option maxHeartbeats 2000000 in
theorem lookup_any (p : Option Addr) (n cap : Nat) (L : List Bd) (nm : ByteArray) (w : World) (hL : L.length ≤ 1000000) (hs : SlIs encBd w (.slice p n cap) L) (hf : ∀ b ∈ L, b.1.size ≤ maxLen ∧ b.2.size ≤ maxLen) :
    Calls Try.prog 28 #[.slice p n cap, .string nm] w fun e w' => e = .returned (.tuple #[.string (lookD L nm), .int .i64 ((defsOf L nm).length : Nat)]) ∧ Below w.heap.size w w' := by
  obtain ⟨hn, hc1, hc2, hlies⟩ := hs.lies
  have hnb : (n : Int) ≤ 1000000 := by omega
  have Hn := Lib.hid hn
  have HF := Lib.hid hf
  clear hn hs hL hf
  have hm1 := @run_makeMap Try.prog
  go_enter Try.func28, Try.ntmps28
  go_wp2_with fail
  clear hm1
  go_loopw [6, 13] (fun fd i wr => ∃ (j : Nat) (s : ByteArray), j ≤ n ∧ i = .int .i64 j ∧ fd = .string s ∧ Hid (Below w.heap.size w wr) ∧ Hid (MapAt sKeys tt wr w.heap.size (defsOf (L.take j) nm).length (setF (defsOf (L.take j) nm))) ∧ Hid (defsOf (L.take j) nm = [] ∨ s ∈ defsOf (L.take j) nm)) (fun _ i _ => n - (intOf i).toNat)
  case atStart => exact ⟨0, ByteArray.empty, Nat.zero_le _, rfl, rfl, below_box w _, MapAt.made _ _ _, .inl rfl⟩
  case round =>
    obtain ⟨j, s, hj, rfl, rfl, HB, HM, HS⟩ := hrel
    obtain ⟨wA, rfl⟩ : ∃ x, x = wr := ⟨wr, rfl⟩
    by_cases hlt : j < n
    · obtain ⟨b, off, rfl, hca⟩ := hlies (by omega)
      have hjl : j < L.length := by rw [← Hn.out]; exact hlt
      obtain ⟨q0, q1⟩ := bdAt (hca.below HB.out) j hjl
      have HT := Lib.hid (take_snoc L bd0 j hjl)
      have HX := Lib.hid (HF.out (L.getD j bd0) (by simp [List.getD, List.getElem?_eq_getElem hjl]))
      obtain ⟨⟨x1, x2⟩, hxe⟩ : ∃ x, L.getD j bd0 = x := ⟨_, rfl⟩
      rw [hxe] at q0 q1 HT HX
      have HC := Lib.hid (cellsAt_alloc wA [.string x1, .string x2] bdT)
      obtain ⟨y0, y1⟩ := bd2 HC.out
      have HB1 := Lib.hid (HB.out.trans ((below_box wA (.cells #[.string x1, .string x2] bdT)).mono HB.out.size))
      have HM1 := Lib.hid (HM.out.alloc (.cells #[.string x1, .string x2] bdT))
      have hlen := defsOf_len (L.take j) nm
      have hcm : (defsOf (L.take j) nm).length < maxLen := by simp at hlen; unfold maxLen; omega
      clear hca hjl hxe HB HM HC hlen
      by_cases he : x1 = nm
      · subst he
        have HN : Hid (defsOf (L.take (j + 1)) x1 = addN (defsOf (L.take j) x1) x2) := by rw [Hid, HT.out, defsOf_snoc, if_pos rfl]
        go_wp2_with (first
          | (at_mapUpdate; refine wpList_store (K := sKeys) (val := tt) _ rfl _ _ _ 80 4 rfl Try.underlying80 hcm rfl HM1.out x2 rfl HX.out.2 () rfl ?_; intro w3 hm3 ht3; have HM3 := Lib.hid hm3; have HB3 := Lib.hid (HB1.out.trans (mapTurned_below (B := w.heap.size) ht3 (Nat.le_refl _) HM1.out.lt)); clear hm3 ht3 y0 y1 q0 q1)
          | fail)
        go_roundw
        case rel => exact ⟨j + 1, x2, by omega, by go_num, rfl, HB3, by rw [HN.out, ← addN_cnt, ← addN_set]; exact HM3, by right; rw [HN.out]; exact (addN_mem _ _ _).2 (.inr rfl)⟩
        case measure => simp [intOf]; omega
      · have HN : Hid (defsOf (L.take (j + 1)) nm = defsOf (L.take j) nm) := by rw [Hid, HT.out, defsOf_snoc, if_neg he]
        have he1 : (x1.toList == nm.toList) = false := beq_eq_false_iff_ne.2 (bytes_ne he)
        go_wp2_with fail
        go_roundw
        case rel => exact ⟨j + 1, s, by omega, by go_num, rfl, HB1, by rw [HN.out]; exact HM1, by rw [HN.out]; exact HS⟩
        case measure => simp [intOf]; omega
    · have hje : j = n := by omega
      have hlen : L.take j = L := by rw [hje, Hn.out]; exact List.take_length
      rw [hlen] at HM HS
      have hmlen := fun ty => HM.out.len (P := Try.prog) Try.underlying80 ty
      have hdl := defsOf_len L nm
      have hdi : ((defsOf L nm).length : Int) ≤ 1000000 := by have := Hn.out; omega
      by_cases h1 : (defsOf L nm).length = 1
      · have hD : lookD L nm = s := by
          unfold lookD
          rw [if_pos h1]
          rcases HS.out with q | q
          · rw [q] at h1; simp at h1
          · obtain ⟨y, hy⟩ := List.length_eq_one_iff.1 h1
            rw [hy] at q ⊢
            rw [List.mem_singleton] at q
            rw [q]; rfl
        have HD := Lib.hid hD
        rw [h1] at hmlen
        have h1' : ((defsOf L nm).length : Int) = 1 := by omega
        have H1 := Lib.hid h1'
        clear hD h1 h1' hdi hdl hlen hje HS
        go_wp2_with fail
        go_ret2
        exact ⟨by rw [HD.out, H1.out]; rfl, HB.out⟩
      · have hD : lookD L nm = ByteArray.empty := by unfold lookD; rw [if_neg h1]
        have HD := Lib.hid hD
        obtain ⟨c, hc⟩ : ∃ c, c = (defsOf L nm).length := ⟨_, rfl⟩
        rw [← hc] at h1 hmlen hdi hdl
        have HCc := Lib.hid hc
        have h1' : (((c : Nat) : Int) != 1) = true := by rw [bne_iff_ne]; omega
        clear hD hlen hje HS hc HM h1
        go_wp2_with fail
        go_ret2
        exact ⟨by rw [HD.out, ← HCc.out]; rfl, HB.out⟩
end Go.Proofs.Ytheigpiffdabnaa.Mds
