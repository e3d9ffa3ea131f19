/-
  CONTRACTS: identity.byID.
-/
import Derived.Test.YtcplhnpblpmalaaUpd
namespace Go.Proofs.Ytcplhnpblpmalaa.Idn
open Go Go.RowKit Go.Maps
set_option linter.unusedVariables false
set_option maxRecDepth 1000000
set_option linter.unusedSimpArgs false

abbrev mapI : TypeId := 92
def iKeys : KeyT Try.prog 3 Int where
  ok n := (Lit.int .i64 n).wf = true
  mkv n := .int .i64 n
  lit n := .int .i64 n
  keyed := int_keyed Try.underlying3
  reads x hx := keyOf_int_mk Try.underlying3 hx
  inj x y h := by injection h
  inv := (intKeys Try.underlying3).inv
/-- the definitions by their numbers: the first one counts -/
def biF (L : List En) (i : Int) : Option Df := (L.find? fun z => decide (z.1 = i)).map fun z => dfn z.2
theorem biF_snoc (L : List En) (y : En) : biF (L ++ [y]) = if (biF L y.1).isSome then biF L else updM (biF L) y.1 (some (dfn y.2)) := by
  funext i
  unfold biF
  rw [List.find?_append]
  by_cases h : ((L.find? fun z => decide (z.1 = y.1)).map fun z => dfn z.2).isSome = true
  · rw [if_pos h]
    cases e : L.find? (fun z => decide (z.1 = i)) with
    | some z => rfl
    | none =>
      have hne : ¬ y.1 = i := by
        intro q
        subst q
        rw [e] at h
        simp at h
      simp [hne]
  · rw [if_neg h]
    unfold updM
    by_cases q : i = y.1
    · subst q
      have e : L.find? (fun z => decide (z.1 = y.1)) = none := by
        cases e : L.find? (fun z => decide (z.1 = y.1)) with
        | none => rfl
        | some z => rw [e] at h; simp at h
      simp [e]
    · have hne : ¬ y.1 = i := fun k => q k.symm
      rw [if_neg q]
      simp [hne]
theorem zeroD (w : World) : (zeroValue 77).run Try.prog w = .ok (.agg #[.string ⟨#[]⟩, .string ⟨#[]⟩]) w := by kernel_rfl
/-- what a look-up by a number gives -/
theorem look_bi {w : World} {b cnt : Nat} {f : Int → Option Df} (h : MapAt iKeys dfV w b cnt f) (i : Int) (hi : (Lit.int .i64 i).wf = true) :
    ∃ d : Df, (Instr.lookup mapI (.map (some b)) (.int .i64 i) true).run Try.prog w = .ok (.tuple #[.agg #[.string d.1, .string d.2], .bool (f i).isSome]) w ∧ ∀ d', f i = some d' → d = d' := by
  have := h.look_ok (P := Try.prog) (t := mapI) Try.underlying92 (zeroD w) i hi
  cases e : f i with
  | none => rw [e] at this; exact ⟨(⟨#[]⟩, ⟨#[]⟩), this, fun d' h => by cases h⟩
  | some d => rw [e] at this; exact ⟨d, this, fun d' h => by cases h; rfl⟩

set_option maxHeartbeats 1000000 in
set_option maxRecDepth 100000 in
theorem byID_any (p : Option Addr) (n cap : Nat) (L : List En) (w : World) (hc : L.length ≤ 100000) (hs : SlIs encEn w (.slice p n cap) L) (hf : FitsE L) :
    Calls Try.prog 53 #[.slice p n cap] w fun e w' => ∃ b cnt, e = .returned (.map (some b)) ∧ Below w.heap.size w w' ∧ w.heap.size ≤ b ∧ MapAt iKeys dfV w' b cnt (biF L) := by
  obtain ⟨hn, hc1, hc2, hlies⟩ := hs.lies
  have hnb : (n : Int) ≤ 100000 := by omega
  have Hn := Lib.hid hn
  have HC := Lib.hid hc
  have HF := Lib.hid hf
  clear hn hs hc hf
  have hmm := run_makeMapN (P := Try.prog) mapI Try.underlying92
  go_enter Try.func53, Try.ntmps53
  go_wp2
  go_loopw [13] (fun i wr => ∃ (j cnt : Nat), j ≤ n ∧ cnt ≤ j ∧ i = .int .i64 j ∧ Hid (Below w.heap.size w wr) ∧ Hid (w.heap.size < wr.heap.size) ∧ Hid (MapAt iKeys dfV wr w.heap.size cnt (biF (L.take j)))) (fun i _ => n - (intOf i).toNat)
  case atStart => exact ⟨0, 0, Nat.zero_le _, Nat.le_refl _, rfl, below_box w _, by simp [Hid], MapAt.made _ _ _⟩
  case round =>
    obtain ⟨j, cnt, hj, hcj, rfl, hb, hsz, hm⟩ := hrel
    by_cases hlt : j < n
    · obtain ⟨b, off, rfl, hcells0⟩ := hlies (by omega)
      have hjl : j < L.length := by rw [← Hn.out]; exact hlt
      obtain ⟨c0, c1, c2, c3⟩ := enAt (hcells0.below hb.out) j hjl
      have HT : Hid (biF (L.take (j + 1)) = if (biF (L.take j) (L.getD j en0).1).isSome then biF (L.take j) else updM (biF (L.take j)) (L.getD j en0).1 (some (dfn (L.getD j en0).2))) := by rw [Hid, take_one L en0 j hjl]; exact biF_snoc (L.take j) (L.getD j en0)
      have HFJ := Lib.hid (fitE_at HF.out j hjl)
      generalize L.getD j en0 = x at *
      obtain ⟨i, m, nm, s⟩ := x
      have H1 := Lib.hid hlies
      clear hlies hcells0 hjl
      have HX := Lib.hid ((cellsAt_alloc wr [.int .i64 i, .string m, .string nm, .string s] 39))
      have HM := Lib.hid (hm.out.alloc (.cells #[.int .i64 i, .string m, .string nm, .string s] 39))
      have HB := Lib.hid (hb.out.trans ((below_box wr (.cells #[.int .i64 i, .string m, .string nm, .string s] 39)).mono hb.out.size))
      have HS : Hid (w.heap.size < (wr.alloc (.cells #[.int .i64 i, .string m, .string nm, .string s] 39)).heap.size) := Nat.lt_of_lt_of_le hsz.out (below_box wr _).size
      obtain ⟨⟨f1, f2, f3⟩, f4⟩ := HFJ.out
      obtain ⟨d, hlk, hd⟩ := look_bi HM.out i f4
      have HD := Lib.hid hd
      clear hm hb hsz hd
      cases hsome : biF (L.take j) i with
      | some d0 =>
        rw [hsome] at hlk
        simp only [Option.isSome_some] at hlk
        have HT2 : Hid (biF (L.take (j + 1)) = biF (L.take j)) := by rw [Hid, HT.out, if_pos (by rw [hsome]; rfl)]
        have HM2 := Lib.hid ((HM.out.alloc (.cells #[.string d.1, .string d.2] 77)))
        have HB2 := Lib.hid (HB.out.trans ((below_box (wr.alloc (.cells #[.int .i64 i, .string m, .string nm, .string s] 39)) (.cells #[.string d.1, .string d.2] 77)).mono HB.out.size))
        have HS2 : Hid (w.heap.size < ((wr.alloc (.cells #[.int .i64 i, .string m, .string nm, .string s] 39)).alloc (.cells #[.string d.1, .string d.2] 77)).heap.size) := Nat.lt_of_lt_of_le HS.out (below_box _ _).size
        clear HM HB HS HT HD hsome HX f4
        go_wp2_with fail
        go_roundw
        case rel => exact ⟨j + 1, cnt, by omega, by omega, by go_num, HB2, HS2, by rw [HT2.out]; exact HM2.out⟩
        case measure => simp [intOf]; omega
      | none =>
        rw [hsome] at hlk
        simp only [Option.isSome_none] at hlk
        have HT2 : Hid (biF (L.take (j + 1)) = updM (biF (L.take j)) i (some (m, nm))) := by rw [Hid, HT.out, if_neg (by rw [hsome]; simp)]; rfl
        have HM2 := Lib.hid ((HM.out.alloc (.cells #[.string d.1, .string d.2] 77)))
        have HB2 := Lib.hid (HB.out.trans ((below_box (wr.alloc (.cells #[.int .i64 i, .string m, .string nm, .string s] 39)) (.cells #[.string d.1, .string d.2] 77)).mono HB.out.size))
        have HS2 : Hid (w.heap.size < ((wr.alloc (.cells #[.int .i64 i, .string m, .string nm, .string s] 39)).alloc (.cells #[.string d.1, .string d.2] 77)).heap.size) := Nat.lt_of_lt_of_le HS.out (below_box _ _).size
        have HX2 := Lib.hid (HX.out.below (below_box _ (.cells #[.string d.1, .string d.2] 77)))
        clear HM HB HS HT HD hsome HX
        go_wp2_with fail
        generalize (wr.alloc (.cells #[.int .i64 i, .string m, .string nm, .string s] 39)).alloc (.cells #[.string d.1, .string d.2] 77) = wx at *
        generalize wr.heap.size = xb at *
        have HX := Lib.hid HX2.out.drew1
        clear HX2 hlk
        apply wp_region_relT LeW.refl LeW.trans 6
        case hm => kernel_rfl
        case hB => kernel_rfl
        simp only [List.take_succ_cons, List.take_zero, List.drop_succ_cons, List.drop_zero]
        apply wpRel_cons (t := tyIs _ _)
        case h1 => (intro w' hl hd2; clear hl hd2; unfold relAt; go_simp; exact rel_is LeW.refl)
        intro _
        rw [tyIs_f]
        go_simp
        apply wpRel_cons (t := tyIs _ _)
        case h1 => (intro w' hl hd2; obtain ⟨x0, x1, x2, x3⟩ := en4 (HX.out.below hl); clear hl hd2; unfold relAt; go_simp; exact rel_is LeW.refl)
        intro _
        rw [tyIs_f]
        go_simp
        apply wpRel_cons (t := tyIs _ _)
        case h1 => (intro w' hl hd2; obtain ⟨x0, x1, x2, x3⟩ := en4 (HX.out.below hl); clear hl hd2; unfold relAt; go_simp; exact rel_is LeW.refl)
        intro _
        rw [tyIs_f]
        go_simp
        apply wpRel_cons (t := tyIs _ _)
        case h1 => (intro w' hl hd2; obtain ⟨x0, x1, x2, x3⟩ := en4 (HX.out.below hl); clear hl hd2; unfold relAt; go_simp; exact rel_is LeW.refl)
        intro _
        rw [tyIs_f]
        go_simp
        apply wpRel_cons (t := tyIs _ _)
        case h1 => (intro w' hl hd2; obtain ⟨x0, x1, x2, x3⟩ := en4 (HX.out.below hl); clear hl hd2; unfold relAt; go_simp; exact rel_is LeW.refl)
        intro _
        rw [tyIs_f]
        go_simp
        apply wpRel_cons (t := tyIs _ (.agg #[.string m, .string nm]))
        case h1 => (intro w' hl hd2; clear hl hd2; unfold relAt; go_simp; refine ⟨LeW.refl _, ?_⟩; refine (definitionOf_any (m, nm, s) _).mono ?_; rintro e w'' ⟨rfl, hb''⟩; exact ⟨(), rfl, hb'', trivial⟩)
        intro _
        rw [tyIs_f]
        go_simp
        apply wpRel_nil (Ts := [])
        intro w2 hl hF
        have hl1 : Below wx.heap.size wx w2 := bnext ((Below.refl _ wx).drew) hl
        have HM1 := Lib.hid (HM2.out.below hl1 HM2.out.lt)
        have HB1 := Lib.hid (HB2.out.trans (hl1.mono HB2.out.size))
        have HS1 : Hid (w.heap.size < w2.heap.size) := Nat.lt_of_lt_of_le HS2.out hl1.size
        clear HM2 HB2 HS2 hl hl1 hF HX
        have hcm : cnt < maxLen := by have := HC.out; have := Hn.out; unfold maxLen; omega
        refine wpList_store (K := iKeys) (val := dfV) _ rfl _ _ _ mapI 77 rfl Try.underlying92 hcm rfl HM1.out i rfl f4 (m, nm) rfl ?_
        intro w3 hm3 ht3
        have HB3 := Lib.hid (HB1.out.trans (mapTurned_below (B := w.heap.size) ht3 (Nat.le_refl _) HS1.out))
        have HS3 : Hid (w.heap.size < w3.heap.size) := Nat.lt_of_lt_of_le HS1.out ht3.grown.size
        have HM3 : Hid (MapAt iKeys dfV w3 w.heap.size (cntPut (biF (L.take j)) i cnt) (biF (L.take (j + 1)))) := by rw [HT2.out]; exact hm3
        have HCP : Hid (cntPut (biF (L.take j)) i cnt ≤ cnt + 1) := by unfold Hid cntPut; split <;> omega
        clear hm3 ht3 HB1 HS1 HM1
        go_wp2_with fail
        go_roundw
        case rel => exact ⟨j + 1, _, by omega, by have := HCP.out; omega, by go_num, HB3, HS3, HM3⟩
        case measure => simp [intOf]; omega
    · have hje : j = n := by omega
      have hlen : L.take j = L := by rw [hje, Hn.out]; exact List.take_length
      rw [hlen] at hm
      clear hje hlen hlies
      go_wp2
      go_ret
      exact ⟨_, _, rfl, hb.out, Nat.le_refl _, hm.out⟩
end Go.Proofs.Ytcplhnpblpmalaa.Idn
