/-
  PROVED: the items of two made texts without errors, one after the other, are those of both, and a wrong item between them takes nothing from them, for any two lists of numbers and any choice; no condition.
-/
import Derived.Test.YtheigpiffdabnaaGreatRows
import Derived.Test.YtheigpiffdabnaaGreatZB7
import Derived.Test.YtheigpiffdabnaaGreatZJoinsP
import Derived.Test.YtheigpiffdabnaaGreatZL4
import Derived.Test.YtheigpiffdabnaaGreatZAW
import Derived.WalkKit
import Derived.ProofKit
import Derived.OpenShut
import Derived.ShutString
set_option linter.unusedSimpArgs false
set_option linter.unusedVariables false
namespace Go.Proofs.YtheigpiffdabnaaGreat.parserJoins
open Go Go.ChangeShapes Go.WideShapes Go.ChangeAt Go.RowKit Go.Proofs.YtheigpiffdabnaaGreat
/-- the cells of a node -/
structure NodeAt (w : World) (b o : Nat) (q : Raw) : Prop where
 c0 : w.cell? ⟨b, o, none⟩ = some (.int .i64 q.kind)
 c1 : w.cell? ⟨b, o + 1, none⟩ = some (.string q.text)
 c2 : w.cell? ⟨b, o + 2, none⟩ = some (.int .i64 q.at_)
 c3 : w.cell? ⟨b, o + 3, none⟩ = some (.slice q.p q.n q.cap)
theorem NodeAt.later {w w' : World} {b o : Nat} {q : Raw} (h : NodeAt w b o q) (hb : Below w.heap.size w w') : NodeAt w' b o q :=
 ⟨below_cell hb h.c0, below_cell hb h.c1, below_cell hb h.c2, below_cell hb h.c3⟩
theorem NodeAt.box (w : World) (q : Raw) (t : TypeId) : NodeAt (w.alloc (.cells #[.int .i64 q.kind, .string q.text, .int .i64 q.at_, .slice q.p q.n q.cap] t)) w.heap.size 0 q :=
 ⟨by rw [Lib.cell_of_heap (heap_alloc_new w _)]; rfl, by rw [Lib.cell_of_heap (heap_alloc_new w _)]; rfl, by rw [Lib.cell_of_heap (heap_alloc_new w _)]; rfl, by rw [Lib.cell_of_heap (heap_alloc_new w _)]; rfl⟩
theorem node_of {A : Nat → Prop} {w : World} {p : Option Addr} {n c : Nat} {l : List Tree} (h : IsTs A w (.slice p n c) l) (i : Nat) (hi : i < l.length) : ∃ b o q, p = some ⟨b, o, none⟩ ∧ IsT A w q l[i] ∧ NodeAt w b (o + i * 4) q := by
 obtain ⟨b, off, q, e, ht, x0, x1, x2, x3⟩ := h.at_.2 i hi
 exact ⟨b, off, q, e, ht, x0, x1, x2, x3⟩
def tyTr (t : Tree) : Ty LeW := ⟨{q : Raw // True}, ⟨⟨default, trivial⟩⟩, fun q => .agg #[.int .i64 q.1.kind, .string q.1.text, .int .i64 q.1.at_, .slice q.1.p q.1.n q.1.cap], fun q w => IsT (fun _ => True) w q.1 t, fun x w w' hl h => h.later hl⟩
theorem tyTr_f (t : Tree) (q : Raw) (h : True) : (tyTr t).f ⟨q, h⟩ = .agg #[.int .i64 q.kind, .string q.text, .int .i64 q.at_, .slice q.p q.n q.cap] := rfl
theorem tyTr_p (t : Tree) (q : Raw) (h : True) (w : World) : (tyTr t).φ ⟨q, h⟩ w = IsT (fun _ => True) w q t := rfl
theorem strip_of {A : Nat → Prop} {t u : Tree} {q : Raw} {w : World} (hf : FewT t) (h : IsT A w q t) (e : strip t = u) : ∀ w', Below w.heap.size w w' → Calls Tryz.prog 10 #[.agg #[.int .i64 q.kind, .string q.text, .int .i64 q.at_, .slice q.p q.n q.cap]] w' fun e w2 => ∃ q' : Raw, e = .returned (.agg #[.int .i64 q'.kind, .string q'.text, .int .i64 q'.at_, .slice q'.p q'.n q'.cap]) ∧ IsT (fun _ => True) w2 q' u ∧ Below w'.heap.size w' w2 := fun w' hb => by
 subst e
 refine (rStripT_any t hf q w' (h.later hb)).mono ?_
 rintro e w2 ⟨q', rfl, ht, hb2⟩
 exact ⟨q', rfl, ht.mono (fun _ _ => trivial), hb2⟩
theorem same_of {A : Nat → Prop} {u : Tree} {q : Raw} {w : World} (h : IsT A w q u) : ∀ (q2 : Raw) w', Below w.heap.size w w' → IsT (fun _ => True) w' q2 u → Calls Tryz.prog 11 #[.agg #[.int .i64 q.kind, .string q.text, .int .i64 q.at_, .slice q.p q.n q.cap], .agg #[.int .i64 q2.kind, .string q2.text, .int .i64 q2.at_, .slice q2.p q2.n q2.cap]] w' fun e w2 => e = .returned (.bool true) ∧ Below w'.heap.size w' w2 := fun q2 w' hb h2 => rSameT_any u q q2 w' (h.later hb) h2
theorem wrong_cell (w : World) (T : TypeId) (j : Nat) (hj : j < 7) : (w.alloc (.cells #[.string ⟨#[]⟩, .string ⟨#[102, 110, 32, 102, 40]⟩, .string ⟨#[63]⟩, .string ⟨#[99, 111, 110, 115, 116, 32, 99, 32, 105, 110, 116, 32, 61, 32, 49, 59]⟩, .string ⟨#[116, 121, 112, 101, 32, 84, 32, 123, 32, 120, 32, 125]⟩, .string ⟨#[108, 101, 116, 32, 120, 32, 61, 32, 49, 59]⟩, .string ⟨#[105, 109, 112, 108, 32, 65, 32, 66, 32, 123]⟩] T)).cell? ⟨w.heap.size, j, none⟩ = some (.string (wrongs.getD j ByteArray.empty)) := by
 rw [Lib.cell_of_heap (heap_alloc_new w _)]
 rcases (by omega : j = 0 ∨ j = 1 ∨ j = 2 ∨ j = 3 ∨ j = 4 ∨ j = 5 ∨ j = 6) with rfl | rfl | rfl | rfl | rfl | rfl | rfl <;> rfl
theorem wrong_in {j : Nat} (hj : j < 7) : wrongs.getD j ByteArray.empty ∈ wrongs := by
 rcases (by omega : j = 0 ∨ j = 1 ∨ j = 2 ∨ j = 3 ∨ j = 4 ∨ j = 5 ∨ j = 6) with rfl | rfl | rfl | rfl | rfl | rfl | rfl <;> (unfold wrongs; simp)
theorem toList_nil {W : ByteArray} : W.toList = [] ↔ W = ⟨#[]⟩ := by
 rw [ByteArray.toList_eq]
 constructor
 ·intro h
  obtain ⟨⟨l⟩⟩ := W
  simp only at h
  subst h
  rfl
 ·rintro rfl; rfl
set_option maxHeartbeats 40000000 in
set_option maxRecDepth 1000000 in
theorem walk (p : Option Addr) (n cap : Nat) (p2 : Option Addr) (n2 cap2 : Nat) (k : Int) (w : World) (hk1 : -9223372036854775808 ≤ k) (hk2 : k ≤ 9223372036854775807) (hn : n ≤ maxLen) (hro : Rolls w p n) (hin : ∀ b o, p = some ⟨b, o, none⟩ → b < w.heap.size) (hn2 : n2 ≤ maxLen) (hro2 : Rolls w p2 n2) (hin2 : ∀ b o, p2 = some ⟨b, o, none⟩ → b < w.heap.size) :
  Calls Tryz.prog 3 #[.slice p n cap, .slice p2 n2 cap2, .int .i64 k] w fun e w' => e = .returned (.bool true) ∧ Below w.heap.size w w' := by
 by_cases h1 : 400 < n
 ·go_enter Tryz.func3, Tryz.ntmps3
  go_wp2_with fail
  refine (light_no p n cap _ h1 hn).mono ?_
  rintro e w1 ⟨rfl, rfl⟩
  go_wp2_with fail
  refine (awake03_any _).mono ?_
  rintro e w2 ⟨rfl, hb⟩
  have HB := Lib.hid hb
  clear hb
  go_wp2_with fail
  go_ret
  exact ⟨rfl, HB.out⟩
 by_cases h2 : 400 < n2
 ·go_enter Tryz.func3, Tryz.ntmps3
  go_wp2_with fail
  refine (light_yes p n cap _ (by omega)).mono ?_
  rintro e w1 ⟨rfl, rfl⟩
  go_wp2_with fail
  refine (light_no p2 n2 cap2 _ h2 hn2).mono ?_
  rintro e w1 ⟨rfl, rfl⟩
  go_wp2_with fail
  refine (awake03_any _).mono ?_
  rintro e w2 ⟨rfl, hb⟩
  have HB := Lib.hid hb
  clear hb
  go_wp2_with fail
  go_ret
  exact ⟨rfl, HB.out⟩
 have HN4 : Hid (n ≤ 400) := by show n ≤ 400; omega
 have HN42 : Hid (n2 ≤ 400) := by show n2 ≤ 400; omega
 have HRO := Lib.hid hro
 have HRO2 := Lib.hid hro2
 have HIN := Lib.hid hin
 have HIN2 := Lib.hid hin2
 obtain ⟨kz, hmod, hz0, hz7⟩ := mod_any k 7 (by omega) (by omega) hk1 hk2
 obtain ⟨jz, rfl⟩ := Int.eq_ofNat_of_zero_le hz0
 have HMOD := Lib.hid hmod
 clear hro hro2 hin hin2 hmod hz0
 go_enter Tryz.func3, Tryz.ntmps3
 go_wp2_with fail
 refine (light_yes p n cap _ HN4.out).mono ?_
 rintro e w1 ⟨rfl, rfl⟩
 go_wp2_with fail
 refine (light_yes p2 n2 cap2 _ HN42.out).mono ?_
 rintro e w1 ⟨rfl, rfl⟩
 go_wp2_with fail
 apply wp_region_rel (LeJ.refl w1.heap.size) (LeJ.trans w1.heap.size)
 case hm => kernel_rfl
 case hB => kernel_rfl
 apply wpRel_cons (t := tyIs _ _)
 case h1 => (intro w' hl hd2; clear hl hd2; unfold relAt; go_simp; exact rel_is (LeJ.refl _))
 intro _
 rw [tyIs_f]
 go_simp
 apply wpRel_cons (t := tyDie w1.heap.size p n cap)
 case h1 => (intro w' hl hd2; obtain ⟨q1, q2, q3⟩ := die_new (cap := cap) HRO.out HIN.out HN4.out hl; clear hl hd2; unfold relAt; go_simp; refine ⟨LeJ.refl _ _, ?_⟩; refine (roll_any p n cap _).mono ?_; rintro e w2 ⟨rfl, rfl⟩; exact ⟨⟨w'.heap.size, q1⟩, rfl, q3, q2, HIN.out⟩)
 rintro ⟨Dn, hDn⟩
 rw [tyDie_f]
 go_simp
 apply wpRel_cons (t := tyMod Gr.grP w1.heap.size)
 case h1 => (intro w' hl hd2; have hx := fact_in hd2 (j := 1) (by kernel_rfl); simp [upd, tyDie_p] at hx; have hs := hl.be.size; clear hl hd2; unfold relAt; go_simp; refine ⟨LeJ.refl _ _, ?_⟩; refine (sources_any Gr.grP ⟨Dn, p, n, cap⟩ w' hx.1 (fun b o e => by have h1 := HIN.out b o e; have h2 : w1.heap.size ≤ w'.heap.size := hs; omega)).mono ?_; rintro e w2 hp; obtain ⟨g0, n0, c0, rfl, h1, hm⟩ := src_first hp; obtain ⟨_, _, _, _, _, _, _, hd', hf⟩ := hp; exact ⟨⟨(g0, n0, c0), h1⟩, rfl, LeJ.of_src hDn hx.1 hd' hf, hm⟩)
 rintro ⟨⟨gA, nA, cA⟩, hA⟩
 rw [tyMod_f]
 go_simp
 have h0A : 0 < nA := hA
 apply wpRel_cons (t := tyPm Gr.grP w1.heap.size 0)
 case h1 => (intro w' hl hd2; have hx := fact_in hd2 (j := 2) (by kernel_rfl); simp [upd, tyMod_p, tyPm_p] at hx; clear hl hd2; unfold relAt; go_simp; exact ⟨LeJ.refl _ _, ⟨_, trivial⟩, rfl, hx⟩)
 rintro ⟨g3, -⟩
 rw [tyPm_f]
 go_simp
 apply wpRel_cons (t := tyPm Gr.grP w1.heap.size 1)
 case h1 => (intro w' hl hd2; have hx := fact_in hd2 (j := 3) (by kernel_rfl); simp [upd, tyMod_p, tyPm_p] at hx; clear hl hd2; unfold relAt; go_simp; exact ⟨LeJ.refl _ _, ⟨_, trivial⟩, rfl, hx⟩)
 rintro ⟨g4, -⟩
 rw [tyPm_f]
 go_simp
 apply wpRel_cons (t := tyD _ (qT Gr.grP 12400))
 case h1 => (intro w' hl hd2; have hx := fact_in hd2 (j := 4) (by kernel_rfl); simp [upd, tyMod_p, tyPm_p] at hx; clear hl hd2; obtain ⟨m0, s0, c0, c1, hs⟩ := hx; unfold relAt; go_simp; exact ⟨LeJ.refl _ _, ⟨s0, hs⟩, rfl, trivial⟩)
 rintro ⟨a0, qa0⟩
 rw [tyD_f]
 go_simp
 apply wpRel_cons (t := tyIs _ _)
 case h1 => (intro w' hl hd2; clear hl hd2; unfold relAt; go_simp; exact rel_is (LeJ.refl _))
 intro _
 rw [tyIs_f]
 go_simp
 apply wpRel_cons (t := tyDie w1.heap.size p2 n2 cap2)
 case h1 => (intro w' hl hd2; obtain ⟨q1, q2, q3⟩ := die_new (cap := cap2) HRO2.out HIN2.out HN42.out hl; clear hl hd2; unfold relAt; go_simp; refine ⟨LeJ.refl _ _, ?_⟩; refine (roll_any p2 n2 cap2 _).mono ?_; rintro e w2 ⟨rfl, rfl⟩; exact ⟨⟨w'.heap.size, q1⟩, rfl, q3, q2, HIN2.out⟩)
 rintro ⟨Dn2, hDn2⟩
 rw [tyDie_f]
 go_simp
 apply wpRel_cons (t := tyMod Gr.grP w1.heap.size)
 case h1 => (intro w' hl hd2; have hx := fact_in hd2 (j := 7) (by kernel_rfl); simp [upd, tyDie_p] at hx; have hs := hl.be.size; clear hl hd2; unfold relAt; go_simp; refine ⟨LeJ.refl _ _, ?_⟩; refine (sources_any Gr.grP ⟨Dn2, p2, n2, cap2⟩ w' hx.1 (fun b o e => by have h1 := HIN2.out b o e; have h2 : w1.heap.size ≤ w'.heap.size := hs; omega)).mono ?_; rintro e w2 hp; obtain ⟨g0, n0, c0, rfl, h1, hm⟩ := src_first hp; obtain ⟨_, _, _, _, _, _, _, hd', hf⟩ := hp; exact ⟨⟨(g0, n0, c0), h1⟩, rfl, LeJ.of_src hDn2 hx.1 hd' hf, hm⟩)
 rintro ⟨⟨gB, nB, cB⟩, hB⟩
 rw [tyMod_f]
 go_simp
 have h0B : 0 < nB := hB
 apply wpRel_cons (t := tyPm Gr.grP w1.heap.size 0)
 case h1 => (intro w' hl hd2; have hx := fact_in hd2 (j := 8) (by kernel_rfl); simp [upd, tyMod_p, tyPm_p] at hx; clear hl hd2; unfold relAt; go_simp; exact ⟨LeJ.refl _ _, ⟨_, trivial⟩, rfl, hx⟩)
 rintro ⟨g9, -⟩
 rw [tyPm_f]
 go_simp
 apply wpRel_cons (t := tyPm Gr.grP w1.heap.size 1)
 case h1 => (intro w' hl hd2; have hx := fact_in hd2 (j := 9) (by kernel_rfl); simp [upd, tyMod_p, tyPm_p] at hx; clear hl hd2; unfold relAt; go_simp; exact ⟨LeJ.refl _ _, ⟨_, trivial⟩, rfl, hx⟩)
 rintro ⟨g10, -⟩
 rw [tyPm_f]
 go_simp
 apply wpRel_cons (t := tyD _ (qT Gr.grP 12400))
 case h1 => (intro w' hl hd2; have hx := fact_in hd2 (j := 10) (by kernel_rfl); simp [upd, tyMod_p, tyPm_p] at hx; clear hl hd2; obtain ⟨m0, s0, c0, c1, hs⟩ := hx; unfold relAt; go_simp; exact ⟨LeJ.refl _ _, ⟨s0, hs⟩, rfl, trivial⟩)
 rintro ⟨b0, qb0⟩
 rw [tyD_f]
 go_simp
 apply wpRel_cons (t := tyD _ (qT Gr.grP 12400))
 case h1 => (intro w' hl hd2; clear hl hd2; unfold relAt; go_simp; exact ⟨LeJ.refl _ _, ⟨_, qa0⟩, rfl, trivial⟩)
 rintro ⟨a, qa⟩
 rw [tyD_f]
 go_simp
 apply wpRel_cons (t := tyD _ (qT Gr.grP 12400))
 case h1 => (intro w' hl hd2; clear hl hd2; unfold relAt; go_simp; exact ⟨LeJ.refl _ _, ⟨_, qb0⟩, rfl, trivial⟩)
 rintro ⟨b, qb⟩
 rw [tyD_f]
 go_simp
 apply wpRel_nil (Ts := [])
 intro wq hl hF
 have HB0 : Hid (Below w1.heap.size w1 wq) := (Below.refl _ _).drew.trans hl.be
 obtain ⟨hsa, hTa⟩ := qa
 obtain ⟨hsb, hTb⟩ := qb
 clear hl hF
 clear qa0 qb0
 clear HRO HRO2 HIN HIN2
 by_cases hlen : a.size + b.size ≤ 19900
 ·obtain ⟨x, hx⟩ := made_mod hTa (by omega)
  obtain ⟨y, hy⟩ := made_mod hTb (by omega)
  have HX := Lib.hid hx
  have HY := Lib.hid hy
  clear hTa hTb hx hy
  go_wp2_with fail
  refine (parserModule_any a _ (by omega)).mono ?_
  rintro e w3 hm
  rw [HX.out] at hm
  obtain ⟨v9, v10, rfl, ht9, he10, hb3⟩ := hm
  obtain ⟨p9, c9, rfl, ht9⟩ := ht9.shape
  obtain ⟨p10, c10, e10, -, -, -⟩ := he10
  have e10' : v10 = .slice p10 0 c10 := e10
  subst e10'
  have HT9 := Lib.hid ht9
  have HB3 := Lib.hid (HB0.out.trans (hb3.mono HB0.out.size))
  clear ht9 hb3 e10 HB0
  go_wp2_with fail
  refine (parserModule_any b _ (by omega)).mono ?_
  rintro e w4 hm
  rw [HY.out] at hm
  obtain ⟨v11, v12, rfl, ht11, he12, hb4⟩ := hm
  obtain ⟨p11, c11, rfl, ht11⟩ := ht11.shape
  obtain ⟨p12, c12, e12, -, -, -⟩ := he12
  have e12' : v12 = .slice p12 0 c12 := e12
  subst e12'
  have HT11 := Lib.hid ht11
  have HT9b := Lib.hid (HT9.out.later hb4)
  have HB4 := Lib.hid (HB3.out.trans (hb4.mono HB3.out.size))
  clear ht11 hb4 e12 HB3 HT9
  have hwc := wrong_cell w4 9 jz (by omega)
  have hWi := wrong_in (j := jz) (by omega)
  obtain ⟨Wz, hWz⟩ : ∃ W, W = wrongs.getD jz ByteArray.empty := ⟨_, rfl⟩
  rw [← hWz] at hwc hWi
  have hWs := wrongs_size Wz hWi
  have HWI := Lib.hid hWi
  have HSZ : Hid (((((a ++ ⟨#[10]⟩) ++ Wz) ++ ⟨#[10]⟩) ++ b).size ≤ 20000) := by
   show _ ≤ _
   have e1 : (⟨#[10]⟩ : ByteArray).size = 1 := rfl
   simp only [ByteArray.size_append, e1]
   omega
  obtain ⟨z, g, hz, hlr, hgw⟩ := wrong_join HWI.out HSZ.out HX.out HY.out
  have HZ := Lib.hid hz
  have HLR := Lib.hid (joins_strip hlr)
  have HGW := Lib.hid hgw
  have HFZ := Lib.hid (modOf_few hz)
  have HFX := Lib.hid (modOf_few HX.out)
  have HFY := Lib.hid (modOf_few HY.out)
  have hwb := below_box w4 (.cells #[.string ⟨#[]⟩, .string ⟨#[102, 110, 32, 102, 40]⟩, .string ⟨#[63]⟩, .string ⟨#[99, 111, 110, 115, 116, 32, 99, 32, 105, 110, 116, 32, 61, 32, 49, 59]⟩, .string ⟨#[116, 121, 112, 101, 32, 84, 32, 123, 32, 120, 32, 125]⟩, .string ⟨#[108, 101, 116, 32, 120, 32, 61, 32, 49, 59]⟩, .string ⟨#[105, 109, 112, 108, 32, 65, 32, 66, 32, 123]⟩] 9)
  have HT9c := Lib.hid (HT9b.out.later hwb)
  have HT11c := Lib.hid (HT11.out.later hwb)
  have HB5 := Lib.hid (HB4.out.trans (hwb.mono HB4.out.size))
  clear hWz hWi hz hlr hgw hwb HT9b HT11 HB4
  go_wp2_with (first
   | (go_at_call 9; refine (HMOD.out _).mono ?_; rintro e w5 ⟨rfl, rfl⟩)
   | fail)
  generalize w4.alloc (.cells #[.string ⟨#[]⟩, .string ⟨#[102, 110, 32, 102, 40]⟩, .string ⟨#[63]⟩, .string ⟨#[99, 111, 110, 115, 116, 32, 99, 32, 105, 110, 116, 32, 61, 32, 49, 59]⟩, .string ⟨#[116, 121, 112, 101, 32, 84, 32, 123, 32, 120, 32, 125]⟩, .string ⟨#[108, 101, 116, 32, 120, 32, 61, 32, 49, 59]⟩, .string ⟨#[105, 109, 112, 108, 32, 65, 32, 66, 32, 123]⟩] 9) = w5 at *
  clear hwc
  refine (parserModule_any _ _ (Nat.le_trans HSZ.out (by decide))).mono ?_
  rintro e w6 hm
  rw [HZ.out] at hm
  obtain ⟨v14, v15, rfl, ht14, he15, hb6⟩ := hm
  obtain ⟨p14, c14, rfl, ht14⟩ := ht14.shape
  obtain ⟨p15, c15, rfl, -, -⟩ := he15.shape
  have hzf := ht14.few
  have HT14 := Lib.hid ht14
  have HT9d := Lib.hid (HT9c.out.later hb6)
  have HT11d := Lib.hid (HT11c.out.later hb6)
  have HB6 := Lib.hid (HB5.out.trans (hb6.mono HB5.out.size))
  clear ht14 hb6 HT9c HT11c HB5
  have hzl := HLR.out.1
  have ew : IntKind.i64.wrap ((x.length : Int) + (y.length : Int)) = (x.length : Int) + (y.length : Int) := IntWalk.i64_in _ (by omega)
  have hzi : ((z.length : Nat) : Int) = (x.length : Int) + (y.length : Int) := by omega
  have hne : (((z.length : Nat) : Int) != (x.length : Int) + (y.length : Int)) = false := by rw [hzi]; simp
  have hgw2 : (!decide (0 < g.length) == !Wz.toList.isEmpty) = false := by
   have hg := HGW.out
   by_cases e : Wz = ⟨#[]⟩
   ·have e2 := hg.2 e
    subst e; subst e2
    rw [toList_nil.2 rfl]
    rfl
   ·have e2 : g ≠ [] := fun q => e (hg.1 q)
    have e3 : Wz.toList ≠ [] := fun q => e (toList_nil.1 q)
    have e4 : Wz.toList.isEmpty = false := by cases h : Wz.toList with
     | nil => exact absurd h e3
     | cons _ _ => rfl
    rw [e4, decide_eq_true (List.length_pos_iff.2 e2)]
    rfl
  clear hzi hzl
  go_wp2_with fail
  refine (awake03_any _).mono ?_
  rintro e w7 ⟨rfl, hb7⟩
  have HT14e := Lib.hid (HT14.out.later hb7)
  have HT9e := Lib.hid (HT9d.out.later hb7)
  have HT11e := Lib.hid (HT11d.out.later hb7)
  have HB7 := Lib.hid (HB6.out.trans (hb7.mono HB6.out.size))
  clear hb7 HT14 HT9d HT11d HB6
  go_wp2_with fail
  clear ew hne hgw2 hWs
  go_loopw [16] (fun i wr => ∃ ii : Nat, ii ≤ z.length ∧ i = .int .i64 ii ∧ Hid (Below w7.heap.size w7 wr)) (fun i _ => z.length - (intOf i).toNat)
  case atStart => exact ⟨0, Nat.zero_le _, rfl, Below.refl _ _⟩
  case round =>
   obtain ⟨ii, hii, rfl, hbx⟩ := hrel
   obtain ⟨wx, rfl⟩ : ∃ x, x = wr := ⟨wr, rfl⟩
   by_cases hlt : ii < z.length
   ·have hli : (ii : Int) < (z.length : Int) := by omega
    obtain ⟨bz, oz, qz, rfl, htz, hnz⟩ := node_of (HT14e.out.later hbx.out) ii hlt
    have hc := strip_of (HFZ.out ii hlt) htz (rfl : strip z[ii] = strip z[ii]) wx (Below.refl _ _)
    have HC := Lib.hid hc
    obtain ⟨y0, y1, y2, y3⟩ := hnz
    clear htz hc
    go_wp2_with fail
    refine HC.out.mono ?_
    rintro e w8 ⟨q7, rfl, ht7, hb8⟩
    have HT7 := Lib.hid ht7
    have HB8b := Lib.hid (bnext hbx.out hb8)
    have HN8 := Lib.hid (NodeAt.box w8 q7 37)
    have HBX8 := Lib.hid (bnext HB8b.out (below_box w8 (.cells #[.int .i64 q7.kind, .string q7.text, .int .i64 q7.at_, .slice q7.p q7.n q7.cap] 37)))
    have HT7b := Lib.hid (ht7.later (below_box w8 (.cells #[.int .i64 q7.kind, .string q7.text, .int .i64 q7.at_, .slice q7.p q7.n q7.cap] 37)))
    clear ht7 hb8 y0 y1 y2 y3 HC hbx
    go_wp2_with fail
    generalize hwn : w8.alloc (.cells #[.int .i64 q7.kind, .string q7.text, .int .i64 q7.at_, .slice q7.p q7.n q7.cap] 37) = w9 at *
    generalize w8.heap.size = Bx at *
    clear hwn
    have HB8 : Hid (NodeAt w9.drew Bx 0 q7) := HN8.out.later ((Below.refl _ _).drew)
    by_cases hix : ii < x.length
    ·have hxi : (ii : Int) < (x.length : Int) := by omega
     have hxi2 : ¬ (x.length : Int) ≤ (ii : Int) := by omega
     obtain ⟨bb, ob, qb, rfl, htb, hnb⟩ := node_of (HT9e.out.later HBX8.out) ii hix
     have HX1 : Hid (NodeAt w9.drew bb (ob + ii * 4) qb) := hnb.later ((Below.refl _ _).drew)
     obtain ⟨u, hu⟩ : ∃ u, u = strip x[ii] := ⟨_, rfl⟩
     have HS1 := Lib.hid (strip_of (HFX.out ii hix) (htb.later ((Below.refl _ _).drew)) hu.symm)
     have HSM := Lib.hid (same_of (u := u) (by rw [hu, ← HLR.out.2.1 ii hix hlt]; exact HT7b.out.later ((Below.refl w9.heap.size w9).drew)))
     clear htb hnb hu
     apply wp_region_relT LeW.refl LeW.trans 32
     case hm => kernel_rfl
     case hB => kernel_rfl
     simp only [List.take_succ_cons, List.take_zero, List.drop_succ_cons, List.drop_zero]
     apply wpRel_cons (t := tyIs _ _)
     case h1 => (intro w' hl hd2; clear hl hd2; unfold relAt; go_simp; exact rel_is LeW.refl)
     intro _
     rw [tyIs_f]
     go_simp
     apply wpRel_cons (t := tyIs _ _)
     case h1 => (intro w' hl hd2; clear hl hd2; unfold relAt; go_simp; exact rel_is LeW.refl)
     intro _
     rw [tyIs_f]
     go_simp
     apply wpRel_cons (t := tyIs _ _)
     case h1 => (intro w' hl hd2; clear hl hd2; unfold relAt; go_simp; exact rel_is LeW.refl)
     intro _
     rw [tyIs_f]
     go_simp
     apply wpRel_cons (t := tyIs _ _)
     case h1 => (intro w' hl hd2; clear hl hd2; unfold relAt; go_simp; exact rel_is LeW.refl)
     intro _
     rw [tyIs_f]
     go_simp
     apply wpRel_cons (t := tyIs _ _)
     case h1 => (intro w' hl hd2; clear hl hd2; unfold relAt; go_simp; exact rel_is LeW.refl)
     intro _
     rw [tyIs_f]
     go_simp
     apply wpRel_cons (t := tyIs _ _)
     case h1 => (intro w' hl hd2; obtain ⟨k0, k1, k2, k3⟩ := HB8.out.later hl; clear hl hd2; unfold relAt; go_simp; exact rel_is LeW.refl)
     intro _
     rw [tyIs_f]
     go_simp
     apply wpRel_cons (t := tyIs _ _)
     case h1 => (intro w' hl hd2; clear hl hd2; unfold relAt; go_simp; exact rel_is LeW.refl)
     intro _
     rw [tyIs_f]
     go_simp
     apply wpRel_cons (t := tyIs _ _)
     case h1 => (intro w' hl hd2; clear hl hd2; unfold relAt; go_simp; exact rel_is LeW.refl)
     intro _
     rw [tyIs_f]
     go_simp
     apply wpRel_cons (t := tyIs _ _)
     case h1 => (intro w' hl hd2; clear hl hd2; unfold relAt; go_simp; exact rel_is LeW.refl)
     intro _
     rw [tyIs_f]
     go_simp
     apply wpRel_cons (t := tyIs _ _)
     case h1 => (intro w' hl hd2; obtain ⟨k0, k1, k2, k3⟩ := HX1.out.later hl; clear hl hd2; unfold relAt; go_simp; exact rel_is LeW.refl)
     intro _
     rw [tyIs_f]
     go_simp
     apply wpRel_cons (t := tyTr u)
     case h1 => (intro w' hl hd2; have hc := HS1.out w' hl; clear hl hd2; unfold relAt; go_simp; refine ⟨LeW.refl _, ?_⟩; refine hc.mono ?_; rintro e w2 ⟨q5, rfl, ht5, hb5⟩; exact ⟨⟨q5, trivial⟩, rfl, hb5, ht5⟩)
     rintro ⟨q6, -⟩
     rw [tyTr_f]
     go_simp
     apply wpRel_cons (t := tyIs _ (.bool true))
     case h1 => (intro w' hl hd2; have hx := fact_in hd2 (j := 10) (by kernel_rfl); simp [upd, tyTr_p] at hx; have hc := HSM.out q6 w' hl hx; clear hl hd2; unfold relAt; go_simp; refine ⟨LeW.refl _, ?_⟩; refine hc.mono ?_; rintro e w2 ⟨rfl, hb5⟩; exact ⟨(), rfl, hb5, trivial⟩)
     intro _
     rw [tyIs_f]
     go_simp
     apply wpRel_cons (t := tyIs _ _)
     case h1 => (intro w' hl hd2; clear hl hd2; unfold relAt; go_simp; exact rel_is LeW.refl)
     intro _
     rw [tyIs_f]
     go_simp
     apply wpRel_cons (t := tyIs _ _)
     case h1 => (intro w' hl hd2; clear hl hd2; unfold relAt; go_simp; exact rel_is LeW.refl)
     intro _
     rw [tyIs_f]
     go_simp
     apply wpRel_cons (t := tyIs _ _)
     case h1 => (intro w' hl hd2; clear hl hd2; unfold relAt; go_simp; exact rel_is LeW.refl)
     intro _
     rw [tyIs_f]
     go_simp
     apply wpRel_cons (t := tyIs _ _)
     case h1 => (intro w' hl hd2; clear hl hd2; unfold relAt; go_simp; exact rel_is LeW.refl)
     intro _
     rw [tyIs_f]
     go_simp
     apply wpRel_cons (t := tyIs _ _)
     case h1 => (intro w' hl hd2; clear hl hd2; unfold relAt; go_simp; exact rel_is LeW.refl)
     intro _
     rw [tyIs_f]
     go_simp
     apply wpRel_cons (t := tyIs _ _)
     case h1 => (intro w' hl hd2; clear hl hd2; unfold relAt; go_simp; exact rel_is LeW.refl)
     intro _
     rw [tyIs_f]
     go_simp
     apply wpRel_cons (t := tyIs _ _)
     case h1 => (intro w' hl hd2; clear hl hd2; unfold relAt; go_simp; exact rel_is LeW.refl)
     intro _
     rw [tyIs_f]
     go_simp
     apply wpRel_cons (t := tyIs _ _)
     case h1 => (intro w' hl hd2; clear hl hd2; unfold relAt; go_simp; exact rel_is LeW.refl)
     intro _
     rw [tyIs_f]
     go_simp
     apply wpRel_cons (t := tyIs _ undef)
     case h1 => (intro w' hl hd2; clear hl hd2; unfold relAt; go_simp; exact ⟨(), rfl, trivial⟩)
     intro _
     rw [tyIs_f]
     go_simp
     apply wpRel_cons (t := tyIs _ undef)
     case h1 => (intro w' hl hd2; clear hl hd2; unfold relAt; go_simp; exact ⟨(), rfl, trivial⟩)
     intro _
     rw [tyIs_f]
     go_simp
     apply wpRel_cons (t := tyIs _ undef)
     case h1 => (intro w' hl hd2; clear hl hd2; unfold relAt; go_simp; exact ⟨(), rfl, trivial⟩)
     intro _
     rw [tyIs_f]
     go_simp
     apply wpRel_cons (t := tyIs _ undef)
     case h1 => (intro w' hl hd2; clear hl hd2; unfold relAt; go_simp; exact ⟨(), rfl, trivial⟩)
     intro _
     rw [tyIs_f]
     go_simp
     apply wpRel_cons (t := tyIs _ undef)
     case h1 => (intro w' hl hd2; clear hl hd2; unfold relAt; go_simp; exact ⟨(), rfl, trivial⟩)
     intro _
     rw [tyIs_f]
     go_simp
     apply wpRel_cons (t := tyIs _ undef)
     case h1 => (intro w' hl hd2; clear hl hd2; unfold relAt; go_simp; exact ⟨(), rfl, trivial⟩)
     intro _
     rw [tyIs_f]
     go_simp
     apply wpRel_cons (t := tyIs _ undef)
     case h1 => (intro w' hl hd2; clear hl hd2; unfold relAt; go_simp; exact ⟨(), rfl, trivial⟩)
     intro _
     rw [tyIs_f]
     go_simp
     apply wpRel_cons (t := tyIs _ undef)
     case h1 => (intro w' hl hd2; clear hl hd2; unfold relAt; go_simp; exact ⟨(), rfl, trivial⟩)
     intro _
     rw [tyIs_f]
     go_simp
     apply wpRel_cons (t := tyIs _ undef)
     case h1 => (intro w' hl hd2; clear hl hd2; unfold relAt; go_simp; exact ⟨(), rfl, trivial⟩)
     intro _
     rw [tyIs_f]
     go_simp
     apply wpRel_cons (t := tyIs _ undef)
     case h1 => (intro w' hl hd2; clear hl hd2; unfold relAt; go_simp; exact ⟨(), rfl, trivial⟩)
     intro _
     rw [tyIs_f]
     go_simp
     apply wpRel_cons (t := tyIs _ undef)
     case h1 => (intro w' hl hd2; clear hl hd2; unfold relAt; go_simp; exact ⟨(), rfl, trivial⟩)
     intro _
     rw [tyIs_f]
     go_simp
     apply wpRel_cons (t := tyIs _ _)
     case h1 => (intro w' hl hd2; clear hl hd2; unfold relAt; go_simp; exact rel_is LeW.refl)
     intro _
     rw [tyIs_f]
     go_simp
     apply wpRel_nil (Ts := [])
     intro wq hl hF
     have HBZ := Lib.hid (HBX8.out.trans ((((Below.refl _ w9).drew).trans hl).mono HBX8.out.size))
     clear hl hF
     go_wp2_with fail
     go_roundw
     case rel => exact ⟨ii + 1, by omega, by go_num, HBZ⟩
     case measure => simp [intOf]; omega
    ·have hxi : ¬ (ii : Int) < (x.length : Int) := by omega
     have hxi2 : (x.length : Int) ≤ (ii : Int) := by omega
     have hzl := HLR.out.1
     have hyi : ii - x.length < y.length := by omega
     obtain ⟨m, hm⟩ : ∃ m, m = ii - x.length := ⟨_, rfl⟩
     rw [← hm] at hyi
     have ewm : IntKind.i64.wrap ((ii : Int) - (x.length : Int)) = (m : Int) := by rw [IntWalk.i64_in _ (by omega)]; omega
     have hmi : (m : Int) < (y.length : Int) := by omega
     obtain ⟨bb, ob, qb, rfl, htb, hnb⟩ := node_of (HT11e.out.later HBX8.out) m hyi
     have HX1 : Hid (NodeAt w9.drew bb (ob + m * 4) qb) := hnb.later ((Below.refl _ _).drew)
     obtain ⟨u, hu⟩ : ∃ u, u = strip y[m] := ⟨_, rfl⟩
     have HS1 := Lib.hid (strip_of (HFY.out m hyi) (htb.later ((Below.refl _ _).drew)) hu.symm)
     have HSM := Lib.hid (same_of (u := u) (by
      have h3 := HLR.out.2.2 ii (by omega) hlt (by omega)
      rw [hu, show y[m] = y[ii - x.length] from by subst hm; rfl, ← h3]
      exact HT7b.out.later ((Below.refl w9.heap.size w9).drew)))
     clear htb hnb hu hzl hm
     apply wp_region_relT LeW.refl LeW.trans 32
     case hm => kernel_rfl
     case hB => kernel_rfl
     simp only [List.take_succ_cons, List.take_zero, List.drop_succ_cons, List.drop_zero]
     apply wpRel_cons (t := tyIs _ _)
     case h1 => (intro w' hl hd2; clear hl hd2; unfold relAt; go_simp; exact rel_is LeW.refl)
     intro _
     rw [tyIs_f]
     go_simp
     apply wpRel_cons (t := tyIs _ _)
     case h1 => (intro w' hl hd2; clear hl hd2; unfold relAt; go_simp; exact rel_is LeW.refl)
     intro _
     rw [tyIs_f]
     go_simp
     apply wpRel_cons (t := tyIs _ _)
     case h1 => (intro w' hl hd2; clear hl hd2; unfold relAt; go_simp; exact rel_is LeW.refl)
     intro _
     rw [tyIs_f]
     go_simp
     apply wpRel_cons (t := tyIs _ _)
     case h1 => (intro w' hl hd2; clear hl hd2; unfold relAt; go_simp; exact rel_is LeW.refl)
     intro _
     rw [tyIs_f]
     go_simp
     apply wpRel_cons (t := tyIs _ _)
     case h1 => (intro w' hl hd2; clear hl hd2; unfold relAt; go_simp; exact rel_is LeW.refl)
     intro _
     rw [tyIs_f]
     go_simp
     apply wpRel_cons (t := tyIs _ undef)
     case h1 => (intro w' hl hd2; clear hl hd2; unfold relAt; go_simp; exact ⟨(), rfl, trivial⟩)
     intro _
     rw [tyIs_f]
     go_simp
     apply wpRel_cons (t := tyIs _ undef)
     case h1 => (intro w' hl hd2; clear hl hd2; unfold relAt; go_simp; exact ⟨(), rfl, trivial⟩)
     intro _
     rw [tyIs_f]
     go_simp
     apply wpRel_cons (t := tyIs _ undef)
     case h1 => (intro w' hl hd2; clear hl hd2; unfold relAt; go_simp; exact ⟨(), rfl, trivial⟩)
     intro _
     rw [tyIs_f]
     go_simp
     apply wpRel_cons (t := tyIs _ undef)
     case h1 => (intro w' hl hd2; clear hl hd2; unfold relAt; go_simp; exact ⟨(), rfl, trivial⟩)
     intro _
     rw [tyIs_f]
     go_simp
     apply wpRel_cons (t := tyIs _ undef)
     case h1 => (intro w' hl hd2; clear hl hd2; unfold relAt; go_simp; exact ⟨(), rfl, trivial⟩)
     intro _
     rw [tyIs_f]
     go_simp
     apply wpRel_cons (t := tyIs _ undef)
     case h1 => (intro w' hl hd2; clear hl hd2; unfold relAt; go_simp; exact ⟨(), rfl, trivial⟩)
     intro _
     rw [tyIs_f]
     go_simp
     apply wpRel_cons (t := tyIs _ undef)
     case h1 => (intro w' hl hd2; clear hl hd2; unfold relAt; go_simp; exact ⟨(), rfl, trivial⟩)
     intro _
     rw [tyIs_f]
     go_simp
     apply wpRel_cons (t := tyIs _ undef)
     case h1 => (intro w' hl hd2; clear hl hd2; unfold relAt; go_simp; exact ⟨(), rfl, trivial⟩)
     intro _
     rw [tyIs_f]
     go_simp
     apply wpRel_cons (t := tyIs _ _)
     case h1 => (intro w' hl hd2; clear hl hd2; unfold relAt; go_simp; exact rel_is LeW.refl)
     intro _
     rw [tyIs_f]
     go_simp
     apply wpRel_cons (t := tyIs _ _)
     case h1 => (intro w' hl hd2; clear hl hd2; unfold relAt; go_simp; exact rel_is LeW.refl)
     intro _
     rw [tyIs_f]
     go_simp
     apply wpRel_cons (t := tyIs _ _)
     case h1 => (intro w' hl hd2; clear hl hd2; unfold relAt; go_simp; exact rel_is LeW.refl)
     intro _
     rw [tyIs_f]
     go_simp
     apply wpRel_cons (t := tyIs _ _)
     case h1 => (intro w' hl hd2; clear hl hd2; unfold relAt; go_simp; exact rel_is LeW.refl)
     intro _
     rw [tyIs_f]
     go_simp
     apply wpRel_cons (t := tyIs _ _)
     case h1 => (intro w' hl hd2; clear hl hd2; unfold relAt; go_simp; exact rel_is LeW.refl)
     intro _
     rw [tyIs_f]
     go_simp
     apply wpRel_cons (t := tyIs _ _)
     case h1 => (intro w' hl hd2; clear hl hd2; unfold relAt; go_simp; exact rel_is LeW.refl)
     intro _
     rw [tyIs_f]
     go_simp
     apply wpRel_cons (t := tyIs _ _)
     case h1 => (intro w' hl hd2; clear hl hd2; unfold relAt; go_simp; exact rel_is LeW.refl)
     intro _
     rw [tyIs_f]
     go_simp
     apply wpRel_cons (t := tyIs _ _)
     case h1 => (intro w' hl hd2; obtain ⟨k0, k1, k2, k3⟩ := HB8.out.later hl; clear hl hd2; unfold relAt; go_simp; exact rel_is LeW.refl)
     intro _
     rw [tyIs_f]
     go_simp
     apply wpRel_cons (t := tyIs _ _)
     case h1 => (intro w' hl hd2; clear hl hd2; unfold relAt; go_simp; exact rel_is LeW.refl)
     intro _
     rw [tyIs_f]
     go_simp
     apply wpRel_cons (t := tyIs _ _)
     case h1 => (intro w' hl hd2; clear hl hd2; unfold relAt; go_simp; exact rel_is LeW.refl)
     intro _
     rw [tyIs_f]
     go_simp
     apply wpRel_cons (t := tyIs _ _)
     case h1 => (intro w' hl hd2; clear hl hd2; unfold relAt; go_simp; exact rel_is LeW.refl)
     intro _
     rw [tyIs_f]
     go_simp
     apply wpRel_cons (t := tyIs _ _)
     case h1 => (intro w' hl hd2; clear hl hd2; unfold relAt; go_simp; exact rel_is LeW.refl)
     intro _
     rw [tyIs_f]
     go_simp
     apply wpRel_cons (t := tyIs _ _)
     case h1 => (intro w' hl hd2; clear hl hd2; unfold relAt; go_simp; exact rel_is LeW.refl)
     intro _
     rw [tyIs_f]
     go_simp
     apply wpRel_cons (t := tyIs _ _)
     case h1 => (intro w' hl hd2; clear hl hd2; unfold relAt; go_simp; exact rel_is LeW.refl)
     intro _
     rw [tyIs_f]
     go_simp
     apply wpRel_cons (t := tyIs _ _)
     case h1 => (intro w' hl hd2; obtain ⟨k0, k1, k2, k3⟩ := HX1.out.later hl; clear hl hd2; unfold relAt; go_simp; exact rel_is LeW.refl)
     intro _
     rw [tyIs_f]
     go_simp
     apply wpRel_cons (t := tyTr u)
     case h1 => (intro w' hl hd2; have hc := HS1.out w' hl; clear hl hd2; unfold relAt; go_simp; refine ⟨LeW.refl _, ?_⟩; refine hc.mono ?_; rintro e w2 ⟨q5, rfl, ht5, hb5⟩; exact ⟨⟨q5, trivial⟩, rfl, hb5, ht5⟩)
     rintro ⟨q6, -⟩
     rw [tyTr_f]
     go_simp
     apply wpRel_cons (t := tyIs _ (.bool true))
     case h1 => (intro w' hl hd2; have hx := fact_in hd2 (j := 28) (by kernel_rfl); simp [upd, tyTr_p] at hx; have hc := HSM.out q6 w' hl hx; clear hl hd2; unfold relAt; go_simp; refine ⟨LeW.refl _, ?_⟩; refine hc.mono ?_; rintro e w2 ⟨rfl, hb5⟩; exact ⟨(), rfl, hb5, trivial⟩)
     intro _
     rw [tyIs_f]
     go_simp
     apply wpRel_cons (t := tyIs _ _)
     case h1 => (intro w' hl hd2; clear hl hd2; unfold relAt; go_simp; exact rel_is LeW.refl)
     intro _
     rw [tyIs_f]
     go_simp
     apply wpRel_cons (t := tyIs _ _)
     case h1 => (intro w' hl hd2; clear hl hd2; unfold relAt; go_simp; exact rel_is LeW.refl)
     intro _
     rw [tyIs_f]
     go_simp
     apply wpRel_nil (Ts := [])
     intro wq hl hF
     have HBZ := Lib.hid (HBX8.out.trans ((((Below.refl _ w9).drew).trans hl).mono HBX8.out.size))
     clear hl hF
     go_wp2_with fail
     go_roundw
     case rel => exact ⟨ii + 1, by omega, by go_num, HBZ⟩
     case measure => simp [intOf]; omega
   ·obtain rfl : ii = z.length := by omega
    have HBZ := Lib.hid (HB7.out.trans (hbx.out.mono HB7.out.size))
    go_wp2_with fail
    go_ret
    exact ⟨rfl, HBZ.out⟩
 ·have hgt : (19900 : Int) < (a.size : Int) + (b.size : Int) := by omega
  clear hTa hTb
  go_wp2_with fail
  refine (awake03_any _).mono ?_
  rintro e w2 ⟨rfl, hb⟩
  have HB := Lib.hid (HB0.out.trans (hb.mono HB0.out.size))
  clear hb
  go_wp2_with fail
  go_ret
  exact ⟨rfl, HB.out⟩
theorem own : ownKnob Tryz.prog.godebug = none := by kernel_rfl
theorem laidOut' : laidOutB Tryz.prog = true := by kernel_rfl
set_option maxHeartbeats 4000000 in
set_option maxRecDepth 100000 in
theorem lifted (os : Os) (started : os.Started) (H : Type) (enc : TypeId × Value → H) :
  ReturnsInHanded {} Tryz.checked os 3 .any (Rows.parserJoinsSpec.pre6 enc Tryz.prog Tryz.f3 Rows.parserJoinsRow.domain false) (Rows.parserJoinsSpec.post enc Tryz.prog Tryz.f3 false true false false) := by
 refine returnsInHanded_of_change (C := Tryz.checked) own started (by kernel_rfl) Tryz.func3
  (ChangeSpec.witness6 (enc := enc) (C := Tryz.checked) false ⟨#[], #[.slice none 0 0, .slice none 0 0, .int .i64 0], []⟩ 8 (by kernel_rfl) (by kernel_rfl) (by kernel_rfl) (by kernel_rfl)) ?_
 intro W base args ds gs before hval0 hW hcnd _
 have hval : ∀ (j : Nat) t v, Tryz.f3.params[j]? = some t → args[j]? = some v → Value.okWide Tryz.prog W .any base t v := hval0
 have hW' := hW
 obtain ⟨p, q, hA0, hV, rfl, hfz, hnd⟩ := hW
 have hA : DataW.TrodAll enc Tryz.prog W 0 (fun _ => true) true Tryz.f3.params.toList args.toList ds p := hA0
 rw [Tryz.params3] at hA hval
 obtain ⟨v0, vs0, d0, ds0, p0, q0, hargs, rfl, rfl, h0, r0⟩ := trodAll_cons hA
 obtain ⟨v1, vs1, d1, ds1, p1, q1, rfl, rfl, rfl, h1, r1⟩ := trodAll_cons r0
 obtain ⟨v2, vs2, d2, ds2, p2, q2, rfl, rfl, rfl, h2, r2⟩ := trodAll_cons r1
 obtain ⟨rfl, rfl, rfl⟩ := trodAll_nil r2
 obtain rfl : args = #[v0, v1, v2] := by cases args; simp_all
 obtain ⟨rfl, rfl⟩ := trodVars_none hV
 have k0 := h0
 have lt0 : ∀ x ∈ p0, x.block < W.heap.size := by obtain ⟨m, hm⟩ := k0; exact DataW.trod_lt m _ _ _ hm
 have k1 := h1
 have lt1 : ∀ x ∈ p1, x.block < W.heap.size := by obtain ⟨m, hm⟩ := k1; exact DataW.trod_lt m _ _ _ hm
 have k2 := h2
 have lt2 : ∀ x ∈ p2, x.block < W.heap.size := by obtain ⟨m, hm⟩ := k2; exact DataW.trod_lt m _ _ _ hm
 obtain ⟨pa, na, ca, rfl, hna, hra, hia⟩ := open_rolls (hval 0 22 v0 rfl rfl) h0
 obtain ⟨pb, nb, cb, rfl, hnb, hrb, hib⟩ := open_rolls (hval 1 22 v1 rfl rfl) h1
 obtain ⟨fr, rfl, _, _, w0⟩ := open_int Tryz.underlying3 (hval 2 3 v2 rfl rfl) h2
 clear hA0 hval0
 have wn : -9223372036854775808 ≤ fr ∧ fr ≤ 9223372036854775807 := by simpa [Lit.wf, IntKind.min, IntKind.max, IntKind.signed, IntKind.bits] using w0
 refine (walk pa na ca pb nb cb fr W wn.1 wn.2 hna hra hia hnb hrb hib).mono fun e W' ⟨he, bel⟩ => ?_
 subst he
 exact ⟨_, rfl, _, _, _, [], _, [], hW', trodAll_mk1 (shut_bool Tryz.underlying4 _), (trodAll_cons_mk (Below.trod laidOut' (by kernel_rfl) (of_decide_eq_true (by kernel_rfl)) k0 bel lt0) (trodAll_cons_mk (Below.trod laidOut' (by kernel_rfl) (of_decide_eq_true (by kernel_rfl)) k1 bel lt1) (trodAll_cons_mk (Below.trod laidOut' (by kernel_rfl) (of_decide_eq_true (by kernel_rfl)) k2 bel lt2) trodAll_mk0))), rfl, bel.frame _, fun h => by cases h⟩
theorem proved : Rows.ParserJoinsSaid :=
 OpenClaim.holds_of_wide 3 Tryz.f3 rfl rfl rfl rfl rfl rfl rfl ⟨rfl, rfl, rfl, rfl, rfl⟩ rfl rfl rfl rfl rfl (by kernel_rfl) Tryz.func3 (by kernel_rfl)
  (of_decide_eq_true (by kernel_rfl)) (by unfold Func.isWrapper; first | (rw [if_pos (by decide +kernel)]; kernel_rfl) | (rw [if_neg (by decide +kernel)]; exact ⟨rfl, rfl⟩))
  (fun os started H enc _ => lifted os started H enc)
end Go.Proofs.YtheigpiffdabnaaGreat.parserJoins
