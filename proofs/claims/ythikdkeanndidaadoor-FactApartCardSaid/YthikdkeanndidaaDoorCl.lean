/-
  CONTRACTS: fact.op, fact.Code: the strings of operations and codes.
-/
import Derived.Test.YthikdkeanndidaaDoorCk
import Derived.Test.YthikdkeanndidaaDoorLw
namespace Go.Proofs.YthikdkeanndidaaDoor
open Go Go.RowKit
set_option linter.unusedVariables false
set_option linter.unusedSimpArgs false
set_option maxRecDepth 1000000

/-- a slice of some elements that has been laid -/
def tySlN (cs : List Value) (n : Nat) : Ty LeW := ⟨{b : Nat // True}, ⟨⟨0, trivial⟩⟩, fun b => .slice (some ⟨b.1, 0, none⟩) n n, fun b w => CellsAt w b.1 0 cs, fun x w w' hl h => h.below hl⟩
theorem tySlN_f (cs : List Value) (n b : Nat) (h : True) : (tySlN cs n).f ⟨b, h⟩ = .slice (some ⟨b, 0, none⟩) n n := rfl
theorem tySlN_p (cs : List Value) (n b : Nat) (h : True) (w : World) : (tySlN cs n).φ ⟨b, h⟩ w = CellsAt w b 0 cs := rfl
theorem sl_cells {w : World} {b n : Nat} {L : List ByteArray} (hn : n = L.length) (h : CellsAt w b 0 (L.map Value.string)) (hm : n ≤ 9223372036854775807) : SlIs encN w (.slice (some ⟨b, 0, none⟩) n n) L := by
  subst hn
  exact ⟨_, _, rfl, Nat.le_refl _, by unfold maxLen; omega, fun _ => ⟨_, 0, rfl, by rw [encN_all]; exact h⟩⟩
theorem it_size (n : Int) : (itS n).size ≤ 20 ∨ ¬ InI n := by
  by_cases h : InI n
  · rw [itS_size]; exact .inl (Fa.itoa_len n h.1 h.2).1
  · exact .inr h
set_option maxHeartbeats 8000000 in
/-- fact.op -/
theorem op_any (A : Nat → Prop) (r : Rop) (w : World) (h : SlA encI A w r.sl r.1.list) (hok : r.1.Ok) (hz : (Fa.opS r.1).size ≤ 1000000000) (hw : LaidW w) :
    Calls Tryd.prog 27 #[.agg #[.int .i64 r.1.kind, .int .i64 r.1.a, .int .i64 r.1.b, .int .i64 r.1.c, .slice r.2.1 r.1.list.length r.2.2, .string r.1.sym]] w fun e w' => e = .returned (.string (Fa.opS r.1)) ∧ Below w.heap.size w w' := by
  obtain ⟨wx, hwx⟩ : ∃ x, w.alloc (.cells #[.int .i64 r.1.kind, .int .i64 r.1.a, .int .i64 r.1.b, .int .i64 r.1.c, .slice r.2.1 r.1.list.length r.2.2, .string r.1.sym] 58) = x := ⟨_, rfl⟩
  have hb0 := below_box w (.cells #[.int .i64 r.1.kind, .int .i64 r.1.a, .int .i64 r.1.b, .int .i64 r.1.c, .slice r.2.1 r.1.list.length r.2.2, .string r.1.sym] 58)
  have hc0 : CellsAt (w.alloc (.cells #[.int .i64 r.1.kind, .int .i64 r.1.a, .int .i64 r.1.b, .int .i64 r.1.c, .slice r.2.1 r.1.list.length r.2.2, .string r.1.sym] 58)) w.heap.size 0 [.int .i64 r.1.kind, .int .i64 r.1.a, .int .i64 r.1.b, .int .i64 r.1.c, .slice r.2.1 r.1.list.length r.2.2, .string r.1.sym] := cellsAt_alloc w [.int .i64 r.1.kind, .int .i64 r.1.a, .int .i64 r.1.b, .int .i64 r.1.c, .slice r.2.1 r.1.list.length r.2.2, .string r.1.sym] _
  rw [hwx] at hb0 hc0
  have HX := Lib.hid hc0.drew1
  have HB0 := Lib.hid hb0
  have hdr : Below wx.heap.size wx wx.drew := (Below.refl _ wx).drew
  have HW := Lib.hid ((hw.below hb0).below hdr)
  have HSL := Lib.hid ((h.keep (Kp.below hb0)).keep (Kp.below hdr))
  have hnp : (Fa.packL (r.1.list.map itS)).length ≤ 1000000000 := by
    have h1 := Fa.mem_size (L := [itS r.1.kind, itS r.1.a, itS r.1.b, itS r.1.c, Fa.numsS r.1.list, r.1.sym]) (x := Fa.numsS r.1.list) (by simp)
    have h2 : (Fa.opS r.1).size = _ := Fa.packS_size _
    have h3 : (Fa.numsS r.1.list).size = _ := Fa.packS_size _
    omega
  have hln : r.1.list.length ≤ 1000000000 := by
    have := Fa.packL_count (r.1.list.map itS)
    rw [List.length_map] at this
    omega
  have HI1 := Lib.hid (fun w hw => itoa_any r.1.kind hok.kind.1 hok.kind.2 w hw)
  obtain ⟨s1, hs1⟩ : ∃ s, s = itS r.1.kind := ⟨_, rfl⟩
  rw [← hs1] at HI1
  have HI2 := Lib.hid (fun w hw => itoa_any r.1.a hok.a.1 hok.a.2 w hw)
  obtain ⟨s2, hs2⟩ : ∃ s, s = itS r.1.a := ⟨_, rfl⟩
  rw [← hs2] at HI2
  have HI3 := Lib.hid (fun w hw => itoa_any r.1.b hok.b.1 hok.b.2 w hw)
  obtain ⟨s3, hs3⟩ : ∃ s, s = itS r.1.b := ⟨_, rfl⟩
  rw [← hs3] at HI3
  have HI4 := Lib.hid (fun w hw => itoa_any r.1.c hok.c.1 hok.c.2 w hw)
  obtain ⟨s4, hs4⟩ : ∃ s, s = itS r.1.c := ⟨_, rfl⟩
  rw [← hs4] at HI4
  have HNU := Lib.hid (fun (w' : World) (hl : LeW wx.drew w') => list_int A r.1.list r.2.1 r.1.list.length r.2.2 w' (HSL.out.keep (Kp.below hl)) 25 #[] itS (fun _ _ => rfl) (fun x hx w1 hb => itoa_any x (hok.list x hx).1 (hok.list x hx).2 w1 ((HW.out.below hl).below hb)) (by omega) (by omega) (HW.out.below hl))
  obtain ⟨s5, hs5⟩ : ∃ s, s = packS (r.1.list.map itS) := ⟨_, rfl⟩
  rw [← hs5] at HNU
  obtain ⟨ps, hps⟩ : ∃ s, s = Fa.opS r.1 := ⟨_, rfl⟩
  have hpe : packS [s1, s2, s3, s4, s5, r.1.sym] = ps := by rw [hps, hs1, hs2, hs3, hs4, hs5]; rfl
  have HPK := Lib.hid (fun (w' : World) (b : Nat) (hsl : SlIs encN w' (.slice (some ⟨b, 0, none⟩) 6 6) [s1, s2, s3, s4, s5, r.1.sym]) (hww : LaidW w') => pack_any [s1, s2, s3, s4, s5, r.1.sym] (some ⟨b, 0, none⟩) 6 6 w' hsl (by rw [← Fa.packS_size, hpe, hps]; exact hz) hww)
  rw [hpe] at HPK
  have hpss : ps = Fa.opS r.1 := hps
  rw [← hpss]
  have HPS := Lib.hid hps
  clear hdr hb0 hc0 h hok hz hw hnp hln hs1 hs2 hs3 hs4 hs5 hps hpss hpe HSL
  go_enter Tryd.func27, Tryd.ntmps27
  go_wp2_with fail
  apply wp_region_relT LeW.refl LeW.trans 19
  case hm => kernel_rfl
  case hB => kernel_rfl
  simp only [List.take_succ_cons, List.take_zero, List.drop_succ_cons, List.drop_zero]
  apply wpRel_cons (t := tyIs _ _)
  case h1 => (intro w' hl hd2; clear hl hd2; unfold relAt; go_simp; exact rel_is LeW.refl)
  intro _
  rw [tyIs_f]
  go_simp
  apply wpRel_cons (t := tyIs _ _)
  case h1 => (intro w' hl hd2; have x0 : w'.cell? ⟨w.heap.size, 0, none⟩ = some (.int .i64 r.1.kind) := HX.out.below hl 0 _ rfl; clear hl hd2; unfold relAt; go_simp; exact rel_is LeW.refl)
  intro _
  rw [tyIs_f]
  go_simp
  apply wpRel_cons (t := tyIs _ (.string s1))
  case h1 => (intro w' hl hd2; have hww := HW.out.below hl; clear hl hd2; unfold relAt; go_simp; refine ⟨LeW.refl _, ?_⟩; refine (HI1.out _ hww).mono ?_; rintro e w'' ⟨rfl, hb''⟩; exact ⟨(), rfl, hb'', trivial⟩)
  intro _
  rw [tyIs_f]
  go_simp
  apply wpRel_cons (t := tyIs _ _)
  case h1 => (intro w' hl hd2; clear hl hd2; unfold relAt; go_simp; exact rel_is LeW.refl)
  intro _
  rw [tyIs_f]
  go_simp
  apply wpRel_cons (t := tyIs _ _)
  case h1 => (intro w' hl hd2; have x0 : w'.cell? ⟨w.heap.size, 1, none⟩ = some (.int .i64 r.1.a) := HX.out.below hl 1 _ rfl; clear hl hd2; unfold relAt; go_simp; exact rel_is LeW.refl)
  intro _
  rw [tyIs_f]
  go_simp
  apply wpRel_cons (t := tyIs _ (.string s2))
  case h1 => (intro w' hl hd2; have hww := HW.out.below hl; clear hl hd2; unfold relAt; go_simp; refine ⟨LeW.refl _, ?_⟩; refine (HI2.out _ hww).mono ?_; rintro e w'' ⟨rfl, hb''⟩; exact ⟨(), rfl, hb'', trivial⟩)
  intro _
  rw [tyIs_f]
  go_simp
  apply wpRel_cons (t := tyIs _ _)
  case h1 => (intro w' hl hd2; clear hl hd2; unfold relAt; go_simp; exact rel_is LeW.refl)
  intro _
  rw [tyIs_f]
  go_simp
  apply wpRel_cons (t := tyIs _ _)
  case h1 => (intro w' hl hd2; have x0 : w'.cell? ⟨w.heap.size, 2, none⟩ = some (.int .i64 r.1.b) := HX.out.below hl 2 _ rfl; clear hl hd2; unfold relAt; go_simp; exact rel_is LeW.refl)
  intro _
  rw [tyIs_f]
  go_simp
  apply wpRel_cons (t := tyIs _ (.string s3))
  case h1 => (intro w' hl hd2; have hww := HW.out.below hl; clear hl hd2; unfold relAt; go_simp; refine ⟨LeW.refl _, ?_⟩; refine (HI3.out _ hww).mono ?_; rintro e w'' ⟨rfl, hb''⟩; exact ⟨(), rfl, hb'', trivial⟩)
  intro _
  rw [tyIs_f]
  go_simp
  apply wpRel_cons (t := tyIs _ _)
  case h1 => (intro w' hl hd2; clear hl hd2; unfold relAt; go_simp; exact rel_is LeW.refl)
  intro _
  rw [tyIs_f]
  go_simp
  apply wpRel_cons (t := tyIs _ _)
  case h1 => (intro w' hl hd2; have x0 : w'.cell? ⟨w.heap.size, 3, none⟩ = some (.int .i64 r.1.c) := HX.out.below hl 3 _ rfl; clear hl hd2; unfold relAt; go_simp; exact rel_is LeW.refl)
  intro _
  rw [tyIs_f]
  go_simp
  apply wpRel_cons (t := tyIs _ (.string s4))
  case h1 => (intro w' hl hd2; have hww := HW.out.below hl; clear hl hd2; unfold relAt; go_simp; refine ⟨LeW.refl _, ?_⟩; refine (HI4.out _ hww).mono ?_; rintro e w'' ⟨rfl, hb''⟩; exact ⟨(), rfl, hb'', trivial⟩)
  intro _
  rw [tyIs_f]
  go_simp
  apply wpRel_cons (t := tyIs _ _)
  case h1 => (intro w' hl hd2; clear hl hd2; unfold relAt; go_simp; exact rel_is LeW.refl)
  intro _
  rw [tyIs_f]
  go_simp
  apply wpRel_cons (t := tyIs _ _)
  case h1 => (intro w' hl hd2; have x0 : w'.cell? ⟨w.heap.size, 4, none⟩ = some (.slice r.2.1 r.1.list.length r.2.2) := HX.out.below hl 4 _ rfl; clear hl hd2; unfold relAt; go_simp; exact rel_is LeW.refl)
  intro _
  rw [tyIs_f]
  go_simp
  apply wpRel_cons (t := tyIs _ (.string s5))
  case h1 => (intro w' hl hd2; have hnu := HNU.out _ hl; clear hl hd2; unfold relAt; go_simp; refine ⟨LeW.refl _, ?_⟩; refine (hnu).mono ?_; rintro e w'' ⟨rfl, hb''⟩; exact ⟨(), rfl, hb'', trivial⟩)
  intro _
  rw [tyIs_f]
  go_simp
  apply wpRel_cons (t := tyIs _ _)
  case h1 => (intro w' hl hd2; clear hl hd2; unfold relAt; go_simp; exact rel_is LeW.refl)
  intro _
  rw [tyIs_f]
  go_simp
  apply wpRel_cons (t := tyIs _ _)
  case h1 => (intro w' hl hd2; have x0 : w'.cell? ⟨w.heap.size, 5, none⟩ = some (.string r.1.sym) := HX.out.below hl 5 _ rfl; clear hl hd2; unfold relAt; go_simp; exact rel_is LeW.refl)
  intro _
  rw [tyIs_f]
  go_simp
  apply wpRel_cons (t := tySlN [.string s1, .string s2, .string s3, .string s4, .string s5, .string r.1.sym] 6)
  case h1 => (intro w' hl hd2; clear hl hd2; unfold relAt; go_simp; refine ⟨below_box _ _, ⟨_, trivial⟩, rfl, ?_⟩; rw [tySlN_p]; exact cellsAt_alloc _ [.string s1, .string s2, .string s3, .string s4, .string s5, .string r.1.sym] _)
  rintro ⟨sb, -⟩
  rw [tySlN_f]
  go_simp
  apply wpRel_cons (t := tyIs _ (.string ps))
  case h1 => (intro w' hl hd2; have hx := fact_lw hd2 (j := 17) (by kernel_rfl); simp [upd] at hx; have hx2 : CellsAt w' sb 0 [.string s1, .string s2, .string s3, .string s4, .string s5, .string r.1.sym] := hx; have hsl := sl_cells (L := [s1, s2, s3, s4, s5, r.1.sym]) (n := 6) rfl hx2 (by decide); have hww := HW.out.below hl; clear hl hd2 hx; unfold relAt; go_simp; refine ⟨LeW.refl _, ?_⟩; refine (HPK.out _ _ hsl hww).mono ?_; rintro e w'' ⟨rfl, hb''⟩; exact ⟨(), rfl, hb'', trivial⟩)
  intro _
  rw [tyIs_f]
  go_simp
  apply wpRel_nil (Ts := [])
  intro w4 hl hF
  have hl1 : Below wx.heap.size wx w4 := bnext ((Below.refl _ wx).drew) hl
  have HB4 := Lib.hid (bnext HB0.out hl1)
  clear hl hl1 hF
  go_simp
  go_wp2_with fail
  go_ret
  exact ⟨rfl, HB4.out⟩
theorem op_small {l : List Opp} {B : Nat} (hz : (opsS l).size ≤ B) {o : Opp} (ho : o ∈ l) : (Fa.opS o).size ≤ B := by
  have h1 := Fa.mem_size (L := l.map Fa.opS) (x := Fa.opS o) (List.mem_map.2 ⟨o, ho, rfl⟩)
  have h2 : (opsS l).size = _ := Fa.packS_size _
  omega
set_option maxHeartbeats 8000000 in
/-- fact.Code -/
theorem code_any (A : Nat → Prop) (x : Cdd) (p : Option Addr) (c : Nat) (w : World) (h : OpsA A w (.slice p x.ops.length c) x.ops) (hok : x.Ok) (hz : (Fa.cdS x).size ≤ 1000000000) (hw : LaidW w) :
    Calls Tryd.prog 11 #[.agg #[.int .i64 x.params, .int .i64 x.regs, .slice p x.ops.length c]] w fun e w' => e = .returned (.string (Fa.cdS x)) ∧ Below w.heap.size w w' := by
  obtain ⟨wx, hwx⟩ : ∃ y, w.alloc (.cells #[.int .i64 x.params, .int .i64 x.regs, .slice p x.ops.length c] 24) = y := ⟨_, rfl⟩
  have hb0 := below_box w (.cells #[.int .i64 x.params, .int .i64 x.regs, .slice p x.ops.length c] 24)
  have hc0 : CellsAt (w.alloc (.cells #[.int .i64 x.params, .int .i64 x.regs, .slice p x.ops.length c] 24)) w.heap.size 0 [.int .i64 x.params, .int .i64 x.regs, .slice p x.ops.length c] := cellsAt_alloc w [.int .i64 x.params, .int .i64 x.regs, .slice p x.ops.length c] _
  rw [hwx] at hb0 hc0
  have HX := Lib.hid hc0.drew1
  have HB0 := Lib.hid hb0
  have hdr : Below wx.heap.size wx wx.drew := (Below.refl _ wx).drew
  have HW := Lib.hid ((hw.below hb0).below hdr)
  have hzo : (opsS x.ops).size ≤ 1000000000 := by
    have h1 := Fa.mem_size (L := [itS x.params, itS x.regs, opsS x.ops]) (x := opsS x.ops) (by simp)
    have h2 : (Fa.cdS x).size = (Fa.packL [itS x.params, itS x.regs, opsS x.ops]).length := Fa.packS_size _
    omega
  obtain ⟨Rr, hR, hsl, hls⟩ := (h.keep (Kp.below hb0)).keep (Kp.below hdr)
  have hRl : Rr.length = x.ops.length := by rw [← hR, List.length_map]
  rw [← hRl] at hsl
  have HSL := Lib.hid hsl
  have HLS := Lib.hid hls
  have hmm : Rr.map (fun r => Fa.opS r.1) = x.ops.map Fa.opS := by rw [← hR, List.map_map]; rfl
  have hoz : (Fa.packL (Rr.map (fun r => Fa.opS r.1))).length ≤ 1000000000 := by rw [hmm]; have h2 : (opsS x.ops).size = _ := Fa.packS_size _; omega
  have hln : Rr.length ≤ 1000000000 := by
    have := Fa.packL_count (Rr.map (fun r => Fa.opS r.1))
    rw [List.length_map] at this
    omega
  have hrok : ∀ r ∈ Rr, r.1.Ok ∧ (Fa.opS r.1).size ≤ 1000000000 := fun r hr => by
    have hm : r.1 ∈ x.ops := by rw [← hR]; exact List.mem_map.2 ⟨r, hr, rfl⟩
    exact ⟨hok.ops _ hm, op_small hzo hm⟩
  have HRK := Lib.hid hrok
  have HNU := Lib.hid (fun (w' : World) (hl : LeW wx.drew w') => list_op A Rr p Rr.length c w' (HSL.out.keep (Kp.below hl)) 27 #[] (fun r => Fa.opS r.1) (fun _ _ => rfl) (fun r hr w1 hb => op_any A r w1 (((HLS.out r hr).keep (Kp.below hl)).keep (Kp.below hb)) (HRK.out r hr).1 (HRK.out r hr).2 ((HW.out.below hl).below hb)) hoz hln (HW.out.below hl))
  rw [hRl, hmm] at HNU
  have HI1 := Lib.hid (fun w hw => itoa_any x.params hok.params.1 hok.params.2 w hw)
  obtain ⟨s1, hs1⟩ : ∃ s, s = itS x.params := ⟨_, rfl⟩
  rw [← hs1] at HI1
  have HI2 := Lib.hid (fun w hw => itoa_any x.regs hok.regs.1 hok.regs.2 w hw)
  obtain ⟨s2, hs2⟩ : ∃ s, s = itS x.regs := ⟨_, rfl⟩
  rw [← hs2] at HI2
  obtain ⟨s3, hs3⟩ : ∃ s, s = packS (x.ops.map Fa.opS) := ⟨_, rfl⟩
  rw [← hs3] at HNU
  obtain ⟨ps, hps⟩ : ∃ s, s = Fa.cdS x := ⟨_, rfl⟩
  have hpe : packS [s1, s2, s3] = ps := by rw [hps, hs1, hs2, hs3]; rfl
  have HPK := Lib.hid (fun (w' : World) (b : Nat) (hsl : SlIs encN w' (.slice (some ⟨b, 0, none⟩) 3 3) [s1, s2, s3]) (hww : LaidW w') => pack_any [s1, s2, s3] (some ⟨b, 0, none⟩) 3 3 w' hsl (by rw [← Fa.packS_size, hpe, hps]; exact hz) hww)
  rw [hpe] at HPK
  rw [← hps]
  clear hdr hb0 hc0 h hok hz hw hs1 hs2 hs3 hps hpe hzo hR hsl hls hRl hmm hoz hln hrok HSL HLS HRK
  go_enter Tryd.func11, Tryd.ntmps11
  go_wp2_with fail
  apply wp_region_relT LeW.refl LeW.trans 11
  case hm => kernel_rfl
  case hB => kernel_rfl
  simp only [List.take_succ_cons, List.take_zero, List.drop_succ_cons, List.drop_zero]
  apply wpRel_cons (t := tyIs _ _)
  case h1 => (intro w' hl hd2; clear hl hd2; unfold relAt; go_simp; exact rel_is LeW.refl)
  intro _
  rw [tyIs_f]
  go_simp
  apply wpRel_cons (t := tyIs _ _)
  case h1 => (intro w' hl hd2; have x0 : w'.cell? ⟨w.heap.size, 0, none⟩ = some (.int .i64 x.params) := HX.out.below hl 0 _ rfl; clear hl hd2; unfold relAt; go_simp; exact rel_is LeW.refl)
  intro _
  rw [tyIs_f]
  go_simp
  apply wpRel_cons (t := tyIs _ (.string s1))
  case h1 => (intro w' hl hd2; have hww := HW.out.below hl; clear hl hd2; unfold relAt; go_simp; refine ⟨LeW.refl _, ?_⟩; refine (HI1.out _ hww).mono ?_; rintro e w'' ⟨rfl, hb''⟩; exact ⟨(), rfl, hb'', trivial⟩)
  intro _
  rw [tyIs_f]
  go_simp
  apply wpRel_cons (t := tyIs _ _)
  case h1 => (intro w' hl hd2; clear hl hd2; unfold relAt; go_simp; exact rel_is LeW.refl)
  intro _
  rw [tyIs_f]
  go_simp
  apply wpRel_cons (t := tyIs _ _)
  case h1 => (intro w' hl hd2; have x0 : w'.cell? ⟨w.heap.size, 1, none⟩ = some (.int .i64 x.regs) := HX.out.below hl 1 _ rfl; clear hl hd2; unfold relAt; go_simp; exact rel_is LeW.refl)
  intro _
  rw [tyIs_f]
  go_simp
  apply wpRel_cons (t := tyIs _ (.string s2))
  case h1 => (intro w' hl hd2; have hww := HW.out.below hl; clear hl hd2; unfold relAt; go_simp; refine ⟨LeW.refl _, ?_⟩; refine (HI2.out _ hww).mono ?_; rintro e w'' ⟨rfl, hb''⟩; exact ⟨(), rfl, hb'', trivial⟩)
  intro _
  rw [tyIs_f]
  go_simp
  apply wpRel_cons (t := tyIs _ _)
  case h1 => (intro w' hl hd2; clear hl hd2; unfold relAt; go_simp; exact rel_is LeW.refl)
  intro _
  rw [tyIs_f]
  go_simp
  apply wpRel_cons (t := tyIs _ _)
  case h1 => (intro w' hl hd2; have x0 : w'.cell? ⟨w.heap.size, 2, none⟩ = some (.slice p x.ops.length c) := HX.out.below hl 2 _ rfl; clear hl hd2; unfold relAt; go_simp; exact rel_is LeW.refl)
  intro _
  rw [tyIs_f]
  go_simp
  apply wpRel_cons (t := tyIs _ (.string s3))
  case h1 => (intro w' hl hd2; have hnu := HNU.out _ hl; clear hl hd2; unfold relAt; go_simp; refine ⟨LeW.refl _, ?_⟩; refine (hnu).mono ?_; rintro e w'' ⟨rfl, hb''⟩; exact ⟨(), rfl, hb'', trivial⟩)
  intro _
  rw [tyIs_f]
  go_simp
  apply wpRel_cons (t := tySlN [.string s1, .string s2, .string s3] 3)
  case h1 => (intro w' hl hd2; clear hl hd2; unfold relAt; go_simp; refine ⟨below_box _ _, ⟨_, trivial⟩, rfl, ?_⟩; rw [tySlN_p]; exact cellsAt_alloc _ [.string s1, .string s2, .string s3] _)
  rintro ⟨sb, -⟩
  rw [tySlN_f]
  go_simp
  apply wpRel_cons (t := tyIs _ (.string ps))
  case h1 => (intro w' hl hd2; have hx := fact_lw hd2 (j := 9) (by kernel_rfl); simp [upd] at hx; have hx2 : CellsAt w' sb 0 [.string s1, .string s2, .string s3] := hx; have hsl := sl_cells (L := [s1, s2, s3]) (n := 3) rfl hx2 (by decide); have hww := HW.out.below hl; clear hl hd2 hx; unfold relAt; go_simp; refine ⟨LeW.refl _, ?_⟩; refine (HPK.out _ _ hsl hww).mono ?_; rintro e w'' ⟨rfl, hb''⟩; exact ⟨(), rfl, hb'', trivial⟩)
  intro _
  rw [tyIs_f]
  go_simp
  apply wpRel_nil (Ts := [])
  intro w4 hl hF
  have hl1 : Below wx.heap.size wx w4 := bnext ((Below.refl _ wx).drew) hl
  have HB4 := Lib.hid (bnext HB0.out hl1)
  clear hl hl1 hF
  go_simp
  go_wp2_with fail
  go_ret
  exact ⟨rfl, HB4.out⟩
end Go.Proofs.YthikdkeanndidaaDoor
