/-
  CONTRACT: the reference's Code.
-/
import Derived.Test.YthikdkeanndidaaDoorCm
namespace Go.Proofs.YthikdkeanndidaaDoor
open Go Go.RowKit
set_option linter.unusedVariables false
set_option linter.unusedSimpArgs false
set_option maxRecDepth 1000000

set_option maxHeartbeats 8000000 in
/-- the reference's Code -/
theorem rcode_any (A : Nat → Prop) (x : Cdd) (p : Option Addr) (c : Nat) (w : World) (h : OpsA A w (.slice p x.ops.length c) x.ops) (hok : x.Ok) (hz : (Fa.cdS x).size ≤ 1000000000) :
    Calls Tryd.prog 15 #[.agg #[.int .i64 x.params, .int .i64 x.regs, .slice p x.ops.length c]] w fun e w' => e = .returned (.string (Fa.cdS x)) ∧ Below w.heap.size w w' := by
  obtain ⟨Rr, hR, hsl0, hls0⟩ := h
  have hRl : Rr.length = x.ops.length := by rw [← hR, List.length_map]
  rw [← hRl] at hsl0 ⊢
  obtain ⟨w0, hw0⟩ : ∃ y, w.alloc (.cells #[.int .i64 x.params, .int .i64 x.regs, .slice p Rr.length c] 24) = y := ⟨_, rfl⟩
  have hb0 := below_box w (.cells #[.int .i64 x.params, .int .i64 x.regs, .slice p Rr.length c] 24)
  have hc0 : CellsAt (w.alloc (.cells #[.int .i64 x.params, .int .i64 x.regs, .slice p Rr.length c] 24)) w.heap.size 0 [.int .i64 x.params, .int .i64 x.regs, .slice p Rr.length c] := cellsAt_alloc w [.int .i64 x.params, .int .i64 x.regs, .slice p Rr.length c] _
  rw [hw0] at hb0 hc0
  have HC0 := Lib.hid hc0
  have HB0 := Lib.hid hb0
  have hzo : (opsS x.ops).size ≤ 1000000000 := by
    have h1 := Fa.mem_size (L := [itS x.params, itS x.regs, opsS x.ops]) (x := opsS x.ops) (by simp)
    have h2 : (Fa.cdS x).size = (Fa.packL [itS x.params, itS x.regs, opsS x.ops]).length := Fa.packS_size _
    omega
  have hsl := hsl0.keep (Kp.below hb0)
  have hls : ∀ r ∈ Rr, SlA encI A w0 r.sl r.1.list := fun r hr => (hls0 r hr).keep (Kp.below hb0)
  obtain ⟨-, hm, hat⟩ := hsl.at_
  unfold maxLen at hm
  have hmm : Rr.map (fun r => Fa.opS r.1) = x.ops.map Fa.opS := by rw [← hR, List.map_map]; rfl
  have hoz : (Fa.packL (Rr.map (fun r => Fa.opS r.1))).length ≤ 1000000000 := by rw [hmm]; have h2 : (opsS x.ops).size = _ := Fa.packS_size _; omega
  have hln : Rr.length ≤ 1000000000 := by
    have := Fa.packL_count (Rr.map (fun r => Fa.opS r.1))
    rw [List.length_map] at this
    omega
  have hrok : ∀ r ∈ Rr, r.1.Ok ∧ (Fa.opS r.1).size ≤ 1000000000 := fun r hr => by
    have hm : r.1 ∈ x.ops := by rw [← hR]; exact List.mem_map.2 ⟨r, hr, rfl⟩
    exact ⟨hok.ops _ hm, op_small hzo hm⟩
  have HRK := Lib.hid hrok
  have HAT := Lib.hid hat
  have HLS := Lib.hid hls
  have HOZ := Lib.hid hoz
  have HT1 := Lib.hid (fun w => rdig_any x.params hok.params.1 hok.params.2 w)
  have HT2 := Lib.hid (fun w => rdig_any x.regs hok.regs.1 hok.regs.2 w)
  obtain ⟨t1, ht1⟩ : ∃ s, s = itS x.params := ⟨_, rfl⟩
  obtain ⟨t2, ht2⟩ : ∃ s, s = itS x.regs := ⟨_, rfl⟩
  obtain ⟨t3, ht3⟩ : ∃ s, s = packS (Rr.map (fun r => Fa.opS r.1)) := ⟨_, rfl⟩
  rw [← ht1] at HT1
  rw [← ht2] at HT2
  obtain ⟨cs, hcs⟩ : ∃ s, s = Fa.cdS x := ⟨_, rfl⟩
  have hpe : packS [t1, t2, t3] = cs := by rw [hcs, ht1, ht2, ht3, hmm]; rfl
  have HPC := Lib.hid (fun (w' : World) (b : Nat) (hsl : SlIs encN w' (.slice (some ⟨b, 0, none⟩) 3 3) [t1, t2, t3]) => rpack_any [t1, t2, t3] (some ⟨b, 0, none⟩) 3 3 w' hsl (by rw [← Fa.packS_size, hpe, hcs]; exact hz))
  rw [hpe] at HPC
  rw [← hcs]
  have HT3 := Lib.hid ht3
  clear hsl0 hls0 hok hz hzo hR hsl hls hRl hat hmm hoz hrok ht1 ht2 ht3 hcs hpe hb0 hc0
  go_enter Tryd.func15, Tryd.ntmps15
  go_wp2_with fail
  go_loopw [3, 4] (fun out i wr => ∃ j : Nat, j ≤ Rr.length ∧ i = .int .i64 j ∧ Hid (OwnL encN 9 wr w0.heap.size out ((Rr.take j).map (fun r => Fa.opS r.1))) ∧ Hid (Below w0.heap.size w0 wr)) (fun _ i _ => Rr.length - (intOf i).toNat)
  case atStart => exact ⟨0, Nat.zero_le _, rfl, OwnL.isNil _ _ _ _, Below.refl _ _⟩
  case round =>
    obtain ⟨j, hj, rfl, HO, HB⟩ := hrel
    obtain ⟨wx, rfl⟩ : ∃ y, y = wr := ⟨wr, rfl⟩
    have hcc := HC0.out.below HB.out
    have c0 : wx.cell? ⟨w.heap.size, 0, none⟩ = some (.int .i64 x.params) := hcc 0 _ rfl
    have c1 : wx.cell? ⟨w.heap.size, 1, none⟩ = some (.int .i64 x.regs) := hcc 1 _ rfl
    have c2 : wx.cell? ⟨w.heap.size, 2, none⟩ = some (.slice p Rr.length c) := hcc 2 _ rfl
    clear hw0
    by_cases hlt : j < Rr.length
    · have hlti : (j : Int) < (Rr.length : Int) := by omega
      obtain ⟨b1, o1, rfl, hab, hcell⟩ := HAT.out j hlt
      obtain ⟨r, hr⟩ : ∃ r, r = Rr[j]'hlt := ⟨_, rfl⟩
      rw [← hr] at hcell
      have hrm : r ∈ Rr := by rw [hr]; exact List.getElem_mem hlt
      have hget : ∀ k v, k < 6 → (encOp.cells r)[k]? = some v → wx.cell? ⟨b1, o1 + j * 6 + k, none⟩ = some v := fun k v hk hv => by
        have h1 : w0.cell? ⟨b1, o1 + j * 6 + k, none⟩ = some v := hcell k v hk hv
        rw [HB.out.cell (World.block_lt_of_cell? w0 _ h1)]
        exact h1
      have x0 : wx.cell? ⟨b1, o1 + j * 6, none⟩ = some (.int .i64 r.1.kind) := hget 0 _ (by decide) rfl
      have x1 : wx.cell? ⟨b1, o1 + j * 6 + 1, none⟩ = some (.int .i64 r.1.a) := hget 1 _ (by decide) rfl
      have x2 : wx.cell? ⟨b1, o1 + j * 6 + 2, none⟩ = some (.int .i64 r.1.b) := hget 2 _ (by decide) rfl
      have x3 : wx.cell? ⟨b1, o1 + j * 6 + 3, none⟩ = some (.int .i64 r.1.c) := hget 3 _ (by decide) rfl
      have x4 : wx.cell? ⟨b1, o1 + j * 6 + 4, none⟩ = some (.slice r.2.1 r.1.list.length r.2.2) := hget 4 _ (by decide) rfl
      have x5 : wx.cell? ⟨b1, o1 + j * 6 + 5, none⟩ = some (.string r.1.sym) := hget 5 _ (by decide) rfl
      obtain ⟨wb, hwb⟩ : ∃ y, wx.alloc (.cells #[.int .i64 r.1.kind, .int .i64 r.1.a, .int .i64 r.1.b, .int .i64 r.1.c, .slice r.2.1 r.1.list.length r.2.2, .string r.1.sym] 58) = y := ⟨_, rfl⟩
      have hbb := below_box wx (.cells #[.int .i64 r.1.kind, .int .i64 r.1.a, .int .i64 r.1.b, .int .i64 r.1.c, .slice r.2.1 r.1.list.length r.2.2, .string r.1.sym] 58)
      have hcb : CellsAt (wx.alloc (.cells #[.int .i64 r.1.kind, .int .i64 r.1.a, .int .i64 r.1.b, .int .i64 r.1.c, .slice r.2.1 r.1.list.length r.2.2, .string r.1.sym] 58)) wx.heap.size 0 [.int .i64 r.1.kind, .int .i64 r.1.a, .int .i64 r.1.b, .int .i64 r.1.c, .slice r.2.1 r.1.list.length r.2.2, .string r.1.sym] := cellsAt_alloc wx [.int .i64 r.1.kind, .int .i64 r.1.a, .int .i64 r.1.b, .int .i64 r.1.c, .slice r.2.1 r.1.list.length r.2.2, .string r.1.sym] _
      rw [hwb] at hbb hcb
      have HX := Lib.hid hcb.drew1
      have hdr : Below wb.heap.size wb wb.drew := (Below.refl _ wb).drew
      have HBB : Hid (Below w0.heap.size w0 wb) := HB.out.trans (hbb.mono HB.out.size)
      have HO1 := Lib.hid (HO.out.below hbb)
      obtain ⟨hrk, hrz⟩ := HRK.out r hrm
      have hrl : SlA encI A wb.drew r.sl r.1.list := (((HLS.out r hrm).keep (Kp.below HB.out)).keep (Kp.below hbb)).keep (Kp.below hdr)
      have HRL := Lib.hid hrl
      have hnp : (Fa.packL (r.1.list.map itS)).length ≤ 1000000000 := by
        have h1 := Fa.mem_size (L := [itS r.1.kind, itS r.1.a, itS r.1.b, itS r.1.c, Fa.numsS r.1.list, r.1.sym]) (x := Fa.numsS r.1.list) (by simp)
        have h2 : (Fa.opS r.1).size = _ := Fa.packS_size _
        have h3 : (Fa.numsS r.1.list).size = _ := Fa.packS_size _
        omega
      have HNU := Lib.hid (fun (w' : World) (hl : LeW wb.drew w') => rnums_any A r.1.list r.2.1 r.1.list.length r.2.2 w' (HRL.out.keep (Kp.below hl)) hrk.list hnp)
      have HI1 := Lib.hid (fun w => rdig_any r.1.kind hrk.kind.1 hrk.kind.2 w)
      obtain ⟨s1, hs1⟩ : ∃ s, s = itS r.1.kind := ⟨_, rfl⟩
      rw [← hs1] at HI1
      have HI2 := Lib.hid (fun w => rdig_any r.1.a hrk.a.1 hrk.a.2 w)
      obtain ⟨s2, hs2⟩ : ∃ s, s = itS r.1.a := ⟨_, rfl⟩
      rw [← hs2] at HI2
      have HI3 := Lib.hid (fun w => rdig_any r.1.b hrk.b.1 hrk.b.2 w)
      obtain ⟨s3, hs3⟩ : ∃ s, s = itS r.1.b := ⟨_, rfl⟩
      rw [← hs3] at HI3
      have HI4 := Lib.hid (fun w => rdig_any r.1.c hrk.c.1 hrk.c.2 w)
      obtain ⟨s4, hs4⟩ : ∃ s, s = itS r.1.c := ⟨_, rfl⟩
      rw [← hs4] at HI4
      obtain ⟨s5, hs5⟩ : ∃ s, s = Fa.numsS r.1.list := ⟨_, rfl⟩
      rw [← hs5] at HNU
      obtain ⟨ps, hps⟩ : ∃ s, s = Fa.opS r.1 := ⟨_, rfl⟩
      have hpe : packS [s1, s2, s3, s4, s5, r.1.sym] = ps := by rw [hps, hs1, hs2, hs3, hs4, hs5]; rfl
      have HPK := Lib.hid (fun (w' : World) (b : Nat) (hsl : SlIs encN w' (.slice (some ⟨b, 0, none⟩) 6 6) [s1, s2, s3, s4, s5, r.1.sym]) => rpack_any [s1, s2, s3, s4, s5, r.1.sym] (some ⟨b, 0, none⟩) 6 6 w' hsl (by rw [← Fa.packS_size, hpe, hps]; exact hrz))
      rw [hpe] at HPK
      have HS : Hid ((Rr.take (j + 1)).map (fun r => Fa.opS r.1) = (Rr.take j).map (fun r => Fa.opS r.1) ++ [ps]) := by show _ = _; rw [List.take_succ_eq_append_getElem hlt, List.map_append, ← hr, hps]; rfl
      obtain ⟨acc, hacc⟩ : ∃ a, a = (Rr.take j).map (fun r => Fa.opS r.1) := ⟨_, rfl⟩
      have hal : acc.length = j := by rw [hacc, List.length_map, List.length_take]; omega
      rw [← hacc] at HO1 HS
      clear hcell hab hrm hr hrk hrz hrl hnp hs1 hs2 hs3 hs4 hs5 hps hpe hacc hget hcc hdr hbb hcb HAT HB HO
      go_wp2_with fail
      apply wp_region_relT LeW.refl LeW.trans 21
      case hm => kernel_rfl
      case hB => kernel_rfl
      simp only [List.take_succ_cons, List.take_zero, List.drop_succ_cons, List.drop_zero]
      apply wpRel_cons (t := tyIs _ _)
      case h1 => (intro w' hl hd2; clear hl hd2; unfold relAt; go_simp; exact rel_is LeW.refl)
      intro _
      rw [tyIs_f]
      go_simp
      apply wpRel_cons (t := tyIs _ _)
      case h1 => (intro w' hl hd2; clear hl hd2; unfold relAt; go_simp; exact rel_is LeW.refl)
      intro _
      rw [tyIs_f]
      go_simp
      apply wpRel_cons (t := tyIs _ _)
      case h1 => (intro w' hl hd2; have x0 : w'.cell? ⟨wx.heap.size, 0, none⟩ = some (.int .i64 r.1.kind) := HX.out.below hl 0 _ rfl; clear hl hd2; unfold relAt; go_simp; exact rel_is LeW.refl)
      intro _
      rw [tyIs_f]
      go_simp
      apply wpRel_cons (t := tyIs _ (.string s1))
      case h1 => (intro w' hl hd2; clear hl hd2; unfold relAt; go_simp; refine ⟨LeW.refl _, ?_⟩; refine (HI1.out _).mono ?_; rintro e w'' ⟨rfl, hb''⟩; exact ⟨(), rfl, hb'', trivial⟩)
      intro _
      rw [tyIs_f]
      go_simp
      apply wpRel_cons (t := tyIs _ _)
      case h1 => (intro w' hl hd2; clear hl hd2; unfold relAt; go_simp; exact rel_is LeW.refl)
      intro _
      rw [tyIs_f]
      go_simp
      apply wpRel_cons (t := tyIs _ _)
      case h1 => (intro w' hl hd2; have x0 : w'.cell? ⟨wx.heap.size, 1, none⟩ = some (.int .i64 r.1.a) := HX.out.below hl 1 _ rfl; clear hl hd2; unfold relAt; go_simp; exact rel_is LeW.refl)
      intro _
      rw [tyIs_f]
      go_simp
      apply wpRel_cons (t := tyIs _ (.string s2))
      case h1 => (intro w' hl hd2; clear hl hd2; unfold relAt; go_simp; refine ⟨LeW.refl _, ?_⟩; refine (HI2.out _).mono ?_; rintro e w'' ⟨rfl, hb''⟩; exact ⟨(), rfl, hb'', trivial⟩)
      intro _
      rw [tyIs_f]
      go_simp
      apply wpRel_cons (t := tyIs _ _)
      case h1 => (intro w' hl hd2; clear hl hd2; unfold relAt; go_simp; exact rel_is LeW.refl)
      intro _
      rw [tyIs_f]
      go_simp
      apply wpRel_cons (t := tyIs _ _)
      case h1 => (intro w' hl hd2; have x0 : w'.cell? ⟨wx.heap.size, 2, none⟩ = some (.int .i64 r.1.b) := HX.out.below hl 2 _ rfl; clear hl hd2; unfold relAt; go_simp; exact rel_is LeW.refl)
      intro _
      rw [tyIs_f]
      go_simp
      apply wpRel_cons (t := tyIs _ (.string s3))
      case h1 => (intro w' hl hd2; clear hl hd2; unfold relAt; go_simp; refine ⟨LeW.refl _, ?_⟩; refine (HI3.out _).mono ?_; rintro e w'' ⟨rfl, hb''⟩; exact ⟨(), rfl, hb'', trivial⟩)
      intro _
      rw [tyIs_f]
      go_simp
      apply wpRel_cons (t := tyIs _ _)
      case h1 => (intro w' hl hd2; clear hl hd2; unfold relAt; go_simp; exact rel_is LeW.refl)
      intro _
      rw [tyIs_f]
      go_simp
      apply wpRel_cons (t := tyIs _ _)
      case h1 => (intro w' hl hd2; have x0 : w'.cell? ⟨wx.heap.size, 3, none⟩ = some (.int .i64 r.1.c) := HX.out.below hl 3 _ rfl; clear hl hd2; unfold relAt; go_simp; exact rel_is LeW.refl)
      intro _
      rw [tyIs_f]
      go_simp
      apply wpRel_cons (t := tyIs _ (.string s4))
      case h1 => (intro w' hl hd2; clear hl hd2; unfold relAt; go_simp; refine ⟨LeW.refl _, ?_⟩; refine (HI4.out _).mono ?_; rintro e w'' ⟨rfl, hb''⟩; exact ⟨(), rfl, hb'', trivial⟩)
      intro _
      rw [tyIs_f]
      go_simp
      apply wpRel_cons (t := tyIs _ _)
      case h1 => (intro w' hl hd2; clear hl hd2; unfold relAt; go_simp; exact rel_is LeW.refl)
      intro _
      rw [tyIs_f]
      go_simp
      apply wpRel_cons (t := tyIs _ _)
      case h1 => (intro w' hl hd2; have x0 : w'.cell? ⟨wx.heap.size, 4, none⟩ = some (.slice r.2.1 r.1.list.length r.2.2) := HX.out.below hl 4 _ rfl; clear hl hd2; unfold relAt; go_simp; exact rel_is LeW.refl)
      intro _
      rw [tyIs_f]
      go_simp
      apply wpRel_cons (t := tyIs _ (.string s5))
      case h1 => (intro w' hl hd2; have hnu := HNU.out _ hl; clear hl hd2; unfold relAt; go_simp; refine ⟨LeW.refl _, ?_⟩; refine (hnu).mono ?_; rintro e w'' ⟨rfl, hb''⟩; exact ⟨(), rfl, hb'', trivial⟩)
      intro _
      rw [tyIs_f]
      go_simp
      apply wpRel_cons (t := tyIs _ _)
      case h1 => (intro w' hl hd2; clear hl hd2; unfold relAt; go_simp; exact rel_is LeW.refl)
      intro _
      rw [tyIs_f]
      go_simp
      apply wpRel_cons (t := tyIs _ _)
      case h1 => (intro w' hl hd2; have x0 : w'.cell? ⟨wx.heap.size, 5, none⟩ = some (.string r.1.sym) := HX.out.below hl 5 _ rfl; clear hl hd2; unfold relAt; go_simp; exact rel_is LeW.refl)
      intro _
      rw [tyIs_f]
      go_simp
      apply wpRel_cons (t := tySlN [.string s1, .string s2, .string s3, .string s4, .string s5, .string r.1.sym] 6)
      case h1 => (intro w' hl hd2; clear hl hd2; unfold relAt; go_simp; refine ⟨below_box _ _, ⟨_, trivial⟩, rfl, ?_⟩; rw [tySlN_p]; exact cellsAt_alloc _ [.string s1, .string s2, .string s3, .string s4, .string s5, .string r.1.sym] _)
      rintro ⟨sb, -⟩
      rw [tySlN_f]
      go_simp
      apply wpRel_cons (t := tyIs _ (.string ps))
      case h1 => (intro w' hl hd2; have hx := fact_lw hd2 (j := 18) (by kernel_rfl); simp [upd] at hx; have hx2 : CellsAt w' sb 0 [.string s1, .string s2, .string s3, .string s4, .string s5, .string r.1.sym] := hx; have hsl := sl_cells (L := [s1, s2, s3, s4, s5, r.1.sym]) (n := 6) rfl hx2 (by decide); clear hl hd2 hx; unfold relAt; go_simp; refine ⟨LeW.refl _, ?_⟩; refine (HPK.out _ _ hsl).mono ?_; rintro e w'' ⟨rfl, hb''⟩; exact ⟨(), rfl, hb'', trivial⟩)
      intro _
      rw [tyIs_f]
      go_simp
      apply wpRel_cons (t := tySl1 [.string ps])
      case h1 => (intro w' hl hd2; clear hl hd2; unfold relAt; go_simp; refine ⟨below_box _ _, ⟨_, trivial⟩, rfl, ?_⟩; rw [tySl1_p]; exact cellsAt_alloc _ [.string ps] _)
      rintro ⟨sc, -⟩
      rw [tySl1_f]
      go_simp
      apply wpRel_nil (Ts := [])
      intro w4 hl hF
      have hl1 : Below wb.heap.size wb w4 := bnext ((Below.refl _ wb).drew) hl
      have HB4 := Lib.hid (HBB.out.trans (hl1.mono HBB.out.size))
      have HO4 := Lib.hid (HO1.out.below hl1)
      have HSC : Hid (CellsAt w4 sc 0 [.string ps]) := hF 20
      have R1 : Hid (acc.length + 1 ≤ maxLen) := by unfold Hid maxLen; omega
      have R2 : Hid ((acc.length + 1) * 16 ≤ 140737488355328) := by unfold Hid; omega
      clear hl hl1 hF HBB HO1 HX HRL HNU x0 x1 x2 x3 x4 x5 c0 c1 c2
      go_simp
      refine wpList_appendAt (E := encN) Tryd.underlying41 info_s rfl rfl (.tmp 18) (.tmp 38) rfl w0.heap.size u3 acc ?_ ?_ sc 1 ps ?_ ?_ ?_ ?_ ?_ ?_
      · rfl
      · exact HO4.out
      · rfl
      · exact HSC.out
      · exact R1
      · exact R2
      · exact HB4.out.size
      intro out2 w6 hown2 hg6 hat6
      have HB6 := Lib.hid (HB4.out.trans ((Below.refl w0.heap.size _).grown hg6 HB4.out.size (fun k hk => (World.ownsRow.lt HO4.out k hk).1)))
      have HO6 := Lib.hid hown2
      rw [← HS.out] at HO6
      clear hown2 hg6 hat6 HO4 HB4 HSC
      go_wp2_with fail
      go_roundw
      case rel => exact ⟨j + 1, by omega, by go_num, HO6, HB6.out⟩
      case measure => simp [intOf]; omega
    · obtain rfl : j = Rr.length := by omega
      rw [List.take_length] at HO
      obtain ⟨p2, c2', rfl, hsl2⟩ := HO.out.sla.shape
      rw [List.length_map] at hsl2
      have hdr : Below wx.heap.size wx wx.drew := (Below.refl _ wx).drew
      have HX := Lib.hid hcc.drew1
      have HSL2 := Lib.hid (hsl2.sl.below hdr)
      have HRO : Hid (∀ (w' : World) (hl : LeW wx.drew w'), Calls Tryd.prog 39 #[.slice p2 Rr.length c2'] w' fun e w'' => e = .returned (.string t3) ∧ Below w'.heap.size w' w'') := fun w' hl => by
        have h9 := HSL2.out.below hl
        have h8 := HOZ.out
        have h7 := HT3.out
        obtain ⟨LL, hLL⟩ : ∃ l, l = Rr.map (fun r => Fa.opS r.1) := ⟨_, rfl⟩
        rw [← hLL] at h9 h8 h7
        rw [h7]
        exact rpack_any LL p2 Rr.length c2' w' h9 h8
      have HB1 := Lib.hid HB.out
      clear hsl2 hdr hcc HAT HO HSL2 HB
      go_wp2_with fail
      apply wp_region_relT LeW.refl LeW.trans 10
      case hm => kernel_rfl
      case hB => kernel_rfl
      simp only [List.take_succ_cons, List.take_zero, List.drop_succ_cons, List.drop_zero]
      apply wpRel_cons (t := tyIs _ _)
      case h1 => (intro w' hl hd2; clear hl hd2; unfold relAt; go_simp; exact rel_is LeW.refl)
      intro _
      rw [tyIs_f]
      go_simp
      apply wpRel_cons (t := tyIs _ _)
      case h1 => (intro w' hl hd2; have x0 : w'.cell? ⟨w.heap.size, 0, none⟩ = some (.int .i64 x.params) := HX.out.below hl 0 _ rfl; clear hl hd2; unfold relAt; go_simp; exact rel_is LeW.refl)
      intro _
      rw [tyIs_f]
      go_simp
      apply wpRel_cons (t := tyIs _ (.string t1))
      case h1 => (intro w' hl hd2; clear hl hd2; unfold relAt; go_simp; refine ⟨LeW.refl _, ?_⟩; refine (HT1.out _).mono ?_; rintro e w'' ⟨rfl, hb''⟩; exact ⟨(), rfl, hb'', trivial⟩)
      intro _
      rw [tyIs_f]
      go_simp
      apply wpRel_cons (t := tyIs _ _)
      case h1 => (intro w' hl hd2; clear hl hd2; unfold relAt; go_simp; exact rel_is LeW.refl)
      intro _
      rw [tyIs_f]
      go_simp
      apply wpRel_cons (t := tyIs _ _)
      case h1 => (intro w' hl hd2; have x0 : w'.cell? ⟨w.heap.size, 1, none⟩ = some (.int .i64 x.regs) := HX.out.below hl 1 _ rfl; clear hl hd2; unfold relAt; go_simp; exact rel_is LeW.refl)
      intro _
      rw [tyIs_f]
      go_simp
      apply wpRel_cons (t := tyIs _ (.string t2))
      case h1 => (intro w' hl hd2; clear hl hd2; unfold relAt; go_simp; refine ⟨LeW.refl _, ?_⟩; refine (HT2.out _).mono ?_; rintro e w'' ⟨rfl, hb''⟩; exact ⟨(), rfl, hb'', trivial⟩)
      intro _
      rw [tyIs_f]
      go_simp
      apply wpRel_cons (t := tyIs _ _)
      case h1 => (intro w' hl hd2; clear hl hd2; unfold relAt; go_simp; exact rel_is LeW.refl)
      intro _
      rw [tyIs_f]
      go_simp
      apply wpRel_cons (t := tyIs _ (.string t3))
      case h1 => (intro w' hl hd2; have hro := HRO.out _ hl; clear hl hd2; unfold relAt; go_simp; refine ⟨LeW.refl _, ?_⟩; refine (hro).mono ?_; rintro e w'' ⟨rfl, hb''⟩; exact ⟨(), rfl, hb'', trivial⟩)
      intro _
      rw [tyIs_f]
      go_simp
      apply wpRel_cons (t := tySlN [.string t1, .string t2, .string t3] 3)
      case h1 => (intro w' hl hd2; clear hl hd2; unfold relAt; go_simp; refine ⟨below_box _ _, ⟨_, trivial⟩, rfl, ?_⟩; rw [tySlN_p]; exact cellsAt_alloc _ [.string t1, .string t2, .string t3] _)
      rintro ⟨sb, -⟩
      rw [tySlN_f]
      go_simp
      apply wpRel_cons (t := tyIs _ (.string cs))
      case h1 => (intro w' hl hd2; have hx := fact_lw hd2 (j := 8) (by kernel_rfl); simp [upd] at hx; have hx2 : CellsAt w' sb 0 [.string t1, .string t2, .string t3] := hx; have hsl := sl_cells (L := [t1, t2, t3]) (n := 3) rfl hx2 (by decide); clear hl hd2 hx; unfold relAt; go_simp; refine ⟨LeW.refl _, ?_⟩; refine (HPC.out _ _ hsl).mono ?_; rintro e w'' ⟨rfl, hb''⟩; exact ⟨(), rfl, hb'', trivial⟩)
      intro _
      rw [tyIs_f]
      go_simp
      apply wpRel_nil (Ts := [])
      intro w4 hl hF
      have hl1 : Below wx.heap.size wx w4 := bnext ((Below.refl _ wx).drew) hl
      have HB4 := Lib.hid (HB0.out.trans ((HB1.out.trans (hl1.mono HB1.out.size)).mono HB0.out.size))
      clear hl hl1 hF
      go_simp
      go_wp2_with fail
      go_ret
      exact ⟨rfl, HB4.out⟩
end Go.Proofs.YthikdkeanndidaaDoor
