/-
  CONTRACT: (*Dice).Code: the codes that dice make.
-/
import Derived.Test.YthikdkeanndidaaDoorCoS1
import Derived.Test.YthikdkeanndidaaDoorCoS2
import Derived.Test.YthikdkeanndidaaDoorCoS3
import Derived.Test.YthikdkeanndidaaDoorCoS4
import Derived.Deep.CutBlock
import Derived.Deep.CutRange
namespace Go.Proofs.YthikdkeanndidaaDoor
open Go Go.RowKit Go.Maps
set_option linter.unusedVariables false
set_option linter.unusedSimpArgs false
set_option maxRecDepth 1000000

/-- a code under way -/
structure Ck (d : Dice) (w wr : World) (cb pr rg : Nat) (v : Value) (R : List Rop) : Prop where
  start : DiceAt d w
  thrown : Thrown d w wr
  up : w.heap.size < cb
  box : wr.heap[cb]? = some (.cells #[.int .i64 (pr : Int), .int .i64 (rg : Int), v] cdT (0, 0))
  res : wr.heap[w.heap.size]? = some (.cells #[.int .i64 0, .int .i64 0, .slice none 0 0] cdT (0, 0))
  row : OpsRow wr (cb + 1) v R
  ok : ∀ r ∈ R, RSmall r
theorem Ck.begin {d : Dice} {w w4 : World} {pr rg : Nat} (hd : DiceAt d w) (ht : Thrown d (w.alloc (.cells #[.int .i64 0, .int .i64 0, .slice none 0 0] cdT)) w4) :
    Ck d w (w4.alloc (.cells #[.int .i64 (pr : Int), .int .i64 (rg : Int), .slice none 0 0] cdT)) w4.heap.size pr rg (.slice none 0 0) [] := by
  have hlow := dcLow hd
  have hta := thrown_allocD hd (.cells #[.int .i64 0, .int .i64 0, .slice none 0 0] cdT)
  have hsz : (w.alloc (.cells #[.int .i64 0, .int .i64 0, .slice none 0 0] cdT)).heap.size = w.heap.size + 1 := World.size_alloc _ _
  have h1 := hta.trans ht
  have h2 := ht.but.size
  have hdr := Dr.of_thrown ht (by have := hlow.1; omega)
  refine ⟨hd, h1.trans (thrown_allocD h1.good _), by omega, heap_alloc_new w4 _, ?_, OpsRow.isNil _ _, fun r hr => by cases hr⟩
  have hb := below_box w4 (.cells #[.int .i64 (pr : Int), .int .i64 (rg : Int), .slice none 0 0] cdT)
  rw [hb.block _ (by omega), hdr.block _ (by omega) (by have := hlow.1; omega)]
  exact heap_alloc_new w _

theorem OpsRow.thr {d : Dice} {w w' : World} {base : Nat} {v : Value} {R : List Rop} (h : OpsRow w base v R) (ht : Thrown d w w') (hD : d.D < base) (hs : d.D < w.heap.size) : OpsRow w' base v R :=
  ⟨own_dr h.own (Dr.of_thrown ht hs) hD (Nat.le_refl _), fun r hr => (h.at_ r hr).keep (Kp.but ht.but (fun a ha e => by unfold isAt at e; subst e; have := ha.1; simp at this; omega))⟩
theorem SlA.blocks {α : Type} {E : Enc α} {A : Nat → Prop} {w w' : World} {v : Value} {L : List α} (h : SlA E A w v L) (hk : ∀ k, A k → k < w.heap.size → w'.heap[k]? = w.heap[k]?) : SlA E A w' v L :=
  (h.here.keep (w' := w') (fun a u ha hc => by rw [World.cell?_of_block (w := w) (hk a.block ha.1 ha.2)]; exact hc)).mono (fun k hk => hk.1)
theorem OpsRow.dr {d : Dice} {w w' : World} {base s0 : Nat} {v : Value} {R : List Rop} (h : OpsRow w base v R) (hd : Dr d s0 w w') (hD : d.D < base) (hs : w.heap.size ≤ s0) : OpsRow w' base v R :=
  ⟨own_dr h.own hd hD hs, fun r hr => (h.at_ r hr).blocks (fun k hk hl => hd.block k (by omega) (by have := hk.1; omega))⟩
theorem Ck.lt {d : Dice} {w wr : World} {cb pr rg : Nat} {v : Value} {R : List Rop} (h : Ck d w wr cb pr rg v R) : cb < wr.heap.size := heap_lt h.box
/-- what turns nothing that was there but the dice -/
theorem Ck.later {d : Dice} {w wr wy : World} {cb pr rg : Nat} {v : Value} {R : List Rop} (h : Ck d w wr cb pr rg v R) (hd : Dr d wr.heap.size wr wy) (hD : d.D < w.heap.size) : Ck d w wy cb pr rg v R := by
  have hup := h.up
  have hlt := h.lt
  have hsz := h.thrown.but.size
  refine ⟨h.start, ?_, hup, box_dr h.box hd (by omega) hlt, box_dr h.res hd (by omega) (by omega), h.row.dr hd (by omega) (Nat.le_refl _), h.ok⟩
  have h0 : Dr d w.heap.size w wr := Dr.of_thrown h.thrown hD
  exact (h0.trans (hd.mono hsz)).thrown h.start
/-- the box of an operation is laid -/
theorem Ck.round {d : Dice} {w wr : World} {cb pr rg : Nat} {v : Value} {R : List Rop} {k : Int} (h : Ck d w wr cb pr rg v R) (hlow : DcLow d w.heap.size) (hk : InI k) :
    Rs d cb wr.heap.size rg (wr.alloc (.cells (opCells k 0 0 0 (.slice none 0 0) ⟨#[]⟩) opT)) := by
  have hup := h.up
  have hlt := h.lt
  have hz : InI 0 := by unfold InI; omega
  have hb := below_box wr (.cells (opCells k 0 0 0 (.slice none 0 0) ⟨#[]⟩) opT)
  refine ⟨hlow.mono (by omega), ⟨hlt, by have := hlow.1; omega⟩, (thrown_allocD h.thrown.good _).good, ?_, ?_, by rw [World.size_alloc]; omega⟩
  · rw [Lib.cell_of_heap ((hb.block cb hlt).trans h.box)]; rfl
  · exact ⟨k, 0, 0, 0, ⟨#[]⟩, heap_alloc_new wr _, hk, hz, hz, hz, by decide, OwnL.isNil _ _ _ _, (fun n hn => by cases hn), Nat.zero_le _⟩

/-- the longer row is stored -/
theorem Ck.put {d : Dice} {w wy w9 : World} {cb pr rg : Nat} {v v' : Value} {R : List Rop} {r : Rop} (h : Ck d w wy cb pr rg v R) (hlow : DcLow d w.heap.size) (hd : Dr d (cb + 1) wy w9) (hr : OpsRow w9 (cb + 1) v' (R ++ [r])) (hs : RSmall r) :
    w9.cell? ⟨cb, 2, none⟩ = some v ∧ w9.frozen? ⟨cb, 2, none⟩ = false ∧ Ck d w (w9.setCell ⟨cb, 2, none⟩ v') cb pr rg v' (R ++ [r]) := by
  have hup := h.up
  have hlt := h.lt
  have hD := hlow.1
  have hb : w9.heap[cb]? = some (.cells #[.int .i64 (pr : Int), .int .i64 (rg : Int), v] cdT (0, 0)) := (hd.block cb (by omega) (by omega)).trans h.box
  have hres : w9.heap[w.heap.size]? = some (.cells #[.int .i64 0, .int .i64 0, .slice none 0 0] cdT (0, 0)) := (hd.block _ (by omega) (by omega)).trans h.res
  have hset : Dr d cb w9 (w9.setCell ⟨cb, 2, none⟩ v') := set_dr (hlow.mono (by omega)) (Nat.le_refl _)
  have hall : Dr d w.heap.size w (w9.setCell ⟨cb, 2, none⟩ v') := ((Dr.of_thrown h.thrown hD).trans (hd.mono (by omega))).trans (hset.mono (by omega))
  refine ⟨by rw [Lib.cell_of_heap hb]; rfl, Lib.frozen_of_heap hb 2, h.start, hall.thrown h.start, hup, heap_setCell_same w9 cb 2 _ _ v' hb, ?_, hr.set (by omega), ?_⟩
  · rw [Below.heap_setCell _ _ _ _ (by show w.heap.size ≠ cb; omega)]; exact hres
  · intro q hq
    rcases List.mem_append.1 hq with hq | hq
    · exact h.ok q hq
    · rw [List.mem_singleton] at hq; rw [hq]; exact hs
theorem Ck.cells {d : Dice} {w wy : World} {cb pr rg : Nat} {v : Value} {R : List Rop} (h : Ck d w wy cb pr rg v R) : wy.cell? ⟨cb, 0, none⟩ = some (.int .i64 (pr : Int)) ∧ wy.cell? ⟨cb, 1, none⟩ = some (.int .i64 (rg : Int)) ∧ wy.cell? ⟨cb, 2, none⟩ = some v := by
  refine ⟨?_, ?_, ?_⟩ <;> rw [Lib.cell_of_heap h.box] <;> rfl
theorem Ck.slice {d : Dice} {w wy : World} {cb pr rg : Nat} {v : Value} {R : List Rop} (h : Ck d w wy cb pr rg v R) : ∃ p c, v = .slice p R.length c := by
  obtain ⟨p, c, e, -⟩ := h.row.own.sla
  exact ⟨p, c, e⟩
/-- a code that is done -/
theorem Ck.fin {d : Dice} {w wx : World} {cb pr rg : Nat} {p : Option Addr} {n c : Nat} {R : List Rop} (h : Ck d w wx cb pr rg (.slice p n c) R) (hlow : DcLow d w.heap.size) (hp : pr ≤ 100) (hg : rg ≤ 1000) (h0 : 0 < R.length) (h1 : R.length ≤ 15) :
    ∃ (v : Value) (x : Cdd), Ending.returned (.agg #[.int .i64 (pr : Int), .int .i64 (rg : Int), .slice p n c]) = .returned v ∧ CdM (fun k => w.heap.size ≤ k) (((wx.setCell ⟨w.heap.size, 0, none⟩ (.int .i64 (pr : Int))).setCell ⟨w.heap.size, 1, none⟩ (.int .i64 (rg : Int))).setCell ⟨w.heap.size, 2, none⟩ (.slice p n c)) v x ∧ x.Small ∧ Thrown d w (((wx.setCell ⟨w.heap.size, 0, none⟩ (.int .i64 (pr : Int))).setCell ⟨w.heap.size, 1, none⟩ (.int .i64 (rg : Int))).setCell ⟨w.heap.size, 2, none⟩ (.slice p n c)) := by
  obtain ⟨p', c', e, ho⟩ := h.row.own.sla.shape
  injection e with e1 e2 e3
  subst e1; subst e2; subst e3
  have hup := h.up
  have hset : ∀ (i : Nat) (W : World) (u : Value), Dr d w.heap.size W (W.setCell ⟨w.heap.size, i, none⟩ u) := fun i W u => set_dr hlow (Nat.le_refl _)
  have hall := (((Dr.of_thrown h.thrown hlow.1).trans (hset 0 wx (.int .i64 (pr : Int)))).trans (hset 1 _ (.int .i64 (rg : Int)))).trans (hset 2 _ (.slice p R.length c))
  have hkp := Kp.but (A := fun k => cb + 1 ≤ k) (cd_but (w := wx) (B := w.heap.size) (pr : Int) (rg : Int) p R.length c) (fun a ha e => by have e' : a.block = w.heap.size := e; omega)
  have hk := (ho.keep hkp).mono (B := fun k => w.heap.size ≤ k) (fun k hk => by omega)
  have hls : ∀ r ∈ R, SlA encI (fun k => w.heap.size ≤ k) (((wx.setCell ⟨w.heap.size, 0, none⟩ (.int .i64 (pr : Int))).setCell ⟨w.heap.size, 1, none⟩ (.int .i64 (rg : Int))).setCell ⟨w.heap.size, 2, none⟩ (.slice p R.length c)) r.sl r.1.list := fun r hr => (((h.row.at_ r hr).mono (B := fun k => cb + 1 ≤ k) (fun k hk => hk.1)).keep hkp).mono (fun k hk => by omega)
  have hlm : (R.map (·.1)).length = R.length := List.length_map _
  refine ⟨_, ⟨(pr : Int), (rg : Int), R.map (·.1)⟩, rfl, ⟨p, c, by rw [hlm], R, rfl, by rw [hlm]; exact hk, hls, h.ok⟩, ⟨⟨inI_nat (by omega), inI_nat (by omega), ?_⟩, by simpa using h0, by simpa using h1, ?_⟩, hall.thrown h.start⟩
  · intro o ho
    obtain ⟨r, hr, rfl⟩ := List.mem_map.1 ho
    exact (h.ok r hr).1.ok
  · intro o ho
    obtain ⟨r, hr, rfl⟩ := List.mem_map.1 ho
    exact (h.ok r hr).1
theorem retO_smallI {n : Int} (h : InI n) : RSmall (retO n) := by
  refine ⟨?_, fun _ => rfl⟩
  refine ⟨⟨by show InI 18; unfold InI; omega, by show InI 0; unfold InI; omega, h, by show InI 0; unfold InI; omega, (fun m hm => by cases hm)⟩, Nat.zero_le _, by show (⟨#[]⟩ : ByteArray).size ≤ 1; decide⟩

set_option maxHeartbeats 8000000 in
theorem dcode_any (d : Dice) (pr : Nat) (w : World) (hd : DiceAt d w) (hp : pr ≤ 100) :
    Calls Tryd.prog 9 #[.pointer (some ⟨d.D, 0, none⟩), .int .i64 (pr : Int)] w fun e w' => ∃ (v : Value) (x : Cdd), e = .returned v ∧ CdM (fun k => w.heap.size ≤ k) w' v x ∧ x.Small ∧ Thrown d w w' := by
  have HLW := Lib.hid (dcLow hd)
  have hta := thrown_allocD hd (.cells #[.int .i64 0, .int .i64 0, .slice none 0 0] cdT)
  have HTA := Lib.hid hta
  have HD := Lib.hid hd
  clear hd hta
  go_enter Tryd.func9, Tryd.ntmps9
  go_wp2_with fail
  refine (next_any d 14 _ HTA.out.good (by omega) (by omega)).mono ?_
  rintro e w3 ⟨n0, hn0, rfl, ht3, -⟩
  have HT3 := Lib.hid ht3
  clear ht3 HTA
  obtain ⟨nn, hnn⟩ : ∃ nn : Nat, nn = 1 + n0 := ⟨_, rfl⟩
  have en : IntKind.i64.wrap (1 + (n0 : Int)) = (nn : Int) := by rw [IntWalk.i64_in _ (by omega)]; omega
  have hn1 : 1 ≤ nn := by omega
  have hn2 : nn ≤ 14 := by omega
  have ep : IntKind.i64.wrap ((pr : Int) + 1) = (pr : Int) + 1 := IntWalk.i64_in _ (by omega)
  clear hnn hn0
  go_wp2_with fail
  refine (next_any d 4 _ HT3.out.good (by omega) (by omega)).mono ?_
  rintro e w4 ⟨r0, hr0, rfl, ht4, -⟩
  obtain ⟨rg, hrg⟩ : ∃ rg : Nat, rg = pr + 1 + r0 := ⟨_, rfl⟩
  have er : IntKind.i64.wrap ((pr : Int) + 1 + (r0 : Int)) = (rg : Int) := by rw [IntWalk.i64_in _ (by omega)]; omega
  have hg1 : 0 < rg := by omega
  have hg2 : rg ≤ 1000 := by omega
  have HC0 := Lib.hid (Ck.begin (pr := pr) (rg := rg) HD.out (HT3.out.trans ht4))
  clear hrg hr0 ht4 HT3
  go_wp2_with fail
  generalize hcb : w4.heap.size = cb at *
  obtain ⟨wc, hwc⟩ : ∃ x, w4.alloc (.cells #[.int .i64 (pr : Int), .int .i64 (rg : Int), .slice none 0 0] cdT) = x := ⟨_, rfl⟩
  rw [hwc] at HC0 ⊢
  clear hcb hwc en er ep
  go_loopw [7, 8, 9, 10] (fun k o i1 i2 wr => ∃ (kk : Nat) (v : Value) (R : List Rop), k = .int .i64 kk ∧ kk ≤ nn ∧ R.length = kk ∧ Hid (Ck d w wr cb pr rg v R)) (fun k _ _ _ _ => nn - (intOf k).toNat)
  case atStart => exact ⟨0, _, [], rfl, by omega, rfl, HC0⟩
  case round =>
    clear HC0
    obtain ⟨kk, v, R, rfl, hkn, hRl, HC⟩ := hrel
    obtain ⟨wx, rfl⟩ : ∃ x, x = wr := ⟨wr, rfl⟩
    have HRL := Lib.hid hRl
    clear hRl
    by_cases hlt : kk < nn
    · have hlti : (kk : Int) < (nn : Int) := by omega
      go_wp2_with fail
      refine (next_any d 19 _ HC.out.thrown.good (by omega) (by omega)).mono ?_
      rintro e w6 ⟨kd, hkd, rfl, ht6, -⟩
      obtain ⟨kv, hkv0⟩ : ∃ kv : Int, kv = 1 + (kd : Int) := ⟨_, rfl⟩
      have e1 : IntKind.i64.wrap (1 + (kd : Int)) = kv := by rw [IntWalk.i64_in _ (by omega)]; omega
      have hkv : kv = 1 ∨ kv = 2 ∨ kv = 3 ∨ kv = 4 ∨ kv = 5 ∨ kv = 6 ∨ kv = 7 ∨ kv = 8 ∨ kv = 9 ∨ kv = 10 ∨ kv = 11 ∨ kv = 12 ∨ kv = 13 ∨ kv = 14 ∨ kv = 15 ∨ kv = 16 ∨ kv = 17 ∨ kv = 18 ∨ kv = 19 := by omega
      have HC6 := Lib.hid (HC.out.later (Dr.of_thrown ht6 (by have h1 := HC.out.lt; have h2 := HC.out.up; have h3 := HLW.out.1; omega)) HLW.out.1)
      have HRS := Lib.hid (HC6.out.round (k := kv) HLW.out (by unfold InI; omega))
      have hob0 := HC6.out.lt
      have HKV := Lib.hid hkv
      clear ht6 HC hlti hkv0 hkd hkv
      generalize hob : w6.heap.size = ob at *
      go_upto_block 2 with fail
      obtain ⟨w8, hw8⟩ : ∃ x, w6.alloc (.cells #[.int .i64 kv, .int .i64 0, .int .i64 0, .int .i64 0, .slice none 0 0, .string ⟨#[]⟩] opT) = x := ⟨_, rfl⟩
      rw [hw8] at HRS ⊢
      have hb8 : w8.heap[ob]? = some (.cells (opCells kv 0 0 0 (.slice none 0 0) ⟨#[]⟩) opT (0, 0)) := by
        rw [← hw8, ← hob]
        exact heap_alloc_new w6 _
      have HK0 : Hid (Rk d cb ob rg kv w8 w8) := Rk.begin HRS.out hb8 (by have := HKV.out; unfold InI; omega)
      have HW8 : Hid (Dr d ob w6 w8) := by
        rw [← hw8, ← hob]
        exact Dr.of_below (below_box w6 _) (HRS.out.low.mono (by omega))
      have HOB := Lib.hid hob
      clear hw8 hob e1 hb8
      go_cut [9, 10] from 21 to 197 (fun s9 s10 wy => Hid (Dr d ob w8 wy) ∧ Hid (OpL wy ob))
      case first =>
        have hkv := HKV.out
        clear HKV
        rename_i J K2 hJ hK2
        rcases hkv with rfl | rfl | rfl | rfl | rfl | rfl | rfl | rfl | rfl | rfl | rfl | rfl | rfl | rfl | rfl | rfl | rfl | rfl | rfl
        · exact sw1 d cb ob rg nn kk w8 _ rfl _ _ _ _ _ _ _ _ _ _ _ _ _ _ _ _ _ _ _ _ _ _ _ _ _ _ _ _ _ _ _ _ _ _ _ _ _ _ _ _ _ _ _ _ _ _ _ _ _ _ _ _ _ _ _ _ _ _ _ _ _ _ _ _ _ _ _ _ _ _ _ _ _ _ _ _ _ _ _ _ _ _ _ _ _ _ _ _ _ _ _ _ _ _ _ _ _ _ _ _ _ _ _ _ _ _ _ _ _ _ _ _ _ _ _ _ _ _ _ _ _ _ _ _ _ _ _ _ _ _ _ _ _ _ _ _ _ _ _ _ _ _ _ _ _ _ _ _ _ _ _ _ _ _ _ _ _ _ _ _ _ _ _ _ _ _ _ _ _ _ _ _ _ _ _ _ _ _ _ _ _ _ _ _ _ _ _ _ _ _ _ _ _ _ _ _ _ _ _ _ _ _ _ K2 _ hg1 hg2 hn1 hn2 hlt hob0 HRS HK0 (Lib.hid (fun u9 u10 u21 u22 u23 u24 u25 u26 u27 u28 u29 u30 u31 u32 u33 u34 u35 u36 u37 u38 u39 u40 u41 u42 u43 u44 u45 u46 u47 u48 u49 u50 u51 u52 u53 u54 u55 u56 u57 u58 u59 u60 u61 u62 u63 u64 u65 u66 u67 u68 u69 u70 u71 u72 u73 u74 u75 u76 u77 u78 u79 u80 u81 u82 u83 u84 u85 u86 u87 u88 u89 u90 u91 u92 u93 u94 u95 u96 u97 u98 u99 u100 u101 u102 u103 u104 u105 u106 u107 u108 u109 u110 u111 u112 u113 u114 u115 u116 u117 u118 u119 u120 u121 u122 u123 u124 u125 u126 u127 u128 u129 u130 u131 u132 u133 u134 u135 u136 u137 u138 u139 u140 u141 u142 u143 u144 u145 u146 u147 u148 u149 u150 u151 u152 u153 u154 u155 u156 u157 u158 u159 u160 u161 u162 u163 u164 u165 u166 u167 u168 u169 u170 u171 u172 u173 u174 u175 u176 u177 u178 u179 u180 u181 u182 u183 u184 u185 u186 u187 u188 u189 u190 u191 u192 u193 u194 u195 u196 u197 wy h => hK2 _ _ (Met.intro (hJ _ _ ⟨u9, u10, u21, u22, u23, u24, u25, u26, u27, u28, u29, u30, u31, u32, u33, u34, u35, u36, u37, u38, u39, u40, u41, u42, u43, u44, u45, u46, u47, u48, u49, u50, u51, u52, u53, u54, u55, u56, u57, u58, u59, u60, u61, u62, u63, u64, u65, u66, u67, u68, u69, u70, u71, u72, u73, u74, u75, u76, u77, u78, u79, u80, u81, u82, u83, u84, u85, u86, u87, u88, u89, u90, u91, u92, u93, u94, u95, u96, u97, u98, u99, u100, u101, u102, u103, u104, u105, u106, u107, u108, u109, u110, u111, u112, u113, u114, u115, u116, u117, u118, u119, u120, u121, u122, u123, u124, u125, u126, u127, u128, u129, u130, u131, u132, u133, u134, u135, u136, u137, u138, u139, u140, u141, u142, u143, u144, u145, u146, u147, u148, u149, u150, u151, u152, u153, u154, u155, u156, u157, u158, u159, u160, u161, u162, u163, u164, u165, u166, u167, u168, u169, u170, u171, u172, u173, u174, u175, u176, u177, u178, u179, u180, u181, u182, u183, u184, u185, u186, u187, u188, u189, u190, u191, u192, u193, u194, u195, u196, u197, ⟨h.1, h.2⟩, rfl⟩))))
        · exact sw2 d cb ob rg nn kk w8 _ rfl _ _ _ _ _ _ _ _ _ _ _ _ _ _ _ _ _ _ _ _ _ _ _ _ _ _ _ _ _ _ _ _ _ _ _ _ _ _ _ _ _ _ _ _ _ _ _ _ _ _ _ _ _ _ _ _ _ _ _ _ _ _ _ _ _ _ _ _ _ _ _ _ _ _ _ _ _ _ _ _ _ _ _ _ _ _ _ _ _ _ _ _ _ _ _ _ _ _ _ _ _ _ _ _ _ _ _ _ _ _ _ _ _ _ _ _ _ _ _ _ _ _ _ _ _ _ _ _ _ _ _ _ _ _ _ _ _ _ _ _ _ _ _ _ _ _ _ _ _ _ _ _ _ _ _ _ _ _ _ _ _ _ _ _ _ _ _ _ _ _ _ _ _ _ _ _ _ _ _ _ _ _ _ _ _ _ _ _ _ _ _ _ _ _ _ _ _ _ _ _ _ _ _ K2 _ hg1 hg2 hn1 hn2 hlt hob0 HRS HK0 (Lib.hid (fun u9 u10 u21 u22 u23 u24 u25 u26 u27 u28 u29 u30 u31 u32 u33 u34 u35 u36 u37 u38 u39 u40 u41 u42 u43 u44 u45 u46 u47 u48 u49 u50 u51 u52 u53 u54 u55 u56 u57 u58 u59 u60 u61 u62 u63 u64 u65 u66 u67 u68 u69 u70 u71 u72 u73 u74 u75 u76 u77 u78 u79 u80 u81 u82 u83 u84 u85 u86 u87 u88 u89 u90 u91 u92 u93 u94 u95 u96 u97 u98 u99 u100 u101 u102 u103 u104 u105 u106 u107 u108 u109 u110 u111 u112 u113 u114 u115 u116 u117 u118 u119 u120 u121 u122 u123 u124 u125 u126 u127 u128 u129 u130 u131 u132 u133 u134 u135 u136 u137 u138 u139 u140 u141 u142 u143 u144 u145 u146 u147 u148 u149 u150 u151 u152 u153 u154 u155 u156 u157 u158 u159 u160 u161 u162 u163 u164 u165 u166 u167 u168 u169 u170 u171 u172 u173 u174 u175 u176 u177 u178 u179 u180 u181 u182 u183 u184 u185 u186 u187 u188 u189 u190 u191 u192 u193 u194 u195 u196 u197 wy h => hK2 _ _ (Met.intro (hJ _ _ ⟨u9, u10, u21, u22, u23, u24, u25, u26, u27, u28, u29, u30, u31, u32, u33, u34, u35, u36, u37, u38, u39, u40, u41, u42, u43, u44, u45, u46, u47, u48, u49, u50, u51, u52, u53, u54, u55, u56, u57, u58, u59, u60, u61, u62, u63, u64, u65, u66, u67, u68, u69, u70, u71, u72, u73, u74, u75, u76, u77, u78, u79, u80, u81, u82, u83, u84, u85, u86, u87, u88, u89, u90, u91, u92, u93, u94, u95, u96, u97, u98, u99, u100, u101, u102, u103, u104, u105, u106, u107, u108, u109, u110, u111, u112, u113, u114, u115, u116, u117, u118, u119, u120, u121, u122, u123, u124, u125, u126, u127, u128, u129, u130, u131, u132, u133, u134, u135, u136, u137, u138, u139, u140, u141, u142, u143, u144, u145, u146, u147, u148, u149, u150, u151, u152, u153, u154, u155, u156, u157, u158, u159, u160, u161, u162, u163, u164, u165, u166, u167, u168, u169, u170, u171, u172, u173, u174, u175, u176, u177, u178, u179, u180, u181, u182, u183, u184, u185, u186, u187, u188, u189, u190, u191, u192, u193, u194, u195, u196, u197, ⟨h.1, h.2⟩, rfl⟩))))
        · exact sw3 d cb ob rg nn kk w8 _ rfl _ _ _ _ _ _ _ _ _ _ _ _ _ _ _ _ _ _ _ _ _ _ _ _ _ _ _ _ _ _ _ _ _ _ _ _ _ _ _ _ _ _ _ _ _ _ _ _ _ _ _ _ _ _ _ _ _ _ _ _ _ _ _ _ _ _ _ _ _ _ _ _ _ _ _ _ _ _ _ _ _ _ _ _ _ _ _ _ _ _ _ _ _ _ _ _ _ _ _ _ _ _ _ _ _ _ _ _ _ _ _ _ _ _ _ _ _ _ _ _ _ _ _ _ _ _ _ _ _ _ _ _ _ _ _ _ _ _ _ _ _ _ _ _ _ _ _ _ _ _ _ _ _ _ _ _ _ _ _ _ _ _ _ _ _ _ _ _ _ _ _ _ _ _ _ _ _ _ _ _ _ _ _ _ _ _ _ _ _ _ _ _ _ _ _ _ _ _ _ _ _ _ _ K2 _ hg1 hg2 hn1 hn2 hlt hob0 HRS HK0 (Lib.hid (fun u9 u10 u21 u22 u23 u24 u25 u26 u27 u28 u29 u30 u31 u32 u33 u34 u35 u36 u37 u38 u39 u40 u41 u42 u43 u44 u45 u46 u47 u48 u49 u50 u51 u52 u53 u54 u55 u56 u57 u58 u59 u60 u61 u62 u63 u64 u65 u66 u67 u68 u69 u70 u71 u72 u73 u74 u75 u76 u77 u78 u79 u80 u81 u82 u83 u84 u85 u86 u87 u88 u89 u90 u91 u92 u93 u94 u95 u96 u97 u98 u99 u100 u101 u102 u103 u104 u105 u106 u107 u108 u109 u110 u111 u112 u113 u114 u115 u116 u117 u118 u119 u120 u121 u122 u123 u124 u125 u126 u127 u128 u129 u130 u131 u132 u133 u134 u135 u136 u137 u138 u139 u140 u141 u142 u143 u144 u145 u146 u147 u148 u149 u150 u151 u152 u153 u154 u155 u156 u157 u158 u159 u160 u161 u162 u163 u164 u165 u166 u167 u168 u169 u170 u171 u172 u173 u174 u175 u176 u177 u178 u179 u180 u181 u182 u183 u184 u185 u186 u187 u188 u189 u190 u191 u192 u193 u194 u195 u196 u197 wy h => hK2 _ _ (Met.intro (hJ _ _ ⟨u9, u10, u21, u22, u23, u24, u25, u26, u27, u28, u29, u30, u31, u32, u33, u34, u35, u36, u37, u38, u39, u40, u41, u42, u43, u44, u45, u46, u47, u48, u49, u50, u51, u52, u53, u54, u55, u56, u57, u58, u59, u60, u61, u62, u63, u64, u65, u66, u67, u68, u69, u70, u71, u72, u73, u74, u75, u76, u77, u78, u79, u80, u81, u82, u83, u84, u85, u86, u87, u88, u89, u90, u91, u92, u93, u94, u95, u96, u97, u98, u99, u100, u101, u102, u103, u104, u105, u106, u107, u108, u109, u110, u111, u112, u113, u114, u115, u116, u117, u118, u119, u120, u121, u122, u123, u124, u125, u126, u127, u128, u129, u130, u131, u132, u133, u134, u135, u136, u137, u138, u139, u140, u141, u142, u143, u144, u145, u146, u147, u148, u149, u150, u151, u152, u153, u154, u155, u156, u157, u158, u159, u160, u161, u162, u163, u164, u165, u166, u167, u168, u169, u170, u171, u172, u173, u174, u175, u176, u177, u178, u179, u180, u181, u182, u183, u184, u185, u186, u187, u188, u189, u190, u191, u192, u193, u194, u195, u196, u197, ⟨h.1, h.2⟩, rfl⟩))))
        · exact sw4 d cb ob rg nn kk w8 _ rfl _ _ _ _ _ _ _ _ _ _ _ _ _ _ _ _ _ _ _ _ _ _ _ _ _ _ _ _ _ _ _ _ _ _ _ _ _ _ _ _ _ _ _ _ _ _ _ _ _ _ _ _ _ _ _ _ _ _ _ _ _ _ _ _ _ _ _ _ _ _ _ _ _ _ _ _ _ _ _ _ _ _ _ _ _ _ _ _ _ _ _ _ _ _ _ _ _ _ _ _ _ _ _ _ _ _ _ _ _ _ _ _ _ _ _ _ _ _ _ _ _ _ _ _ _ _ _ _ _ _ _ _ _ _ _ _ _ _ _ _ _ _ _ _ _ _ _ _ _ _ _ _ _ _ _ _ _ _ _ _ _ _ _ _ _ _ _ _ _ _ _ _ _ _ _ _ _ _ _ _ _ _ _ _ _ _ _ _ _ _ _ _ _ _ _ _ _ _ _ _ _ _ _ K2 _ hg1 hg2 hn1 hn2 hlt hob0 HRS HK0 (Lib.hid (fun u9 u10 u21 u22 u23 u24 u25 u26 u27 u28 u29 u30 u31 u32 u33 u34 u35 u36 u37 u38 u39 u40 u41 u42 u43 u44 u45 u46 u47 u48 u49 u50 u51 u52 u53 u54 u55 u56 u57 u58 u59 u60 u61 u62 u63 u64 u65 u66 u67 u68 u69 u70 u71 u72 u73 u74 u75 u76 u77 u78 u79 u80 u81 u82 u83 u84 u85 u86 u87 u88 u89 u90 u91 u92 u93 u94 u95 u96 u97 u98 u99 u100 u101 u102 u103 u104 u105 u106 u107 u108 u109 u110 u111 u112 u113 u114 u115 u116 u117 u118 u119 u120 u121 u122 u123 u124 u125 u126 u127 u128 u129 u130 u131 u132 u133 u134 u135 u136 u137 u138 u139 u140 u141 u142 u143 u144 u145 u146 u147 u148 u149 u150 u151 u152 u153 u154 u155 u156 u157 u158 u159 u160 u161 u162 u163 u164 u165 u166 u167 u168 u169 u170 u171 u172 u173 u174 u175 u176 u177 u178 u179 u180 u181 u182 u183 u184 u185 u186 u187 u188 u189 u190 u191 u192 u193 u194 u195 u196 u197 wy h => hK2 _ _ (Met.intro (hJ _ _ ⟨u9, u10, u21, u22, u23, u24, u25, u26, u27, u28, u29, u30, u31, u32, u33, u34, u35, u36, u37, u38, u39, u40, u41, u42, u43, u44, u45, u46, u47, u48, u49, u50, u51, u52, u53, u54, u55, u56, u57, u58, u59, u60, u61, u62, u63, u64, u65, u66, u67, u68, u69, u70, u71, u72, u73, u74, u75, u76, u77, u78, u79, u80, u81, u82, u83, u84, u85, u86, u87, u88, u89, u90, u91, u92, u93, u94, u95, u96, u97, u98, u99, u100, u101, u102, u103, u104, u105, u106, u107, u108, u109, u110, u111, u112, u113, u114, u115, u116, u117, u118, u119, u120, u121, u122, u123, u124, u125, u126, u127, u128, u129, u130, u131, u132, u133, u134, u135, u136, u137, u138, u139, u140, u141, u142, u143, u144, u145, u146, u147, u148, u149, u150, u151, u152, u153, u154, u155, u156, u157, u158, u159, u160, u161, u162, u163, u164, u165, u166, u167, u168, u169, u170, u171, u172, u173, u174, u175, u176, u177, u178, u179, u180, u181, u182, u183, u184, u185, u186, u187, u188, u189, u190, u191, u192, u193, u194, u195, u196, u197, ⟨h.1, h.2⟩, rfl⟩))))
        · exact sw5 d cb ob rg nn kk w8 _ rfl _ _ _ _ _ _ _ _ _ _ _ _ _ _ _ _ _ _ _ _ _ _ _ _ _ _ _ _ _ _ _ _ _ _ _ _ _ _ _ _ _ _ _ _ _ _ _ _ _ _ _ _ _ _ _ _ _ _ _ _ _ _ _ _ _ _ _ _ _ _ _ _ _ _ _ _ _ _ _ _ _ _ _ _ _ _ _ _ _ _ _ _ _ _ _ _ _ _ _ _ _ _ _ _ _ _ _ _ _ _ _ _ _ _ _ _ _ _ _ _ _ _ _ _ _ _ _ _ _ _ _ _ _ _ _ _ _ _ _ _ _ _ _ _ _ _ _ _ _ _ _ _ _ _ _ _ _ _ _ _ _ _ _ _ _ _ _ _ _ _ _ _ _ _ _ _ _ _ _ _ _ _ _ _ _ _ _ _ _ _ _ _ _ _ _ _ _ _ _ _ _ _ _ K2 _ hg1 hg2 hn1 hn2 hlt hob0 HRS HK0 (Lib.hid (fun u9 u10 u21 u22 u23 u24 u25 u26 u27 u28 u29 u30 u31 u32 u33 u34 u35 u36 u37 u38 u39 u40 u41 u42 u43 u44 u45 u46 u47 u48 u49 u50 u51 u52 u53 u54 u55 u56 u57 u58 u59 u60 u61 u62 u63 u64 u65 u66 u67 u68 u69 u70 u71 u72 u73 u74 u75 u76 u77 u78 u79 u80 u81 u82 u83 u84 u85 u86 u87 u88 u89 u90 u91 u92 u93 u94 u95 u96 u97 u98 u99 u100 u101 u102 u103 u104 u105 u106 u107 u108 u109 u110 u111 u112 u113 u114 u115 u116 u117 u118 u119 u120 u121 u122 u123 u124 u125 u126 u127 u128 u129 u130 u131 u132 u133 u134 u135 u136 u137 u138 u139 u140 u141 u142 u143 u144 u145 u146 u147 u148 u149 u150 u151 u152 u153 u154 u155 u156 u157 u158 u159 u160 u161 u162 u163 u164 u165 u166 u167 u168 u169 u170 u171 u172 u173 u174 u175 u176 u177 u178 u179 u180 u181 u182 u183 u184 u185 u186 u187 u188 u189 u190 u191 u192 u193 u194 u195 u196 u197 wy h => hK2 _ _ (Met.intro (hJ _ _ ⟨u9, u10, u21, u22, u23, u24, u25, u26, u27, u28, u29, u30, u31, u32, u33, u34, u35, u36, u37, u38, u39, u40, u41, u42, u43, u44, u45, u46, u47, u48, u49, u50, u51, u52, u53, u54, u55, u56, u57, u58, u59, u60, u61, u62, u63, u64, u65, u66, u67, u68, u69, u70, u71, u72, u73, u74, u75, u76, u77, u78, u79, u80, u81, u82, u83, u84, u85, u86, u87, u88, u89, u90, u91, u92, u93, u94, u95, u96, u97, u98, u99, u100, u101, u102, u103, u104, u105, u106, u107, u108, u109, u110, u111, u112, u113, u114, u115, u116, u117, u118, u119, u120, u121, u122, u123, u124, u125, u126, u127, u128, u129, u130, u131, u132, u133, u134, u135, u136, u137, u138, u139, u140, u141, u142, u143, u144, u145, u146, u147, u148, u149, u150, u151, u152, u153, u154, u155, u156, u157, u158, u159, u160, u161, u162, u163, u164, u165, u166, u167, u168, u169, u170, u171, u172, u173, u174, u175, u176, u177, u178, u179, u180, u181, u182, u183, u184, u185, u186, u187, u188, u189, u190, u191, u192, u193, u194, u195, u196, u197, ⟨h.1, h.2⟩, rfl⟩))))
        · exact sw6 d cb ob rg nn kk w8 _ rfl _ _ _ _ _ _ _ _ _ _ _ _ _ _ _ _ _ _ _ _ _ _ _ _ _ _ _ _ _ _ _ _ _ _ _ _ _ _ _ _ _ _ _ _ _ _ _ _ _ _ _ _ _ _ _ _ _ _ _ _ _ _ _ _ _ _ _ _ _ _ _ _ _ _ _ _ _ _ _ _ _ _ _ _ _ _ _ _ _ _ _ _ _ _ _ _ _ _ _ _ _ _ _ _ _ _ _ _ _ _ _ _ _ _ _ _ _ _ _ _ _ _ _ _ _ _ _ _ _ _ _ _ _ _ _ _ _ _ _ _ _ _ _ _ _ _ _ _ _ _ _ _ _ _ _ _ _ _ _ _ _ _ _ _ _ _ _ _ _ _ _ _ _ _ _ _ _ _ _ _ _ _ _ _ _ _ _ _ _ _ _ _ _ _ _ _ _ _ _ _ _ _ _ K2 _ hg1 hg2 hn1 hn2 hlt hob0 HRS HK0 (Lib.hid (fun u9 u10 u21 u22 u23 u24 u25 u26 u27 u28 u29 u30 u31 u32 u33 u34 u35 u36 u37 u38 u39 u40 u41 u42 u43 u44 u45 u46 u47 u48 u49 u50 u51 u52 u53 u54 u55 u56 u57 u58 u59 u60 u61 u62 u63 u64 u65 u66 u67 u68 u69 u70 u71 u72 u73 u74 u75 u76 u77 u78 u79 u80 u81 u82 u83 u84 u85 u86 u87 u88 u89 u90 u91 u92 u93 u94 u95 u96 u97 u98 u99 u100 u101 u102 u103 u104 u105 u106 u107 u108 u109 u110 u111 u112 u113 u114 u115 u116 u117 u118 u119 u120 u121 u122 u123 u124 u125 u126 u127 u128 u129 u130 u131 u132 u133 u134 u135 u136 u137 u138 u139 u140 u141 u142 u143 u144 u145 u146 u147 u148 u149 u150 u151 u152 u153 u154 u155 u156 u157 u158 u159 u160 u161 u162 u163 u164 u165 u166 u167 u168 u169 u170 u171 u172 u173 u174 u175 u176 u177 u178 u179 u180 u181 u182 u183 u184 u185 u186 u187 u188 u189 u190 u191 u192 u193 u194 u195 u196 u197 wy h => hK2 _ _ (Met.intro (hJ _ _ ⟨u9, u10, u21, u22, u23, u24, u25, u26, u27, u28, u29, u30, u31, u32, u33, u34, u35, u36, u37, u38, u39, u40, u41, u42, u43, u44, u45, u46, u47, u48, u49, u50, u51, u52, u53, u54, u55, u56, u57, u58, u59, u60, u61, u62, u63, u64, u65, u66, u67, u68, u69, u70, u71, u72, u73, u74, u75, u76, u77, u78, u79, u80, u81, u82, u83, u84, u85, u86, u87, u88, u89, u90, u91, u92, u93, u94, u95, u96, u97, u98, u99, u100, u101, u102, u103, u104, u105, u106, u107, u108, u109, u110, u111, u112, u113, u114, u115, u116, u117, u118, u119, u120, u121, u122, u123, u124, u125, u126, u127, u128, u129, u130, u131, u132, u133, u134, u135, u136, u137, u138, u139, u140, u141, u142, u143, u144, u145, u146, u147, u148, u149, u150, u151, u152, u153, u154, u155, u156, u157, u158, u159, u160, u161, u162, u163, u164, u165, u166, u167, u168, u169, u170, u171, u172, u173, u174, u175, u176, u177, u178, u179, u180, u181, u182, u183, u184, u185, u186, u187, u188, u189, u190, u191, u192, u193, u194, u195, u196, u197, ⟨h.1, h.2⟩, rfl⟩))))
        · exact sw7 d cb ob rg nn kk w8 _ rfl _ _ _ _ _ _ _ _ _ _ _ _ _ _ _ _ _ _ _ _ _ _ _ _ _ _ _ _ _ _ _ _ _ _ _ _ _ _ _ _ _ _ _ _ _ _ _ _ _ _ _ _ _ _ _ _ _ _ _ _ _ _ _ _ _ _ _ _ _ _ _ _ _ _ _ _ _ _ _ _ _ _ _ _ _ _ _ _ _ _ _ _ _ _ _ _ _ _ _ _ _ _ _ _ _ _ _ _ _ _ _ _ _ _ _ _ _ _ _ _ _ _ _ _ _ _ _ _ _ _ _ _ _ _ _ _ _ _ _ _ _ _ _ _ _ _ _ _ _ _ _ _ _ _ _ _ _ _ _ _ _ _ _ _ _ _ _ _ _ _ _ _ _ _ _ _ _ _ _ _ _ _ _ _ _ _ _ _ _ _ _ _ _ _ _ _ _ _ _ _ _ _ _ K2 _ hg1 hg2 hn1 hn2 hlt hob0 HRS HK0 (Lib.hid (fun u9 u10 u21 u22 u23 u24 u25 u26 u27 u28 u29 u30 u31 u32 u33 u34 u35 u36 u37 u38 u39 u40 u41 u42 u43 u44 u45 u46 u47 u48 u49 u50 u51 u52 u53 u54 u55 u56 u57 u58 u59 u60 u61 u62 u63 u64 u65 u66 u67 u68 u69 u70 u71 u72 u73 u74 u75 u76 u77 u78 u79 u80 u81 u82 u83 u84 u85 u86 u87 u88 u89 u90 u91 u92 u93 u94 u95 u96 u97 u98 u99 u100 u101 u102 u103 u104 u105 u106 u107 u108 u109 u110 u111 u112 u113 u114 u115 u116 u117 u118 u119 u120 u121 u122 u123 u124 u125 u126 u127 u128 u129 u130 u131 u132 u133 u134 u135 u136 u137 u138 u139 u140 u141 u142 u143 u144 u145 u146 u147 u148 u149 u150 u151 u152 u153 u154 u155 u156 u157 u158 u159 u160 u161 u162 u163 u164 u165 u166 u167 u168 u169 u170 u171 u172 u173 u174 u175 u176 u177 u178 u179 u180 u181 u182 u183 u184 u185 u186 u187 u188 u189 u190 u191 u192 u193 u194 u195 u196 u197 wy h => hK2 _ _ (Met.intro (hJ _ _ ⟨u9, u10, u21, u22, u23, u24, u25, u26, u27, u28, u29, u30, u31, u32, u33, u34, u35, u36, u37, u38, u39, u40, u41, u42, u43, u44, u45, u46, u47, u48, u49, u50, u51, u52, u53, u54, u55, u56, u57, u58, u59, u60, u61, u62, u63, u64, u65, u66, u67, u68, u69, u70, u71, u72, u73, u74, u75, u76, u77, u78, u79, u80, u81, u82, u83, u84, u85, u86, u87, u88, u89, u90, u91, u92, u93, u94, u95, u96, u97, u98, u99, u100, u101, u102, u103, u104, u105, u106, u107, u108, u109, u110, u111, u112, u113, u114, u115, u116, u117, u118, u119, u120, u121, u122, u123, u124, u125, u126, u127, u128, u129, u130, u131, u132, u133, u134, u135, u136, u137, u138, u139, u140, u141, u142, u143, u144, u145, u146, u147, u148, u149, u150, u151, u152, u153, u154, u155, u156, u157, u158, u159, u160, u161, u162, u163, u164, u165, u166, u167, u168, u169, u170, u171, u172, u173, u174, u175, u176, u177, u178, u179, u180, u181, u182, u183, u184, u185, u186, u187, u188, u189, u190, u191, u192, u193, u194, u195, u196, u197, ⟨h.1, h.2⟩, rfl⟩))))
        · exact sw8 d cb ob rg nn kk w8 _ rfl _ _ _ _ _ _ _ _ _ _ _ _ _ _ _ _ _ _ _ _ _ _ _ _ _ _ _ _ _ _ _ _ _ _ _ _ _ _ _ _ _ _ _ _ _ _ _ _ _ _ _ _ _ _ _ _ _ _ _ _ _ _ _ _ _ _ _ _ _ _ _ _ _ _ _ _ _ _ _ _ _ _ _ _ _ _ _ _ _ _ _ _ _ _ _ _ _ _ _ _ _ _ _ _ _ _ _ _ _ _ _ _ _ _ _ _ _ _ _ _ _ _ _ _ _ _ _ _ _ _ _ _ _ _ _ _ _ _ _ _ _ _ _ _ _ _ _ _ _ _ _ _ _ _ _ _ _ _ _ _ _ _ _ _ _ _ _ _ _ _ _ _ _ _ _ _ _ _ _ _ _ _ _ _ _ _ _ _ _ _ _ _ _ _ _ _ _ _ _ _ _ _ _ K2 _ hg1 hg2 hn1 hn2 hlt hob0 HRS HK0 (Lib.hid (fun u9 u10 u21 u22 u23 u24 u25 u26 u27 u28 u29 u30 u31 u32 u33 u34 u35 u36 u37 u38 u39 u40 u41 u42 u43 u44 u45 u46 u47 u48 u49 u50 u51 u52 u53 u54 u55 u56 u57 u58 u59 u60 u61 u62 u63 u64 u65 u66 u67 u68 u69 u70 u71 u72 u73 u74 u75 u76 u77 u78 u79 u80 u81 u82 u83 u84 u85 u86 u87 u88 u89 u90 u91 u92 u93 u94 u95 u96 u97 u98 u99 u100 u101 u102 u103 u104 u105 u106 u107 u108 u109 u110 u111 u112 u113 u114 u115 u116 u117 u118 u119 u120 u121 u122 u123 u124 u125 u126 u127 u128 u129 u130 u131 u132 u133 u134 u135 u136 u137 u138 u139 u140 u141 u142 u143 u144 u145 u146 u147 u148 u149 u150 u151 u152 u153 u154 u155 u156 u157 u158 u159 u160 u161 u162 u163 u164 u165 u166 u167 u168 u169 u170 u171 u172 u173 u174 u175 u176 u177 u178 u179 u180 u181 u182 u183 u184 u185 u186 u187 u188 u189 u190 u191 u192 u193 u194 u195 u196 u197 wy h => hK2 _ _ (Met.intro (hJ _ _ ⟨u9, u10, u21, u22, u23, u24, u25, u26, u27, u28, u29, u30, u31, u32, u33, u34, u35, u36, u37, u38, u39, u40, u41, u42, u43, u44, u45, u46, u47, u48, u49, u50, u51, u52, u53, u54, u55, u56, u57, u58, u59, u60, u61, u62, u63, u64, u65, u66, u67, u68, u69, u70, u71, u72, u73, u74, u75, u76, u77, u78, u79, u80, u81, u82, u83, u84, u85, u86, u87, u88, u89, u90, u91, u92, u93, u94, u95, u96, u97, u98, u99, u100, u101, u102, u103, u104, u105, u106, u107, u108, u109, u110, u111, u112, u113, u114, u115, u116, u117, u118, u119, u120, u121, u122, u123, u124, u125, u126, u127, u128, u129, u130, u131, u132, u133, u134, u135, u136, u137, u138, u139, u140, u141, u142, u143, u144, u145, u146, u147, u148, u149, u150, u151, u152, u153, u154, u155, u156, u157, u158, u159, u160, u161, u162, u163, u164, u165, u166, u167, u168, u169, u170, u171, u172, u173, u174, u175, u176, u177, u178, u179, u180, u181, u182, u183, u184, u185, u186, u187, u188, u189, u190, u191, u192, u193, u194, u195, u196, u197, ⟨h.1, h.2⟩, rfl⟩))))
        · exact sw9 d cb ob rg nn kk w8 _ rfl _ _ _ _ _ _ _ _ _ _ _ _ _ _ _ _ _ _ _ _ _ _ _ _ _ _ _ _ _ _ _ _ _ _ _ _ _ _ _ _ _ _ _ _ _ _ _ _ _ _ _ _ _ _ _ _ _ _ _ _ _ _ _ _ _ _ _ _ _ _ _ _ _ _ _ _ _ _ _ _ _ _ _ _ _ _ _ _ _ _ _ _ _ _ _ _ _ _ _ _ _ _ _ _ _ _ _ _ _ _ _ _ _ _ _ _ _ _ _ _ _ _ _ _ _ _ _ _ _ _ _ _ _ _ _ _ _ _ _ _ _ _ _ _ _ _ _ _ _ _ _ _ _ _ _ _ _ _ _ _ _ _ _ _ _ _ _ _ _ _ _ _ _ _ _ _ _ _ _ _ _ _ _ _ _ _ _ _ _ _ _ _ _ _ _ _ _ _ _ _ _ _ _ K2 _ hg1 hg2 hn1 hn2 hlt hob0 HRS HK0 (Lib.hid (fun u9 u10 u21 u22 u23 u24 u25 u26 u27 u28 u29 u30 u31 u32 u33 u34 u35 u36 u37 u38 u39 u40 u41 u42 u43 u44 u45 u46 u47 u48 u49 u50 u51 u52 u53 u54 u55 u56 u57 u58 u59 u60 u61 u62 u63 u64 u65 u66 u67 u68 u69 u70 u71 u72 u73 u74 u75 u76 u77 u78 u79 u80 u81 u82 u83 u84 u85 u86 u87 u88 u89 u90 u91 u92 u93 u94 u95 u96 u97 u98 u99 u100 u101 u102 u103 u104 u105 u106 u107 u108 u109 u110 u111 u112 u113 u114 u115 u116 u117 u118 u119 u120 u121 u122 u123 u124 u125 u126 u127 u128 u129 u130 u131 u132 u133 u134 u135 u136 u137 u138 u139 u140 u141 u142 u143 u144 u145 u146 u147 u148 u149 u150 u151 u152 u153 u154 u155 u156 u157 u158 u159 u160 u161 u162 u163 u164 u165 u166 u167 u168 u169 u170 u171 u172 u173 u174 u175 u176 u177 u178 u179 u180 u181 u182 u183 u184 u185 u186 u187 u188 u189 u190 u191 u192 u193 u194 u195 u196 u197 wy h => hK2 _ _ (Met.intro (hJ _ _ ⟨u9, u10, u21, u22, u23, u24, u25, u26, u27, u28, u29, u30, u31, u32, u33, u34, u35, u36, u37, u38, u39, u40, u41, u42, u43, u44, u45, u46, u47, u48, u49, u50, u51, u52, u53, u54, u55, u56, u57, u58, u59, u60, u61, u62, u63, u64, u65, u66, u67, u68, u69, u70, u71, u72, u73, u74, u75, u76, u77, u78, u79, u80, u81, u82, u83, u84, u85, u86, u87, u88, u89, u90, u91, u92, u93, u94, u95, u96, u97, u98, u99, u100, u101, u102, u103, u104, u105, u106, u107, u108, u109, u110, u111, u112, u113, u114, u115, u116, u117, u118, u119, u120, u121, u122, u123, u124, u125, u126, u127, u128, u129, u130, u131, u132, u133, u134, u135, u136, u137, u138, u139, u140, u141, u142, u143, u144, u145, u146, u147, u148, u149, u150, u151, u152, u153, u154, u155, u156, u157, u158, u159, u160, u161, u162, u163, u164, u165, u166, u167, u168, u169, u170, u171, u172, u173, u174, u175, u176, u177, u178, u179, u180, u181, u182, u183, u184, u185, u186, u187, u188, u189, u190, u191, u192, u193, u194, u195, u196, u197, ⟨h.1, h.2⟩, rfl⟩))))
        · exact sw10 d cb ob rg nn kk w8 _ rfl _ _ _ _ _ _ _ _ _ _ _ _ _ _ _ _ _ _ _ _ _ _ _ _ _ _ _ _ _ _ _ _ _ _ _ _ _ _ _ _ _ _ _ _ _ _ _ _ _ _ _ _ _ _ _ _ _ _ _ _ _ _ _ _ _ _ _ _ _ _ _ _ _ _ _ _ _ _ _ _ _ _ _ _ _ _ _ _ _ _ _ _ _ _ _ _ _ _ _ _ _ _ _ _ _ _ _ _ _ _ _ _ _ _ _ _ _ _ _ _ _ _ _ _ _ _ _ _ _ _ _ _ _ _ _ _ _ _ _ _ _ _ _ _ _ _ _ _ _ _ _ _ _ _ _ _ _ _ _ _ _ _ _ _ _ _ _ _ _ _ _ _ _ _ _ _ _ _ _ _ _ _ _ _ _ _ _ _ _ _ _ _ _ _ _ _ _ _ _ _ _ _ _ K2 _ hg1 hg2 hn1 hn2 hlt hob0 HRS HK0 (Lib.hid (fun u9 u10 u21 u22 u23 u24 u25 u26 u27 u28 u29 u30 u31 u32 u33 u34 u35 u36 u37 u38 u39 u40 u41 u42 u43 u44 u45 u46 u47 u48 u49 u50 u51 u52 u53 u54 u55 u56 u57 u58 u59 u60 u61 u62 u63 u64 u65 u66 u67 u68 u69 u70 u71 u72 u73 u74 u75 u76 u77 u78 u79 u80 u81 u82 u83 u84 u85 u86 u87 u88 u89 u90 u91 u92 u93 u94 u95 u96 u97 u98 u99 u100 u101 u102 u103 u104 u105 u106 u107 u108 u109 u110 u111 u112 u113 u114 u115 u116 u117 u118 u119 u120 u121 u122 u123 u124 u125 u126 u127 u128 u129 u130 u131 u132 u133 u134 u135 u136 u137 u138 u139 u140 u141 u142 u143 u144 u145 u146 u147 u148 u149 u150 u151 u152 u153 u154 u155 u156 u157 u158 u159 u160 u161 u162 u163 u164 u165 u166 u167 u168 u169 u170 u171 u172 u173 u174 u175 u176 u177 u178 u179 u180 u181 u182 u183 u184 u185 u186 u187 u188 u189 u190 u191 u192 u193 u194 u195 u196 u197 wy h => hK2 _ _ (Met.intro (hJ _ _ ⟨u9, u10, u21, u22, u23, u24, u25, u26, u27, u28, u29, u30, u31, u32, u33, u34, u35, u36, u37, u38, u39, u40, u41, u42, u43, u44, u45, u46, u47, u48, u49, u50, u51, u52, u53, u54, u55, u56, u57, u58, u59, u60, u61, u62, u63, u64, u65, u66, u67, u68, u69, u70, u71, u72, u73, u74, u75, u76, u77, u78, u79, u80, u81, u82, u83, u84, u85, u86, u87, u88, u89, u90, u91, u92, u93, u94, u95, u96, u97, u98, u99, u100, u101, u102, u103, u104, u105, u106, u107, u108, u109, u110, u111, u112, u113, u114, u115, u116, u117, u118, u119, u120, u121, u122, u123, u124, u125, u126, u127, u128, u129, u130, u131, u132, u133, u134, u135, u136, u137, u138, u139, u140, u141, u142, u143, u144, u145, u146, u147, u148, u149, u150, u151, u152, u153, u154, u155, u156, u157, u158, u159, u160, u161, u162, u163, u164, u165, u166, u167, u168, u169, u170, u171, u172, u173, u174, u175, u176, u177, u178, u179, u180, u181, u182, u183, u184, u185, u186, u187, u188, u189, u190, u191, u192, u193, u194, u195, u196, u197, ⟨h.1, h.2⟩, rfl⟩))))
        · exact sw11 d cb ob rg nn kk w8 _ rfl _ _ _ _ _ _ _ _ _ _ _ _ _ _ _ _ _ _ _ _ _ _ _ _ _ _ _ _ _ _ _ _ _ _ _ _ _ _ _ _ _ _ _ _ _ _ _ _ _ _ _ _ _ _ _ _ _ _ _ _ _ _ _ _ _ _ _ _ _ _ _ _ _ _ _ _ _ _ _ _ _ _ _ _ _ _ _ _ _ _ _ _ _ _ _ _ _ _ _ _ _ _ _ _ _ _ _ _ _ _ _ _ _ _ _ _ _ _ _ _ _ _ _ _ _ _ _ _ _ _ _ _ _ _ _ _ _ _ _ _ _ _ _ _ _ _ _ _ _ _ _ _ _ _ _ _ _ _ _ _ _ _ _ _ _ _ _ _ _ _ _ _ _ _ _ _ _ _ _ _ _ _ _ _ _ _ _ _ _ _ _ _ _ _ _ _ _ _ _ _ _ _ _ K2 _ hg1 hg2 hn1 hn2 hlt hob0 HRS HK0 (Lib.hid (fun u9 u10 u21 u22 u23 u24 u25 u26 u27 u28 u29 u30 u31 u32 u33 u34 u35 u36 u37 u38 u39 u40 u41 u42 u43 u44 u45 u46 u47 u48 u49 u50 u51 u52 u53 u54 u55 u56 u57 u58 u59 u60 u61 u62 u63 u64 u65 u66 u67 u68 u69 u70 u71 u72 u73 u74 u75 u76 u77 u78 u79 u80 u81 u82 u83 u84 u85 u86 u87 u88 u89 u90 u91 u92 u93 u94 u95 u96 u97 u98 u99 u100 u101 u102 u103 u104 u105 u106 u107 u108 u109 u110 u111 u112 u113 u114 u115 u116 u117 u118 u119 u120 u121 u122 u123 u124 u125 u126 u127 u128 u129 u130 u131 u132 u133 u134 u135 u136 u137 u138 u139 u140 u141 u142 u143 u144 u145 u146 u147 u148 u149 u150 u151 u152 u153 u154 u155 u156 u157 u158 u159 u160 u161 u162 u163 u164 u165 u166 u167 u168 u169 u170 u171 u172 u173 u174 u175 u176 u177 u178 u179 u180 u181 u182 u183 u184 u185 u186 u187 u188 u189 u190 u191 u192 u193 u194 u195 u196 u197 wy h => hK2 _ _ (Met.intro (hJ _ _ ⟨u9, u10, u21, u22, u23, u24, u25, u26, u27, u28, u29, u30, u31, u32, u33, u34, u35, u36, u37, u38, u39, u40, u41, u42, u43, u44, u45, u46, u47, u48, u49, u50, u51, u52, u53, u54, u55, u56, u57, u58, u59, u60, u61, u62, u63, u64, u65, u66, u67, u68, u69, u70, u71, u72, u73, u74, u75, u76, u77, u78, u79, u80, u81, u82, u83, u84, u85, u86, u87, u88, u89, u90, u91, u92, u93, u94, u95, u96, u97, u98, u99, u100, u101, u102, u103, u104, u105, u106, u107, u108, u109, u110, u111, u112, u113, u114, u115, u116, u117, u118, u119, u120, u121, u122, u123, u124, u125, u126, u127, u128, u129, u130, u131, u132, u133, u134, u135, u136, u137, u138, u139, u140, u141, u142, u143, u144, u145, u146, u147, u148, u149, u150, u151, u152, u153, u154, u155, u156, u157, u158, u159, u160, u161, u162, u163, u164, u165, u166, u167, u168, u169, u170, u171, u172, u173, u174, u175, u176, u177, u178, u179, u180, u181, u182, u183, u184, u185, u186, u187, u188, u189, u190, u191, u192, u193, u194, u195, u196, u197, ⟨h.1, h.2⟩, rfl⟩))))
        · exact sw12 d cb ob rg nn kk w8 _ rfl _ _ _ _ _ _ _ _ _ _ _ _ _ _ _ _ _ _ _ _ _ _ _ _ _ _ _ _ _ _ _ _ _ _ _ _ _ _ _ _ _ _ _ _ _ _ _ _ _ _ _ _ _ _ _ _ _ _ _ _ _ _ _ _ _ _ _ _ _ _ _ _ _ _ _ _ _ _ _ _ _ _ _ _ _ _ _ _ _ _ _ _ _ _ _ _ _ _ _ _ _ _ _ _ _ _ _ _ _ _ _ _ _ _ _ _ _ _ _ _ _ _ _ _ _ _ _ _ _ _ _ _ _ _ _ _ _ _ _ _ _ _ _ _ _ _ _ _ _ _ _ _ _ _ _ _ _ _ _ _ _ _ _ _ _ _ _ _ _ _ _ _ _ _ _ _ _ _ _ _ _ _ _ _ _ _ _ _ _ _ _ _ _ _ _ _ _ _ _ _ _ _ _ K2 _ hg1 hg2 hn1 hn2 hlt hob0 HRS HK0 (Lib.hid (fun u9 u10 u21 u22 u23 u24 u25 u26 u27 u28 u29 u30 u31 u32 u33 u34 u35 u36 u37 u38 u39 u40 u41 u42 u43 u44 u45 u46 u47 u48 u49 u50 u51 u52 u53 u54 u55 u56 u57 u58 u59 u60 u61 u62 u63 u64 u65 u66 u67 u68 u69 u70 u71 u72 u73 u74 u75 u76 u77 u78 u79 u80 u81 u82 u83 u84 u85 u86 u87 u88 u89 u90 u91 u92 u93 u94 u95 u96 u97 u98 u99 u100 u101 u102 u103 u104 u105 u106 u107 u108 u109 u110 u111 u112 u113 u114 u115 u116 u117 u118 u119 u120 u121 u122 u123 u124 u125 u126 u127 u128 u129 u130 u131 u132 u133 u134 u135 u136 u137 u138 u139 u140 u141 u142 u143 u144 u145 u146 u147 u148 u149 u150 u151 u152 u153 u154 u155 u156 u157 u158 u159 u160 u161 u162 u163 u164 u165 u166 u167 u168 u169 u170 u171 u172 u173 u174 u175 u176 u177 u178 u179 u180 u181 u182 u183 u184 u185 u186 u187 u188 u189 u190 u191 u192 u193 u194 u195 u196 u197 wy h => hK2 _ _ (Met.intro (hJ _ _ ⟨u9, u10, u21, u22, u23, u24, u25, u26, u27, u28, u29, u30, u31, u32, u33, u34, u35, u36, u37, u38, u39, u40, u41, u42, u43, u44, u45, u46, u47, u48, u49, u50, u51, u52, u53, u54, u55, u56, u57, u58, u59, u60, u61, u62, u63, u64, u65, u66, u67, u68, u69, u70, u71, u72, u73, u74, u75, u76, u77, u78, u79, u80, u81, u82, u83, u84, u85, u86, u87, u88, u89, u90, u91, u92, u93, u94, u95, u96, u97, u98, u99, u100, u101, u102, u103, u104, u105, u106, u107, u108, u109, u110, u111, u112, u113, u114, u115, u116, u117, u118, u119, u120, u121, u122, u123, u124, u125, u126, u127, u128, u129, u130, u131, u132, u133, u134, u135, u136, u137, u138, u139, u140, u141, u142, u143, u144, u145, u146, u147, u148, u149, u150, u151, u152, u153, u154, u155, u156, u157, u158, u159, u160, u161, u162, u163, u164, u165, u166, u167, u168, u169, u170, u171, u172, u173, u174, u175, u176, u177, u178, u179, u180, u181, u182, u183, u184, u185, u186, u187, u188, u189, u190, u191, u192, u193, u194, u195, u196, u197, ⟨h.1, h.2⟩, rfl⟩))))
        · exact sw13 d cb ob rg nn kk w8 _ rfl _ _ _ _ _ _ _ _ _ _ _ _ _ _ _ _ _ _ _ _ _ _ _ _ _ _ _ _ _ _ _ _ _ _ _ _ _ _ _ _ _ _ _ _ _ _ _ _ _ _ _ _ _ _ _ _ _ _ _ _ _ _ _ _ _ _ _ _ _ _ _ _ _ _ _ _ _ _ _ _ _ _ _ _ _ _ _ _ _ _ _ _ _ _ _ _ _ _ _ _ _ _ _ _ _ _ _ _ _ _ _ _ _ _ _ _ _ _ _ _ _ _ _ _ _ _ _ _ _ _ _ _ _ _ _ _ _ _ _ _ _ _ _ _ _ _ _ _ _ _ _ _ _ _ _ _ _ _ _ _ _ _ _ _ _ _ _ _ _ _ _ _ _ _ _ _ _ _ _ _ _ _ _ _ _ _ _ _ _ _ _ _ _ _ _ _ _ _ _ _ _ _ _ K2 _ hg1 hg2 hn1 hn2 hlt hob0 HRS HK0 (Lib.hid (fun u9 u10 u21 u22 u23 u24 u25 u26 u27 u28 u29 u30 u31 u32 u33 u34 u35 u36 u37 u38 u39 u40 u41 u42 u43 u44 u45 u46 u47 u48 u49 u50 u51 u52 u53 u54 u55 u56 u57 u58 u59 u60 u61 u62 u63 u64 u65 u66 u67 u68 u69 u70 u71 u72 u73 u74 u75 u76 u77 u78 u79 u80 u81 u82 u83 u84 u85 u86 u87 u88 u89 u90 u91 u92 u93 u94 u95 u96 u97 u98 u99 u100 u101 u102 u103 u104 u105 u106 u107 u108 u109 u110 u111 u112 u113 u114 u115 u116 u117 u118 u119 u120 u121 u122 u123 u124 u125 u126 u127 u128 u129 u130 u131 u132 u133 u134 u135 u136 u137 u138 u139 u140 u141 u142 u143 u144 u145 u146 u147 u148 u149 u150 u151 u152 u153 u154 u155 u156 u157 u158 u159 u160 u161 u162 u163 u164 u165 u166 u167 u168 u169 u170 u171 u172 u173 u174 u175 u176 u177 u178 u179 u180 u181 u182 u183 u184 u185 u186 u187 u188 u189 u190 u191 u192 u193 u194 u195 u196 u197 wy h => hK2 _ _ (Met.intro (hJ _ _ ⟨u9, u10, u21, u22, u23, u24, u25, u26, u27, u28, u29, u30, u31, u32, u33, u34, u35, u36, u37, u38, u39, u40, u41, u42, u43, u44, u45, u46, u47, u48, u49, u50, u51, u52, u53, u54, u55, u56, u57, u58, u59, u60, u61, u62, u63, u64, u65, u66, u67, u68, u69, u70, u71, u72, u73, u74, u75, u76, u77, u78, u79, u80, u81, u82, u83, u84, u85, u86, u87, u88, u89, u90, u91, u92, u93, u94, u95, u96, u97, u98, u99, u100, u101, u102, u103, u104, u105, u106, u107, u108, u109, u110, u111, u112, u113, u114, u115, u116, u117, u118, u119, u120, u121, u122, u123, u124, u125, u126, u127, u128, u129, u130, u131, u132, u133, u134, u135, u136, u137, u138, u139, u140, u141, u142, u143, u144, u145, u146, u147, u148, u149, u150, u151, u152, u153, u154, u155, u156, u157, u158, u159, u160, u161, u162, u163, u164, u165, u166, u167, u168, u169, u170, u171, u172, u173, u174, u175, u176, u177, u178, u179, u180, u181, u182, u183, u184, u185, u186, u187, u188, u189, u190, u191, u192, u193, u194, u195, u196, u197, ⟨h.1, h.2⟩, rfl⟩))))
        · exact sw14 d cb ob rg nn kk w8 _ rfl _ _ _ _ _ _ _ _ _ _ _ _ _ _ _ _ _ _ _ _ _ _ _ _ _ _ _ _ _ _ _ _ _ _ _ _ _ _ _ _ _ _ _ _ _ _ _ _ _ _ _ _ _ _ _ _ _ _ _ _ _ _ _ _ _ _ _ _ _ _ _ _ _ _ _ _ _ _ _ _ _ _ _ _ _ _ _ _ _ _ _ _ _ _ _ _ _ _ _ _ _ _ _ _ _ _ _ _ _ _ _ _ _ _ _ _ _ _ _ _ _ _ _ _ _ _ _ _ _ _ _ _ _ _ _ _ _ _ _ _ _ _ _ _ _ _ _ _ _ _ _ _ _ _ _ _ _ _ _ _ _ _ _ _ _ _ _ _ _ _ _ _ _ _ _ _ _ _ _ _ _ _ _ _ _ _ _ _ _ _ _ _ _ _ _ _ _ _ _ _ _ _ _ K2 _ hg1 hg2 hn1 hn2 hlt hob0 HRS HK0 (Lib.hid (fun u9 u10 u21 u22 u23 u24 u25 u26 u27 u28 u29 u30 u31 u32 u33 u34 u35 u36 u37 u38 u39 u40 u41 u42 u43 u44 u45 u46 u47 u48 u49 u50 u51 u52 u53 u54 u55 u56 u57 u58 u59 u60 u61 u62 u63 u64 u65 u66 u67 u68 u69 u70 u71 u72 u73 u74 u75 u76 u77 u78 u79 u80 u81 u82 u83 u84 u85 u86 u87 u88 u89 u90 u91 u92 u93 u94 u95 u96 u97 u98 u99 u100 u101 u102 u103 u104 u105 u106 u107 u108 u109 u110 u111 u112 u113 u114 u115 u116 u117 u118 u119 u120 u121 u122 u123 u124 u125 u126 u127 u128 u129 u130 u131 u132 u133 u134 u135 u136 u137 u138 u139 u140 u141 u142 u143 u144 u145 u146 u147 u148 u149 u150 u151 u152 u153 u154 u155 u156 u157 u158 u159 u160 u161 u162 u163 u164 u165 u166 u167 u168 u169 u170 u171 u172 u173 u174 u175 u176 u177 u178 u179 u180 u181 u182 u183 u184 u185 u186 u187 u188 u189 u190 u191 u192 u193 u194 u195 u196 u197 wy h => hK2 _ _ (Met.intro (hJ _ _ ⟨u9, u10, u21, u22, u23, u24, u25, u26, u27, u28, u29, u30, u31, u32, u33, u34, u35, u36, u37, u38, u39, u40, u41, u42, u43, u44, u45, u46, u47, u48, u49, u50, u51, u52, u53, u54, u55, u56, u57, u58, u59, u60, u61, u62, u63, u64, u65, u66, u67, u68, u69, u70, u71, u72, u73, u74, u75, u76, u77, u78, u79, u80, u81, u82, u83, u84, u85, u86, u87, u88, u89, u90, u91, u92, u93, u94, u95, u96, u97, u98, u99, u100, u101, u102, u103, u104, u105, u106, u107, u108, u109, u110, u111, u112, u113, u114, u115, u116, u117, u118, u119, u120, u121, u122, u123, u124, u125, u126, u127, u128, u129, u130, u131, u132, u133, u134, u135, u136, u137, u138, u139, u140, u141, u142, u143, u144, u145, u146, u147, u148, u149, u150, u151, u152, u153, u154, u155, u156, u157, u158, u159, u160, u161, u162, u163, u164, u165, u166, u167, u168, u169, u170, u171, u172, u173, u174, u175, u176, u177, u178, u179, u180, u181, u182, u183, u184, u185, u186, u187, u188, u189, u190, u191, u192, u193, u194, u195, u196, u197, ⟨h.1, h.2⟩, rfl⟩))))
        · exact sw15 d cb ob rg nn kk w8 _ rfl _ _ _ _ _ _ _ _ _ _ _ _ _ _ _ _ _ _ _ _ _ _ _ _ _ _ _ _ _ _ _ _ _ _ _ _ _ _ _ _ _ _ _ _ _ _ _ _ _ _ _ _ _ _ _ _ _ _ _ _ _ _ _ _ _ _ _ _ _ _ _ _ _ _ _ _ _ _ _ _ _ _ _ _ _ _ _ _ _ _ _ _ _ _ _ _ _ _ _ _ _ _ _ _ _ _ _ _ _ _ _ _ _ _ _ _ _ _ _ _ _ _ _ _ _ _ _ _ _ _ _ _ _ _ _ _ _ _ _ _ _ _ _ _ _ _ _ _ _ _ _ _ _ _ _ _ _ _ _ _ _ _ _ _ _ _ _ _ _ _ _ _ _ _ _ _ _ _ _ _ _ _ _ _ _ _ _ _ _ _ _ _ _ _ _ _ _ _ _ _ _ _ _ K2 _ hg1 hg2 hn1 hn2 hlt hob0 HRS HK0 (Lib.hid (fun u9 u10 u21 u22 u23 u24 u25 u26 u27 u28 u29 u30 u31 u32 u33 u34 u35 u36 u37 u38 u39 u40 u41 u42 u43 u44 u45 u46 u47 u48 u49 u50 u51 u52 u53 u54 u55 u56 u57 u58 u59 u60 u61 u62 u63 u64 u65 u66 u67 u68 u69 u70 u71 u72 u73 u74 u75 u76 u77 u78 u79 u80 u81 u82 u83 u84 u85 u86 u87 u88 u89 u90 u91 u92 u93 u94 u95 u96 u97 u98 u99 u100 u101 u102 u103 u104 u105 u106 u107 u108 u109 u110 u111 u112 u113 u114 u115 u116 u117 u118 u119 u120 u121 u122 u123 u124 u125 u126 u127 u128 u129 u130 u131 u132 u133 u134 u135 u136 u137 u138 u139 u140 u141 u142 u143 u144 u145 u146 u147 u148 u149 u150 u151 u152 u153 u154 u155 u156 u157 u158 u159 u160 u161 u162 u163 u164 u165 u166 u167 u168 u169 u170 u171 u172 u173 u174 u175 u176 u177 u178 u179 u180 u181 u182 u183 u184 u185 u186 u187 u188 u189 u190 u191 u192 u193 u194 u195 u196 u197 wy h => hK2 _ _ (Met.intro (hJ _ _ ⟨u9, u10, u21, u22, u23, u24, u25, u26, u27, u28, u29, u30, u31, u32, u33, u34, u35, u36, u37, u38, u39, u40, u41, u42, u43, u44, u45, u46, u47, u48, u49, u50, u51, u52, u53, u54, u55, u56, u57, u58, u59, u60, u61, u62, u63, u64, u65, u66, u67, u68, u69, u70, u71, u72, u73, u74, u75, u76, u77, u78, u79, u80, u81, u82, u83, u84, u85, u86, u87, u88, u89, u90, u91, u92, u93, u94, u95, u96, u97, u98, u99, u100, u101, u102, u103, u104, u105, u106, u107, u108, u109, u110, u111, u112, u113, u114, u115, u116, u117, u118, u119, u120, u121, u122, u123, u124, u125, u126, u127, u128, u129, u130, u131, u132, u133, u134, u135, u136, u137, u138, u139, u140, u141, u142, u143, u144, u145, u146, u147, u148, u149, u150, u151, u152, u153, u154, u155, u156, u157, u158, u159, u160, u161, u162, u163, u164, u165, u166, u167, u168, u169, u170, u171, u172, u173, u174, u175, u176, u177, u178, u179, u180, u181, u182, u183, u184, u185, u186, u187, u188, u189, u190, u191, u192, u193, u194, u195, u196, u197, ⟨h.1, h.2⟩, rfl⟩))))
        · exact sw16 d cb ob rg nn kk w8 _ rfl _ _ _ _ _ _ _ _ _ _ _ _ _ _ _ _ _ _ _ _ _ _ _ _ _ _ _ _ _ _ _ _ _ _ _ _ _ _ _ _ _ _ _ _ _ _ _ _ _ _ _ _ _ _ _ _ _ _ _ _ _ _ _ _ _ _ _ _ _ _ _ _ _ _ _ _ _ _ _ _ _ _ _ _ _ _ _ _ _ _ _ _ _ _ _ _ _ _ _ _ _ _ _ _ _ _ _ _ _ _ _ _ _ _ _ _ _ _ _ _ _ _ _ _ _ _ _ _ _ _ _ _ _ _ _ _ _ _ _ _ _ _ _ _ _ _ _ _ _ _ _ _ _ _ _ _ _ _ _ _ _ _ _ _ _ _ _ _ _ _ _ _ _ _ _ _ _ _ _ _ _ _ _ _ _ _ _ _ _ _ _ _ _ _ _ _ _ _ _ _ _ _ _ K2 _ hg1 hg2 hn1 hn2 hlt hob0 HRS HK0 (Lib.hid (fun u9 u10 u21 u22 u23 u24 u25 u26 u27 u28 u29 u30 u31 u32 u33 u34 u35 u36 u37 u38 u39 u40 u41 u42 u43 u44 u45 u46 u47 u48 u49 u50 u51 u52 u53 u54 u55 u56 u57 u58 u59 u60 u61 u62 u63 u64 u65 u66 u67 u68 u69 u70 u71 u72 u73 u74 u75 u76 u77 u78 u79 u80 u81 u82 u83 u84 u85 u86 u87 u88 u89 u90 u91 u92 u93 u94 u95 u96 u97 u98 u99 u100 u101 u102 u103 u104 u105 u106 u107 u108 u109 u110 u111 u112 u113 u114 u115 u116 u117 u118 u119 u120 u121 u122 u123 u124 u125 u126 u127 u128 u129 u130 u131 u132 u133 u134 u135 u136 u137 u138 u139 u140 u141 u142 u143 u144 u145 u146 u147 u148 u149 u150 u151 u152 u153 u154 u155 u156 u157 u158 u159 u160 u161 u162 u163 u164 u165 u166 u167 u168 u169 u170 u171 u172 u173 u174 u175 u176 u177 u178 u179 u180 u181 u182 u183 u184 u185 u186 u187 u188 u189 u190 u191 u192 u193 u194 u195 u196 u197 wy h => hK2 _ _ (Met.intro (hJ _ _ ⟨u9, u10, u21, u22, u23, u24, u25, u26, u27, u28, u29, u30, u31, u32, u33, u34, u35, u36, u37, u38, u39, u40, u41, u42, u43, u44, u45, u46, u47, u48, u49, u50, u51, u52, u53, u54, u55, u56, u57, u58, u59, u60, u61, u62, u63, u64, u65, u66, u67, u68, u69, u70, u71, u72, u73, u74, u75, u76, u77, u78, u79, u80, u81, u82, u83, u84, u85, u86, u87, u88, u89, u90, u91, u92, u93, u94, u95, u96, u97, u98, u99, u100, u101, u102, u103, u104, u105, u106, u107, u108, u109, u110, u111, u112, u113, u114, u115, u116, u117, u118, u119, u120, u121, u122, u123, u124, u125, u126, u127, u128, u129, u130, u131, u132, u133, u134, u135, u136, u137, u138, u139, u140, u141, u142, u143, u144, u145, u146, u147, u148, u149, u150, u151, u152, u153, u154, u155, u156, u157, u158, u159, u160, u161, u162, u163, u164, u165, u166, u167, u168, u169, u170, u171, u172, u173, u174, u175, u176, u177, u178, u179, u180, u181, u182, u183, u184, u185, u186, u187, u188, u189, u190, u191, u192, u193, u194, u195, u196, u197, ⟨h.1, h.2⟩, rfl⟩))))
        · exact sw17 d cb ob rg nn kk w8 _ rfl _ _ _ _ _ _ _ _ _ _ _ _ _ _ _ _ _ _ _ _ _ _ _ _ _ _ _ _ _ _ _ _ _ _ _ _ _ _ _ _ _ _ _ _ _ _ _ _ _ _ _ _ _ _ _ _ _ _ _ _ _ _ _ _ _ _ _ _ _ _ _ _ _ _ _ _ _ _ _ _ _ _ _ _ _ _ _ _ _ _ _ _ _ _ _ _ _ _ _ _ _ _ _ _ _ _ _ _ _ _ _ _ _ _ _ _ _ _ _ _ _ _ _ _ _ _ _ _ _ _ _ _ _ _ _ _ _ _ _ _ _ _ _ _ _ _ _ _ _ _ _ _ _ _ _ _ _ _ _ _ _ _ _ _ _ _ _ _ _ _ _ _ _ _ _ _ _ _ _ _ _ _ _ _ _ _ _ _ _ _ _ _ _ _ _ _ _ _ _ _ _ _ _ K2 _ hg1 hg2 hn1 hn2 hlt hob0 HRS HK0 (Lib.hid (fun u9 u10 u21 u22 u23 u24 u25 u26 u27 u28 u29 u30 u31 u32 u33 u34 u35 u36 u37 u38 u39 u40 u41 u42 u43 u44 u45 u46 u47 u48 u49 u50 u51 u52 u53 u54 u55 u56 u57 u58 u59 u60 u61 u62 u63 u64 u65 u66 u67 u68 u69 u70 u71 u72 u73 u74 u75 u76 u77 u78 u79 u80 u81 u82 u83 u84 u85 u86 u87 u88 u89 u90 u91 u92 u93 u94 u95 u96 u97 u98 u99 u100 u101 u102 u103 u104 u105 u106 u107 u108 u109 u110 u111 u112 u113 u114 u115 u116 u117 u118 u119 u120 u121 u122 u123 u124 u125 u126 u127 u128 u129 u130 u131 u132 u133 u134 u135 u136 u137 u138 u139 u140 u141 u142 u143 u144 u145 u146 u147 u148 u149 u150 u151 u152 u153 u154 u155 u156 u157 u158 u159 u160 u161 u162 u163 u164 u165 u166 u167 u168 u169 u170 u171 u172 u173 u174 u175 u176 u177 u178 u179 u180 u181 u182 u183 u184 u185 u186 u187 u188 u189 u190 u191 u192 u193 u194 u195 u196 u197 wy h => hK2 _ _ (Met.intro (hJ _ _ ⟨u9, u10, u21, u22, u23, u24, u25, u26, u27, u28, u29, u30, u31, u32, u33, u34, u35, u36, u37, u38, u39, u40, u41, u42, u43, u44, u45, u46, u47, u48, u49, u50, u51, u52, u53, u54, u55, u56, u57, u58, u59, u60, u61, u62, u63, u64, u65, u66, u67, u68, u69, u70, u71, u72, u73, u74, u75, u76, u77, u78, u79, u80, u81, u82, u83, u84, u85, u86, u87, u88, u89, u90, u91, u92, u93, u94, u95, u96, u97, u98, u99, u100, u101, u102, u103, u104, u105, u106, u107, u108, u109, u110, u111, u112, u113, u114, u115, u116, u117, u118, u119, u120, u121, u122, u123, u124, u125, u126, u127, u128, u129, u130, u131, u132, u133, u134, u135, u136, u137, u138, u139, u140, u141, u142, u143, u144, u145, u146, u147, u148, u149, u150, u151, u152, u153, u154, u155, u156, u157, u158, u159, u160, u161, u162, u163, u164, u165, u166, u167, u168, u169, u170, u171, u172, u173, u174, u175, u176, u177, u178, u179, u180, u181, u182, u183, u184, u185, u186, u187, u188, u189, u190, u191, u192, u193, u194, u195, u196, u197, ⟨h.1, h.2⟩, rfl⟩))))
        · exact sw18 d cb ob rg nn kk w8 _ rfl _ _ _ _ _ _ _ _ _ _ _ _ _ _ _ _ _ _ _ _ _ _ _ _ _ _ _ _ _ _ _ _ _ _ _ _ _ _ _ _ _ _ _ _ _ _ _ _ _ _ _ _ _ _ _ _ _ _ _ _ _ _ _ _ _ _ _ _ _ _ _ _ _ _ _ _ _ _ _ _ _ _ _ _ _ _ _ _ _ _ _ _ _ _ _ _ _ _ _ _ _ _ _ _ _ _ _ _ _ _ _ _ _ _ _ _ _ _ _ _ _ _ _ _ _ _ _ _ _ _ _ _ _ _ _ _ _ _ _ _ _ _ _ _ _ _ _ _ _ _ _ _ _ _ _ _ _ _ _ _ _ _ _ _ _ _ _ _ _ _ _ _ _ _ _ _ _ _ _ _ _ _ _ _ _ _ _ _ _ _ _ _ _ _ _ _ _ _ _ _ _ _ _ K2 _ hg1 hg2 hn1 hn2 hlt hob0 HRS HK0 (Lib.hid (fun u9 u10 u21 u22 u23 u24 u25 u26 u27 u28 u29 u30 u31 u32 u33 u34 u35 u36 u37 u38 u39 u40 u41 u42 u43 u44 u45 u46 u47 u48 u49 u50 u51 u52 u53 u54 u55 u56 u57 u58 u59 u60 u61 u62 u63 u64 u65 u66 u67 u68 u69 u70 u71 u72 u73 u74 u75 u76 u77 u78 u79 u80 u81 u82 u83 u84 u85 u86 u87 u88 u89 u90 u91 u92 u93 u94 u95 u96 u97 u98 u99 u100 u101 u102 u103 u104 u105 u106 u107 u108 u109 u110 u111 u112 u113 u114 u115 u116 u117 u118 u119 u120 u121 u122 u123 u124 u125 u126 u127 u128 u129 u130 u131 u132 u133 u134 u135 u136 u137 u138 u139 u140 u141 u142 u143 u144 u145 u146 u147 u148 u149 u150 u151 u152 u153 u154 u155 u156 u157 u158 u159 u160 u161 u162 u163 u164 u165 u166 u167 u168 u169 u170 u171 u172 u173 u174 u175 u176 u177 u178 u179 u180 u181 u182 u183 u184 u185 u186 u187 u188 u189 u190 u191 u192 u193 u194 u195 u196 u197 wy h => hK2 _ _ (Met.intro (hJ _ _ ⟨u9, u10, u21, u22, u23, u24, u25, u26, u27, u28, u29, u30, u31, u32, u33, u34, u35, u36, u37, u38, u39, u40, u41, u42, u43, u44, u45, u46, u47, u48, u49, u50, u51, u52, u53, u54, u55, u56, u57, u58, u59, u60, u61, u62, u63, u64, u65, u66, u67, u68, u69, u70, u71, u72, u73, u74, u75, u76, u77, u78, u79, u80, u81, u82, u83, u84, u85, u86, u87, u88, u89, u90, u91, u92, u93, u94, u95, u96, u97, u98, u99, u100, u101, u102, u103, u104, u105, u106, u107, u108, u109, u110, u111, u112, u113, u114, u115, u116, u117, u118, u119, u120, u121, u122, u123, u124, u125, u126, u127, u128, u129, u130, u131, u132, u133, u134, u135, u136, u137, u138, u139, u140, u141, u142, u143, u144, u145, u146, u147, u148, u149, u150, u151, u152, u153, u154, u155, u156, u157, u158, u159, u160, u161, u162, u163, u164, u165, u166, u167, u168, u169, u170, u171, u172, u173, u174, u175, u176, u177, u178, u179, u180, u181, u182, u183, u184, u185, u186, u187, u188, u189, u190, u191, u192, u193, u194, u195, u196, u197, ⟨h.1, h.2⟩, rfl⟩))))
        · exact sw19 d cb ob rg nn kk w8 _ rfl _ _ _ _ _ _ _ _ _ _ _ _ _ _ _ _ _ _ _ _ _ _ _ _ _ _ _ _ _ _ _ _ _ _ _ _ _ _ _ _ _ _ _ _ _ _ _ _ _ _ _ _ _ _ _ _ _ _ _ _ _ _ _ _ _ _ _ _ _ _ _ _ _ _ _ _ _ _ _ _ _ _ _ _ _ _ _ _ _ _ _ _ _ _ _ _ _ _ _ _ _ _ _ _ _ _ _ _ _ _ _ _ _ _ _ _ _ _ _ _ _ _ _ _ _ _ _ _ _ _ _ _ _ _ _ _ _ _ _ _ _ _ _ _ _ _ _ _ _ _ _ _ _ _ _ _ _ _ _ _ _ _ _ _ _ _ _ _ _ _ _ _ _ _ _ _ _ _ _ _ _ _ _ _ _ _ _ _ _ _ _ _ _ _ _ _ _ _ _ _ _ _ _ K2 _ hg1 hg2 hn1 hn2 hlt hob0 HRS HK0 (Lib.hid (fun u9 u10 u21 u22 u23 u24 u25 u26 u27 u28 u29 u30 u31 u32 u33 u34 u35 u36 u37 u38 u39 u40 u41 u42 u43 u44 u45 u46 u47 u48 u49 u50 u51 u52 u53 u54 u55 u56 u57 u58 u59 u60 u61 u62 u63 u64 u65 u66 u67 u68 u69 u70 u71 u72 u73 u74 u75 u76 u77 u78 u79 u80 u81 u82 u83 u84 u85 u86 u87 u88 u89 u90 u91 u92 u93 u94 u95 u96 u97 u98 u99 u100 u101 u102 u103 u104 u105 u106 u107 u108 u109 u110 u111 u112 u113 u114 u115 u116 u117 u118 u119 u120 u121 u122 u123 u124 u125 u126 u127 u128 u129 u130 u131 u132 u133 u134 u135 u136 u137 u138 u139 u140 u141 u142 u143 u144 u145 u146 u147 u148 u149 u150 u151 u152 u153 u154 u155 u156 u157 u158 u159 u160 u161 u162 u163 u164 u165 u166 u167 u168 u169 u170 u171 u172 u173 u174 u175 u176 u177 u178 u179 u180 u181 u182 u183 u184 u185 u186 u187 u188 u189 u190 u191 u192 u193 u194 u195 u196 u197 wy h => hK2 _ _ (Met.intro (hJ _ _ ⟨u9, u10, u21, u22, u23, u24, u25, u26, u27, u28, u29, u30, u31, u32, u33, u34, u35, u36, u37, u38, u39, u40, u41, u42, u43, u44, u45, u46, u47, u48, u49, u50, u51, u52, u53, u54, u55, u56, u57, u58, u59, u60, u61, u62, u63, u64, u65, u66, u67, u68, u69, u70, u71, u72, u73, u74, u75, u76, u77, u78, u79, u80, u81, u82, u83, u84, u85, u86, u87, u88, u89, u90, u91, u92, u93, u94, u95, u96, u97, u98, u99, u100, u101, u102, u103, u104, u105, u106, u107, u108, u109, u110, u111, u112, u113, u114, u115, u116, u117, u118, u119, u120, u121, u122, u123, u124, u125, u126, u127, u128, u129, u130, u131, u132, u133, u134, u135, u136, u137, u138, u139, u140, u141, u142, u143, u144, u145, u146, u147, u148, u149, u150, u151, u152, u153, u154, u155, u156, u157, u158, u159, u160, u161, u162, u163, u164, u165, u166, u167, u168, u169, u170, u171, u172, u173, u174, u175, u176, u177, u178, u179, u180, u181, u182, u183, u184, u185, u186, u187, u188, u189, u190, u191, u192, u193, u194, u195, u196, u197, ⟨h.1, h.2⟩, rfl⟩))))
      case rest =>
        obtain ⟨HDR, HOP⟩ := hcut
        obtain ⟨k8, a8, b8, c8, v8, s8, l8, hx8⟩ := HOP.out
        obtain ⟨p8, q8, rfl, hsl8⟩ := hx8.own.sla.shape
        have hC9 : Ck d w wc cb pr rg v R := HC6.out.later ((HW8.out.trans HDR.out).mono (by rw [HOB.out]; exact Nat.le_refl _)) HLW.out.1
        obtain ⟨y0, y1, y2⟩ := hC9.cells
        obtain ⟨z0, z1, z2, z3, z4, z5⟩ := hx8.cells
        obtain ⟨pv, cv, rfl⟩ := hC9.slice
        obtain ⟨r8, hr8⟩ : ∃ r : Rop, r = (⟨k8, a8, b8, c8, l8, s8⟩, p8, q8) := ⟨_, rfl⟩
        have hnew := cellsAt_alloc wc (encOp.cells r8) opT
        have hbx := below_box wc (.cells #[.int .i64 k8, .int .i64 a8, .int .i64 b8, .int .i64 c8, .slice p8 l8.length q8, .string s8] opT)
        have hs8 : RSmall r8 := by rw [hr8]; exact ⟨⟨⟨hx8.ki, hx8.ai, hx8.bi, hx8.ci, hx8.li⟩, hx8.len, hx8.sz⟩, hx8.own.nil0⟩
        have hfar : ∀ g, (Value.slice pv R.length cv).ownBlock = some g → g < ob := fun g e => by have := (OwnL.ltO HC6.out.row.own g e).2; rw [HOB.out] at this; exact this
        have hra : SlA encI (fun k => cb + 1 ≤ k ∧ some k ≠ (Value.slice pv R.length cv).ownBlock) wc r8.sl r8.1.list := by
          rw [hr8]
          exact hsl8.mono (fun k hk => ⟨by omega, fun e => by have := hfar k e.symm; omega⟩)
        have hlt9 := hC9.lt
        have HOA : Hid (OpsRow (wc.alloc (.cells #[.int .i64 k8, .int .i64 a8, .int .i64 b8, .int .i64 c8, .slice p8 l8.length q8, .string s8] opT)) (cb + 1) (.slice pv R.length cv) R) := hC9.row.below hbx
        have HRA : Hid (SlA encI (fun k => cb + 1 ≤ k ∧ some k ≠ (Value.slice pv R.length cv).ownBlock) (wc.alloc (.cells #[.int .i64 k8, .int .i64 a8, .int .i64 b8, .int .i64 c8, .slice p8 l8.length q8, .string s8] opT)) r8.sl r8.1.list) := hra.keep (Kp.below hbx)
        have HLS : Hid (CellsAt (wc.alloc (.cells #[.int .i64 k8, .int .i64 a8, .int .i64 b8, .int .i64 c8, .slice p8 l8.length q8, .string s8] opT)) wc.heap.size 0 (encOp.cells r8)) := by
          rw [hr8] at hnew ⊢
          exact hnew
        have HBZ : Hid (Below (cb + 1) wc (wc.alloc (.cells #[.int .i64 k8, .int .i64 a8, .int .i64 b8, .int .i64 c8, .slice p8 l8.length q8, .string s8] opT))) := hbx.mono (by omega)
        have R1 : Hid (R.length + 1 ≤ maxLen) := by have := HRL.out; unfold Hid maxLen; omega
        have R2 : Hid ((R.length + 1) * 72 ≤ 140737488355328) := by have := HRL.out; unfold Hid; omega
        have HBS : Hid (cb + 1 ≤ (wc.alloc (.cells #[.int .i64 k8, .int .i64 a8, .int .i64 b8, .int .i64 c8, .slice p8 l8.length q8, .string s8] opT)).heap.size) := Nat.le_trans (by omega) hbx.size
        have HC9 := Lib.hid hC9
        have HS8 := Lib.hid hs8
        have ek : IntKind.i64.wrap ((kk : Int) + 1) = ((kk + 1 : Nat) : Int) := by rw [IntWalk.i64_in _ (by omega)]; omega
        clear hx8 hsl8 hC9 hr8 hnew hbx hs8 hfar hra HDR HOP HC6 HRS HW8 HK0 HKV
        go_wp2_with (at_builtin; refine wpList_appendAt (E := encOp) Tryd.underlying22 info_op rfl rfl (.tmp 193) (.tmp 195) rfl (cb + 1) (.slice pv R.length cv) R ?_ ?_ wc.heap.size 1 r8 ?_ ?_ ?_ ?_ ?_ ?_)
        · rfl
        · exact HOA.out.own
        · rfl
        · exact HLS.out
        · exact R1
        · exact R2
        · exact HBS.out
        intro v9 w9 hown9 hg9 hat9
        have hO9 := HOA.out.push hg9 hown9 (by rcases hat9 with h | h; exact .inl h; exact .inr (by rw [World.size_alloc]; exact h)) HRA.out
        have hB9 : Below (cb + 1) wc w9 := HBZ.out.grown hg9 HBS.out (fun k hk => (OwnL.ltO HOA.out.own k hk).1)
        obtain ⟨x2, f2, hC10⟩ := HC9.out.put HLW.out (Dr.of_below hB9 (HLW.out.mono (by have := HC9.out.up; omega))) hO9 HS8.out
        obtain ⟨p9, c9, rfl⟩ := hC10.slice
        rw [show (R ++ [r8]).length = R.length + 1 by simp] at hC10 ⊢
        have HC10 := Lib.hid hC10
        clear hown9 hg9 hat9 hO9 hB9 hC10 HOA HRA HLS HBZ HBS HC9 HS8
        go_wp2_with fail
        go_roundw
        case rel => exact ⟨kk + 1, _, R ++ [r8], by go_num, by omega, by have := HRL.out; simp; omega, HC10.out⟩
        case measure => simp [intOf]; omega
    · obtain rfl : kk = nn := by omega
      have hRn : R.length = kk := HRL.out
      have HR1 : Hid (0 < R.length ∧ R.length ≤ 14) := by show _ ∧ _; omega
      obtain ⟨pz, cz, rfl⟩ := HC.out.slice
      generalize hnz : R.length = nz at *
      have HNZ := Lib.hid hnz
      clear hRn hnz HRL
      have hlt9 := HC.out.lt
      have hup9 := HC.out.up
      have HLOW : Hid (DcLow d (cb + 1)) := HLW.out.mono (by omega)
      have HGD : Hid (DiceAt d wx.drew) := (Dr.of_below ((Below.refl _ _).drew) HLW.out).good HC.out.thrown.good
      have HSW : Hid (cb + 1 ≤ wx.drew.heap.size) := hlt9
      obtain ⟨row, hrow⟩ : ∃ row, row = (Value.slice pz nz cz).ownBlock := ⟨_, rfl⟩
      have HRE := Lib.hid hrow
      clear hrow
      have HP0 : Hid (OpsRow wx.drew (cb + 1) (.slice pz nz cz) R) := HC.out.row.below (Below.refl _ _).drew
      have HRW : Hid (∀ j, row = some j → cb + 1 ≤ j ∧ j < wx.drew.heap.size) := fun j e => OwnL.ltO HP0.out.own j (by rw [← e]; exact HRE.out.symm)
      have HZL : Hid (R.length ≤ 1000) := by rw [HNZ.out]; have := HR1.out; show _ ≤ _; omega
      have HNR : Hid (0 < rg ∧ rg ≤ 2000000) := ⟨hg1, by omega⟩
      have HCD : Hid (∀ W, Dr d (cb + 1) wx.drew W → W.cell? ⟨cb, 1, none⟩ = some (.int .i64 (rg : Int)) ∧ W.cell? ⟨cb, 2, none⟩ = some (.slice pz nz cz)) := fun W hW => by
        have hb : W.heap[cb]? = some (.cells #[.int .i64 (pr : Int), .int .i64 (rg : Int), .slice pz nz cz] cdT (0, 0)) := (hW.block cb (by omega) (by have := HLW.out.1; omega)).trans HC.out.box
        exact ⟨by rw [Lib.cell_of_heap hb]; rfl, by rw [Lib.cell_of_heap hb]; rfl⟩
      clear hlt hlt9 hup9
      go_wp2_with fail
      apply wp_region_one 8 10 (AD d) (fun x y => x.grownBy y row) (fun W => Dr d (cb + 1) wx.drew W) (fun W => OpsRow W (cb + 1) (.slice pz nz cz) R) (fun _ _ => False)
      case hIA => (intro x y hl h; exact h.trans (hl.mono (Nat.le_trans HSW.out h.size)))
      case hIC => (intro x y hl h; exact h.trans (Dr.of_below ((Below.refl _ _).grown hl (Nat.le_trans HSW.out h.size) (fun k e => (HRW.out k e).1)) HLOW.out))
      case hPA => (intro x y hl h; exact OpsRow.drR h hl HLOW.out.1 (Nat.le_refl _))
      case hm => kernel_rfl
      case hB => kernel_rfl
      case h0 => exact Dr.refl _ _ _
      case h1 => exact HP0.out
      case hP => (rintro k a' W hf hd; exact hf.elim)
      simp only [List.take_succ_cons, List.take_zero, List.drop_succ_cons, List.drop_zero]
      apply wpOne_cons (t := tvIs _) (tvIs_good _ _)
      case h1 => (intro W hI hl; clear hI hl; unfold oneAt; go_simp; exact one_isD (by decide))
      intro _
      rw [tvIs_f]
      go_simp
      apply wpOne_cons (t := tvIs _) (tvIs_good _ _)
      case h1 => (intro W hI hl; obtain ⟨y1, y2⟩ := HCD.out W hI; clear hI hl; unfold oneAt; go_simp; exact one_isD (by decide))
      intro _
      rw [tvIs_f]
      go_simp
      apply wpOne_cons (t := tvIs _) (tvIs_good _ _)
      case h1 => (intro W hI hl; clear hI hl; unfold oneAt; go_simp; exact one_isD (by decide))
      intro _
      rw [tvIs_f]
      go_simp
      apply wpOne_cons (t := tvIs _) (tvIs_good _ _)
      case h1 => (intro W hI hl; clear hI hl; unfold oneAt; go_simp; exact one_isD (by decide))
      intro _
      rw [tvIs_f]
      go_simp
      apply wpOne_cons (t := tvIs _) (tvIs_good _ _)
      case h1 => (intro W hI hl; obtain ⟨y1, y2⟩ := HCD.out W hI; clear hI hl; unfold oneAt; go_simp; exact one_isD (by decide))
      intro _
      rw [tvIs_f]
      go_simp
      apply wpOne_cons (t := tvNum rg hg1) (tvNum_good _ _ _ _ _ _)
      case h1 => (intro W hI hl; have hgd := hI.good HGD.out; have hDW : d.D < W.heap.size := Nat.lt_of_lt_of_le HLOW.out.1 (Nat.le_trans HSW.out hI.size); clear hI hl; unfold oneAt; go_simp; refine (next_any d rg W hgd HNR.out.1 HNR.out.2).mono ?_; rintro e w'' ⟨k, hk, rfl, ht, -⟩; exact .inl ⟨⟨k, hk⟩, rfl, by unfold sel; rw [if_neg (by decide)]; exact Dr.of_thrown ht hDW, trivial⟩)
      rintro ⟨k5, hk5⟩
      rw [tvNum_f]
      go_simp
      apply wpOne_cons (t := tvRet rg hg1) (tvRet_good _ _ _ _ _ _)
      case h1 => (intro W hI hl; clear hI hl; unfold oneAt; go_simp; exact ⟨by unfold sel; rw [if_neg (by decide)]; exact Dr.refl _ _ _, ⟨k5, hk5⟩, rfl, trivial⟩)
      rintro ⟨k6, hk6⟩
      rw [tvRet_f]
      go_simp
      apply wpOne_cons (t := tvOneR d row) (tvOneR_good _ _ _ _)
      case h1 => (intro W hI hl; have hlo := HLOW.out.mono (Nat.le_trans HSW.out hI.size); have hrW : ∀ j, row = some j → j < W.heap.size := (fun j e => Nat.lt_of_lt_of_le (HRW.out j e).2 hI.size); clear hI hl; unfold oneAt; go_simp; exact tvOneR_mk (c := 8) (k := 7) (inI_nat (by omega)) hlo hrW (by decide))
      rintro ⟨⟨sb, n6⟩, hn6⟩
      rw [tvOneR_f]
      go_simp
      apply wpOne_cons (t := tvAppR (cb + 1) R) (tvAppR_good _ _ _ _ _ HLOW.out.1)
      case h1 => (
        intro W hI hl
        have hP : OpsRow W (cb + 1) (.slice pz nz cz) R := hl.1 rfl
        have hc := lean_ofO hl 7 (by kernel_rfl)
        simp [upd, preAt] at hc
        obtain ⟨v', w', hr, ho⟩ := tvAppR_mk (d := d) (c := 8) (Pn := fun _ _ => False) hn6 hP HRE.out hc.1 HZL.out (Nat.le_trans HSW.out hI.size) 22
        clear hI hl hP hc
        exact oneAt_appendO rfl rfl rfl rfl hr ho)
      rintro ⟨⟨v', n7⟩, hn7⟩
      rw [tvAppR_f]
      go_simp
      apply wpOne_cons (t := tvIs _) (tvIs_good _ _)
      case h1 => (intro W hI hl; clear hI hl; unfold oneAt; go_simp; exact one_isD (by decide))
      intro _
      rw [tvIs_f]
      go_simp
      apply wpOne_nil (Ts := [])
      intro w2 hI hF
      have hfin := hF 8
      simp [upd, preAt] at hfin
      have hfin2 : OpsRow w2 (cb + 1) v' (R ++ [retO n7]) := hfin
      clear hfin hF
      obtain ⟨y4, f4, hC11⟩ := HC.out.put HLW.out ((Dr.of_below ((Below.refl _ _).drew) HLOW.out).trans hI) hfin2 (retO_smallI hn7)
      obtain ⟨pn, cn, rfl⟩ := hC11.slice
      have hl11 : (R ++ [retO n7]).length = nz + 1 := by rw [List.length_append, HNZ.out]; rfl
      rw [hl11] at hC11 ⊢
      obtain ⟨w3', hw3⟩ : ∃ x, w2.setCell ⟨cb, 2, none⟩ (.slice pn (nz + 1) cn) = x := ⟨_, rfl⟩
      rw [hw3] at hC11
      obtain ⟨x0, x1, x2⟩ := hC11.cells
      obtain ⟨⟨q0, q1, q2⟩, ⟨g0, g1, g2⟩, hfin⟩ := cd_store hC11.res (pr : Int) (rg : Int) pn (nz + 1) cn
      have HLD := Lib.hid (load_cd _ _ _ _ _ _ _ hfin)
      have HFIN := Lib.hid (hC11.fin HLW.out hp hg2 (by rw [hl11]; omega) (by rw [hl11]; have := HR1.out; omega))
      clear hfin2 hI HP0 HRW HC hC11 HCD hfin
      go_wp2_with fail
      exact bodyPost_ret (results_cell1 rfl _ _ _ ⟨w.heap.size, 0, none⟩ _ rfl HLD.out) rfl (by obtain ⟨v, x, e, h⟩ := HFIN.out; exact ⟨v, e, x, h⟩)
end Go.Proofs.YthikdkeanndidaaDoor
