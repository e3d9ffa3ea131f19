/-
  CONTRACTS: what reads the pack of operations.
-/
import Derived.Test.YthikdkeanndidaaDoorCg
namespace Go.Proofs.YthikdkeanndidaaDoor
open Go Go.RowKit
set_option linter.unusedVariables false
set_option linter.unusedSimpArgs false
set_option maxRecDepth 100000

/-- the string of a list of operations -/
def opsS (l : List Opp) : ByteArray := packS (l.map Fa.opS)
theorem SlA.here {α : Type} {E : Enc α} {A : Nat → Prop} {w : World} {v : Value} {L : List α} (h : SlA E A w v L) : SlA E (fun k => A k ∧ k < w.heap.size) w v L := by
  obtain ⟨p, c, h1, h2, h3, h4⟩ := h
  refine ⟨p, c, h1, h2, h3, fun h0 => ?_⟩
  obtain ⟨b, o, e, ha, hc⟩ := h4 h0
  have hlt : 0 < (E.all L).length := by rw [E.all_length]; exact Nat.mul_pos h0 E.pos
  exact ⟨b, o, e, ⟨ha, World.block_lt_of_cell? w _ (hc 0 _ (List.getElem?_eq_getElem hlt))⟩, hc⟩
/-- a row of operations of one's own -/
structure OpsRow (w : World) (base : Nat) (v : Value) (R : List Rop) : Prop where
  own : OwnL encOp 58 w base v R
  at_ : ∀ r ∈ R, SlA encI (fun k => base ≤ k ∧ some k ≠ v.ownBlock) w r.sl r.1.list
theorem OpsRow.isNil (w : World) (base : Nat) : OpsRow w base (.slice none 0 0) [] := ⟨OwnL.isNil _ _ _ _, fun r hr => by cases hr⟩
theorem OpsRow.below {w w' : World} {base : Nat} {v : Value} {R : List Rop} (h : OpsRow w base v R) (hb : Below w.heap.size w w') : OpsRow w' base v R :=
  ⟨OwnL.below h.own hb, fun r hr => (h.at_ r hr).keep (Kp.below hb)⟩
theorem OpsRow.low {w : World} {b b' : Nat} {v : Value} {R : List Rop} (h : OpsRow w b v R) (hb : b' ≤ b) : OpsRow w b' v R :=
  ⟨h.own.low hb, fun r hr => (h.at_ r hr).mono (fun k hk => ⟨Nat.le_trans hb hk.1, hk.2⟩)⟩
theorem OpsRow.push {w w' : World} {base : Nat} {v v' : Value} {R : List Rop} {r : Rop} (h : OpsRow w base v R) (hg : w.grownBy w' v.ownBlock) (hv : OwnL encOp 58 w' base v' (R ++ [r]))
    (hat : v'.ownBlock = v.ownBlock ∨ v'.ownBlock = some w.heap.size) (hr : SlA encI (fun k => base ≤ k ∧ some k ≠ v.ownBlock) w r.sl r.1.list) : OpsRow w' base v' (R ++ [r]) := by
  have key : ∀ q : Rop, SlA encI (fun k => base ≤ k ∧ some k ≠ v.ownBlock) w q.sl q.1.list → SlA encI (fun k => base ≤ k ∧ some k ≠ v'.ownBlock) w' q.sl q.1.list := fun q hq => by
    refine (hq.here.keep (w' := w') (fun a u ha hc => ?_)).mono (fun k hk => ⟨hk.1.1, ?_⟩)
    · rw [World.cell?_of_block (w := w) (hg.block a.block ha.2 ha.1.2)]; exact hc
    · rcases hat with e | e
      · rw [e]; exact hk.1.2
      · rw [e]; intro q; injection q with q; have := hk.2; omega
  refine ⟨hv, fun q hq => ?_⟩
  rcases List.mem_append.1 hq with hq | hq
  · exact key q (h.at_ q hq)
  · rw [List.mem_singleton] at hq
    rw [hq]
    exact key r hr
theorem OpsRow.fin {w : World} {base : Nat} {v : Value} {R : List Rop} (h : OpsRow w base v R) : ∃ p c, v = .slice p (R.map (·.1)).length c ∧ OpsA (fun k => base ≤ k) w v (R.map (·.1)) := by
  obtain ⟨p, c, e, h2⟩ := h.own.sla
  exact ⟨p, c, by rw [List.length_map]; exact e, R, rfl, ⟨p, c, e, h2⟩, fun r hr => (h.at_ r hr).mono (fun k hk => hk.1)⟩
/-- operations that have been read -/
def ListO (base : Nat) (s : ByteArray) (e : Ending) (w' : World) : Prop := ∃ v R b, e = .returned (.tuple #[v, .bool b]) ∧ OpsRow w' base v R ∧ Fa.Rdg opsS (fun l => ∀ o ∈ l, o.Ok) s (R.map (·.1)) b
theorem ListO.mk {base : Nat} {s : ByteArray} {w' : World} {v : Value} {R : List Rop} {b : Bool} (h1 : OpsRow w' base v R) (h2 : Fa.Rdg opsS (fun l => ∀ o ∈ l, o.Ok) s (R.map (·.1)) b) : ListO base s (.returned (.tuple #[v, .bool b])) w' := ⟨v, R, b, rfl, h1, h2⟩

set_option maxHeartbeats 2000000 in
theorem readOps_any (s : ByteArray) (cb : Nat) (w : World) (hs : s.size ≤ 1000000000) (hw : LaidW w) (F : FuncId) (bs : Array Value) (hcl : w.cell? ⟨cb, 0, none⟩ = some (.func (.func F) #[] bs))
    (hF : ∀ args w, (callFunc F args).run Tryd.prog w = .ok (.enter F args) w)
    (hC : ∀ p : ByteArray, p.size ≤ 1000000000 → ∀ w1, Below w.heap.size w w1 → Calls Tryd.prog F (#[.string p] ++ bs) w1 fun e w2 => (∃ (r : Rop) (b : Bool), e = .returned (.tuple #[.agg #[.int .i64 r.1.kind, .int .i64 r.1.a, .int .i64 r.1.b, .int .i64 r.1.c, .slice r.2.1 r.1.list.length r.2.2, .string r.1.sym], .bool b]) ∧ SlA encI (fun k => w1.heap.size ≤ k) w2 r.sl r.1.list ∧ Fa.Rdg Fa.opS Opp.Ok p r.1 b) ∧ Below w1.heap.size w1 w2) :
    Calls Tryd.prog 61 #[.string s, .pointer (some ⟨cb, 0, none⟩)] w fun e w' => ListO w.heap.size s e w' ∧ Below w.heap.size w w' := by
  have HU := Lib.hid (unpack_any s w hs hw)
  have HC := Lib.hid hC
  have HCL := Lib.hid hcl
  clear hC hw hcl
  go_enter Tryd.func61, Tryd.ntmps61
  go_wp2_with fail
  refine HU.out.mono ?_
  rintro e w1 ⟨⟨v, L, b, rfl, ho, hg⟩, hb1⟩
  have HB1 := Lib.hid hb1
  clear HU hb1
  cases b with
  | false =>
    have HR : Hid (Fa.Rdg opsS (fun l => ∀ o ∈ l, o.Ok) s [] false) := ⟨fun e => (by cases e), fun _ l hl => Fa.list_bad1 hg l hl⟩
    clear hg ho
    go_wp2_with fail
    go_ret2
    exact ⟨ListO.mk (OpsRow.isNil _ _) HR.out, HB1.out⟩
  | true =>
    have hpk := hg.1 rfl
    have hcnt : L.length ≤ 1000000000 := by have := Fa.packL_count L; rw [hpk, Fa.len_data] at this; omega
    obtain ⟨p, c, rfl, hsl⟩ := ho.sla.shape
    obtain ⟨-, -, hat⟩ := hsl.at_
    have HAT := Lib.hid hat
    have HPK := Lib.hid hpk
    have hszs : ∀ x ∈ L, x.size ≤ 1000000000 := fun x hx => by have := Fa.mem_size hx; rw [hpk, Fa.len_data] at this; omega
    have HSZ := Lib.hid hszs
    clear hg ho hpk hsl hat hszs
    go_wp2_with fail
    go_loopw [7, 21] (fun out i wr => ∃ (j : Nat) (acc : List Rop), j ≤ L.length ∧ i = .int .i64 j ∧ Hid (OpsRow wr w1.heap.size out acc) ∧ Hid ((acc.map (·.1)).map Fa.opS = L.take j) ∧ Hid (∀ r ∈ acc, r.1.Ok) ∧ Hid (Below w1.heap.size w1 wr)) (fun _ i _ => L.length - (intOf i).toNat)
    case atStart => exact ⟨0, [], Nat.zero_le _, rfl, OpsRow.isNil _ _, rfl, fun n hn => (by cases hn), Below.refl _ _⟩
    case round =>
      obtain ⟨j, acc, hj, rfl, HO, HM, HOK, HB⟩ := hrel
      obtain ⟨wx, rfl⟩ : ∃ x, x = wr := ⟨wr, rfl⟩
      have HBX := Lib.hid (HB1.out.trans (HB.out.mono HB1.out.size))
      by_cases hlt : j < L.length
      · have hlti : (j : Int) < (L.length : Int) := by omega
        obtain ⟨b1, o1, rfl, hab, hcell⟩ := HAT.out j hlt
        obtain ⟨x, hx⟩ : ∃ x, x = L[j]'hlt := ⟨_, rfl⟩
        rw [← hx] at hcell
        have hxm : x ∈ L := by rw [hx]; exact List.getElem_mem hlt
        have x0 : wx.cell? ⟨b1, o1 + j, none⟩ = some (.string x) := by
          have h1 : w1.cell? ⟨b1, o1 + j, none⟩ = some (.string x) := by have := hcell 0 _ (by decide) rfl; simpa [encN] using this
          rw [HB.out.cell (World.block_lt_of_cell? w1 _ h1)]
          exact h1
        have xcl : wx.cell? ⟨cb, 0, none⟩ = some (.func (.func F) #[] bs) := by rw [HBX.out.cell (World.block_lt_of_cell? w _ HCL.out)]; exact HCL.out
        have HCC := Lib.hid (HC.out x (HSZ.out x hxm) wx HBX.out)
        have HX := Lib.hid hx
        have hal : acc.length = j := by have := congrArg List.length HM.out; rw [List.length_map, List.length_map, List.length_take] at this; omega
        clear hcell hab hxm hx
        go_wp2_with fail
        refine HCC.out.mono ?_
        rintro e w5 ⟨⟨r, b, rfl, hrl, hr⟩, hb5⟩
        have HRL := Lib.hid hrl
        have hxs := hb5.size
        clear hrl
        have HB5 := Lib.hid (HB.out.trans (hb5.mono HB.out.size))
        have HBY := Lib.hid (HBX.out.trans (hb5.mono HBX.out.size))
        have HO5 := Lib.hid (HO.out.below hb5)
        have HNE : Hid (∀ k, wx.heap.size ≤ k → w1.heap.size ≤ k ∧ some k ≠ u7.ownBlock) := fun k hk => ⟨Nat.le_trans HB.out.size hk, fun e => by have := (World.ownsRow.lt HO.out.own k e.symm).2; omega⟩
        clear hb5 HCC x0 xcl HO
        cases b with
        | false =>
          have HR : Hid (Fa.Rdg opsS (fun l => ∀ o ∈ l, o.Ok) s [] false) := ⟨fun e => (by cases e), fun _ l hl => Fa.list_bad2 (by omega) HPK.out hlt (fun y hy => by rw [← HX.out]; exact hr.2 rfl y hy) l hl⟩
          have hbz := below_box w5 (.cells #[.int .i64 r.1.kind, .int .i64 r.1.a, .int .i64 r.1.b, .int .i64 r.1.c, .slice r.2.1 r.1.list.length r.2.2, .string r.1.sym] 58)
          have HBZ := Lib.hid (HBY.out.trans (hbz.mono HBY.out.size))
          clear hr hbz
          go_wp2_with fail
          go_ret2
          exact ⟨ListO.mk (OpsRow.isNil _ _) HR.out, HBZ.out⟩
        | true =>
          obtain ⟨hr1, hr2⟩ := hr.1 rfl
          have HM2 : Hid (((acc ++ [r]).map (·.1)).map Fa.opS = L.take (j + 1)) := by show _ = _; rw [List.map_append, List.map_append, HM.out, List.take_succ_eq_append_getElem hlt, ← HX.out]; simp [hr1]
          have HOK2 : Hid (∀ q ∈ acc ++ [r], q.1.Ok) := fun n hn => by
            rcases List.mem_append.1 hn with h | h
            · exact HOK.out n h
            · rw [List.mem_singleton] at h; rw [h]; exact hr2
          have R1 : Hid (acc.length + 1 ≤ maxLen) := by unfold Hid maxLen; omega
          have R2 : Hid ((acc.length + 1) * 72 ≤ 140737488355328) := by unfold Hid; omega
          have hnew : (w5.alloc (.cells #[.int .i64 r.1.kind, .int .i64 r.1.a, .int .i64 r.1.b, .int .i64 r.1.c, .slice r.2.1 r.1.list.length r.2.2, .string r.1.sym] 58)).heap[w5.heap.size]? = some (.cells #[.int .i64 r.1.kind, .int .i64 r.1.a, .int .i64 r.1.b, .int .i64 r.1.c, .slice r.2.1 r.1.list.length r.2.2, .string r.1.sym] 58) := heap_alloc_new w5 _
          have y0 : (w5.alloc (.cells #[.int .i64 r.1.kind, .int .i64 r.1.a, .int .i64 r.1.b, .int .i64 r.1.c, .slice r.2.1 r.1.list.length r.2.2, .string r.1.sym] 58)).cell? ⟨w5.heap.size, 0, none⟩ = some (.int .i64 r.1.kind) := by rw [Lib.cell_of_heap hnew]; rfl
          have y1 : (w5.alloc (.cells #[.int .i64 r.1.kind, .int .i64 r.1.a, .int .i64 r.1.b, .int .i64 r.1.c, .slice r.2.1 r.1.list.length r.2.2, .string r.1.sym] 58)).cell? ⟨w5.heap.size, 1, none⟩ = some (.int .i64 r.1.a) := by rw [Lib.cell_of_heap hnew]; rfl
          have y2 : (w5.alloc (.cells #[.int .i64 r.1.kind, .int .i64 r.1.a, .int .i64 r.1.b, .int .i64 r.1.c, .slice r.2.1 r.1.list.length r.2.2, .string r.1.sym] 58)).cell? ⟨w5.heap.size, 2, none⟩ = some (.int .i64 r.1.b) := by rw [Lib.cell_of_heap hnew]; rfl
          have y3 : (w5.alloc (.cells #[.int .i64 r.1.kind, .int .i64 r.1.a, .int .i64 r.1.b, .int .i64 r.1.c, .slice r.2.1 r.1.list.length r.2.2, .string r.1.sym] 58)).cell? ⟨w5.heap.size, 3, none⟩ = some (.int .i64 r.1.c) := by rw [Lib.cell_of_heap hnew]; rfl
          have y4 : (w5.alloc (.cells #[.int .i64 r.1.kind, .int .i64 r.1.a, .int .i64 r.1.b, .int .i64 r.1.c, .slice r.2.1 r.1.list.length r.2.2, .string r.1.sym] 58)).cell? ⟨w5.heap.size, 4, none⟩ = some (.slice r.2.1 r.1.list.length r.2.2) := by rw [Lib.cell_of_heap hnew]; rfl
          have y5 : (w5.alloc (.cells #[.int .i64 r.1.kind, .int .i64 r.1.a, .int .i64 r.1.b, .int .i64 r.1.c, .slice r.2.1 r.1.list.length r.2.2, .string r.1.sym] 58)).cell? ⟨w5.heap.size, 5, none⟩ = some (.string r.1.sym) := by rw [Lib.cell_of_heap hnew]; rfl
          have hbx := below_box w5 (.cells #[.int .i64 r.1.kind, .int .i64 r.1.a, .int .i64 r.1.b, .int .i64 r.1.c, .slice r.2.1 r.1.list.length r.2.2, .string r.1.sym] 58)
          have hbx2 := below_box (w5.alloc (.cells #[.int .i64 r.1.kind, .int .i64 r.1.a, .int .i64 r.1.b, .int .i64 r.1.c, .slice r.2.1 r.1.list.length r.2.2, .string r.1.sym] 58)) (.cells #[.int .i64 r.1.kind, .int .i64 r.1.a, .int .i64 r.1.b, .int .i64 r.1.c, .slice r.2.1 r.1.list.length r.2.2, .string r.1.sym] 58)
          have hcl2 : CellsAt ((w5.alloc (.cells #[.int .i64 r.1.kind, .int .i64 r.1.a, .int .i64 r.1.b, .int .i64 r.1.c, .slice r.2.1 r.1.list.length r.2.2, .string r.1.sym] 58)).alloc (.cells #[.int .i64 r.1.kind, .int .i64 r.1.a, .int .i64 r.1.b, .int .i64 r.1.c, .slice r.2.1 r.1.list.length r.2.2, .string r.1.sym] 58)) (w5.alloc (.cells #[.int .i64 r.1.kind, .int .i64 r.1.a, .int .i64 r.1.b, .int .i64 r.1.c, .slice r.2.1 r.1.list.length r.2.2, .string r.1.sym] 58)).heap.size 0 (encOp.cells r) := cellsAt_alloc (w5.alloc (.cells #[.int .i64 r.1.kind, .int .i64 r.1.a, .int .i64 r.1.b, .int .i64 r.1.c, .slice r.2.1 r.1.list.length r.2.2, .string r.1.sym] 58)) [.int .i64 r.1.kind, .int .i64 r.1.a, .int .i64 r.1.b, .int .i64 r.1.c, .slice r.2.1 r.1.list.length r.2.2, .string r.1.sym] _
          have hsz1 : (w5.alloc (.cells #[.int .i64 r.1.kind, .int .i64 r.1.a, .int .i64 r.1.b, .int .i64 r.1.c, .slice r.2.1 r.1.list.length r.2.2, .string r.1.sym] 58)).heap.size = w5.heap.size + 1 := World.size_alloc _ _
          rw [hsz1] at hcl2
          have hsz2 : ((w5.alloc (.cells #[.int .i64 r.1.kind, .int .i64 r.1.a, .int .i64 r.1.b, .int .i64 r.1.c, .slice r.2.1 r.1.list.length r.2.2, .string r.1.sym] 58)).alloc (.cells #[.int .i64 r.1.kind, .int .i64 r.1.a, .int .i64 r.1.b, .int .i64 r.1.c, .slice r.2.1 r.1.list.length r.2.2, .string r.1.sym] 58)).heap.size = w5.heap.size + 1 + 1 := by rw [World.size_alloc, World.size_alloc]
          have HSZ2 := Lib.hid hsz2
          have HLS := Lib.hid hcl2
          clear hsz1 hsz2
          have HB5c : Hid (Below w1.heap.size w1 ((w5.alloc (.cells #[.int .i64 r.1.kind, .int .i64 r.1.a, .int .i64 r.1.b, .int .i64 r.1.c, .slice r.2.1 r.1.list.length r.2.2, .string r.1.sym] 58)).alloc (.cells #[.int .i64 r.1.kind, .int .i64 r.1.a, .int .i64 r.1.b, .int .i64 r.1.c, .slice r.2.1 r.1.list.length r.2.2, .string r.1.sym] 58))) := HB5.out.trans ((bnext hbx hbx2).mono HB5.out.size)
          have HBS : Hid (w1.heap.size ≤ ((w5.alloc (.cells #[.int .i64 r.1.kind, .int .i64 r.1.a, .int .i64 r.1.b, .int .i64 r.1.c, .slice r.2.1 r.1.list.length r.2.2, .string r.1.sym] 58)).alloc (.cells #[.int .i64 r.1.kind, .int .i64 r.1.a, .int .i64 r.1.b, .int .i64 r.1.c, .slice r.2.1 r.1.list.length r.2.2, .string r.1.sym] 58)).heap.size) := HB5c.out.size
          have HOA := Lib.hid ((HO5.out.below hbx).below hbx2)
          have HRA : Hid (SlA encI (fun k => w1.heap.size ≤ k ∧ some k ≠ u7.ownBlock) ((w5.alloc (.cells #[.int .i64 r.1.kind, .int .i64 r.1.a, .int .i64 r.1.b, .int .i64 r.1.c, .slice r.2.1 r.1.list.length r.2.2, .string r.1.sym] 58)).alloc (.cells #[.int .i64 r.1.kind, .int .i64 r.1.a, .int .i64 r.1.b, .int .i64 r.1.c, .slice r.2.1 r.1.list.length r.2.2, .string r.1.sym] 58)) r.sl r.1.list) := ((HRL.out.mono HNE.out).keep (Kp.below hbx)).keep (Kp.below hbx2)
          have HN2 : Hid ((w5.alloc (.cells #[.int .i64 r.1.kind, .int .i64 r.1.a, .int .i64 r.1.b, .int .i64 r.1.c, .slice r.2.1 r.1.list.length r.2.2, .string r.1.sym] 58)).heap.size = w5.heap.size + 1) := World.size_alloc _ _
          clear hr hr1 hr2 HO5 hnew hbx hbx2 hcl2 HRL HNE
          go_wp2_with (at_builtin; refine wpList_appendAt (E := encOp) Tryd.underlying22 info_op rfl rfl (.tmp 33) (.tmp 35) rfl w1.heap.size u7 acc ?_ ?_ (w5.heap.size + 1) 1 r ?_ ?_ ?_ ?_ ?_ ?_)
          · rfl
          · exact HOA.out.own
          · rfl
          · exact HLS.out
          · exact R1
          · exact R2
          · exact HBS.out
          intro out2 w6 hown2 hg6 hat6
          have HB6 := Lib.hid (HB5c.out.trans ((Below.refl w1.heap.size _).grown hg6 HBS.out (fun k hk => (World.ownsRow.lt HOA.out.own k hk).1)))
          have HO6 := Lib.hid (HOA.out.push hg6 hown2 (by rw [HSZ2.out]; exact hat6) HRA.out)
          clear hown2 hg6 hat6 HB5 HLS HBS HOA HRA HB5c HN2
          go_wp2_with fail
          go_roundw
          case rel => exact ⟨j + 1, acc ++ [r], by omega, by go_num, HO6.out, HM2.out, HOK2.out, HB6.out⟩
          case measure => simp [intOf]; omega
      · obtain rfl : j = L.length := by omega
        have HR : Hid (Fa.Rdg opsS (fun l => ∀ o ∈ l, o.Ok) s (acc.map (·.1)) true) := ⟨fun _ => ⟨by unfold opsS; rw [HM.out, List.take_length]; exact Fa.got_data HPK.out, fun o ho => by obtain ⟨r, hr, rfl⟩ := List.mem_map.1 ho; exact HOK.out r hr⟩, fun e => by cases e⟩
        go_wp2_with fail
        go_ret2
        exact ⟨ListO.mk (HO.out.low HB1.out.size) HR.out, HBX.out⟩
end Go.Proofs.YthikdkeanndidaaDoor
