/-
  CONTRACTS: fact.listOf: what reads the pack of a list.
-/
import Derived.Test.YthikdkeanndidaaDoorCf
import Derived.Maps.AppendAt
namespace Go.Proofs.YthikdkeanndidaaDoor
open Go Go.RowKit
set_option linter.unusedVariables false
set_option linter.unusedSimpArgs false
set_option maxRecDepth 100000

namespace Fa
theorem got_data {s : ByteArray} {L : List ByteArray} (h : packL L = s.data.toList) : packS L = s := ByteArray.ext (Array.toList_inj.1 (by rw [packS_data]; exact h))
theorem list_bad1 {α : Type} {S : α → ByteArray} {Ok : α → Prop} {s : ByteArray} {L : List ByteArray} (hg : Got s.data.toList L false) (l : List α) (hl : ∀ y ∈ l, Ok y) : packS (l.map S) ≠ s := fun e => (hg.2 rfl).2 (l.map S) (by rw [← e, packS_data])
theorem list_bad2 {α : Type} {S : α → ByteArray} {Ok : α → Prop} {s : ByteArray} {L : List ByteArray} (hs : s.size < 9223372036854775808) (hg : packL L = s.data.toList) {j : Nat} (hj : j < L.length) (hb : ∀ y, Ok y → S y ≠ L[j]) (l : List α) (hl : ∀ y ∈ l, Ok y) : packS (l.map S) ≠ s := by
  intro e
  have h1 : packL (l.map S) = packL L := by rw [hg, ← e, packS_data]
  have h2 := pack_inj (by rw [h1, hg, len_data]; exact hs) h1
  subst h2
  rw [List.getElem_map] at hb
  exact hb _ (hl _ (List.getElem_mem (by simpa using hj))) rfl
end Fa
theorem OwnL.low {α : Type} {E : Enc α} {t : TypeId} {w : World} {b b' : Nat} {v : Value} {L : List α} (h : OwnL E t w b v L) (hb : b' ≤ b) : OwnL E t w b' v L := by
  obtain ⟨h1, h2 | ⟨g, cap, cur, e, hg, rest⟩⟩ := h
  · exact ⟨h1, .inl h2⟩
  · exact ⟨h1, .inr ⟨g, cap, cur, e, Nat.le_trans hb hg, rest⟩⟩
/-- append of one element of a row of one's own, with the block that it lies in then -/
theorem wpList_appendAt {α : Type} {E : Enc α} {P : Program} {w : World} {ops : Array Oper} {rest : List Oper} {o : Oper} {a : Act} {Q : Exit → Act → World → Prop} {sT eT : TypeId} {z : Value} {bytes : Nat}
    (hu : P.underlying sT = some (.slice eT)) (hinfo : (P.info? eT).map (fun i => (i.zero, i.size, i.bytes)) = some (some z, E.size, bytes)) (hzs : z.cells.size = E.size)
    (hgd : o.guard = none) (s x : Operand)
    (ho : o.op = .call { callee := .builtin .append, args := #[s, x], argTypes := #[sT, sT] })
    (base : Nat) (v : Value) (L : List α) (hs : a.eval s = v) (hown : OwnL E eT w base v L) (b c : Nat) (y : α) (hx : a.eval x = .slice (some ⟨b, 0, none⟩) 1 c) (hl : CellsAt w b 0 (E.cells y))
    (hL : Hid (L.length + 1 ≤ maxLen)) (hL2 : Hid ((L.length + 1) * bytes ≤ 140737488355328)) (hbase : base ≤ w.heap.size)
    (h : ∀ v' w', OwnL E eT w' base v' (L ++ [y]) → w.grownBy w' v.ownBlock → (v'.ownBlock = v.ownBlock ∨ v'.ownBlock = some w.heap.size) → wpList P ops Q rest (a.put o.dst v') w') : wpList P ops Q (o :: rest) a w := by
  obtain ⟨i0, hi, hz0, hz1, hz2⟩ := info_parts hinfo
  refine wpList_plain hgd fun K hK => ?_
  obtain ⟨v', w', hr, h2, h3, h4, h5⟩ := run_append_own_at (P := P) w base sT o.type eT i0 z E.size bytes hu hi hz0 hz1 hz2 hzs E.pos v L.length (E.all L) hown ⟨b, 0, none⟩ 1 c (E.cells y) (by rw [E.len, Nat.one_mul]) (fun j u hj => by rw [add_lit]; exact hl j u hj) (fun u hu => E.one y u hu) hL.out hL2.out hbase
  unfold Oper.wp execOp
  simp only [ho, resolve, invoke, builtin, Sem.run_bind, Sem.run_pure, Result.andThen_ok, List.map_toArray, List.map_cons, List.map_nil, hs, hx, hr]
  refine hK _ _ (h v' w' ?_ h3 h5)
  unfold OwnL
  rw [List.length_append, E.all_append, Enc.all_cons, Enc.all_nil, List.append_nil]
  exact h2

theorem info_i : (Tryd.prog.info? 3).map (fun i => (i.zero, i.size, i.bytes)) = some (some (.int .i64 0), encI.size, 8) := by kernel_rfl
theorem info_op : (Tryd.prog.info? 58).map (fun i => (i.zero, i.size, i.bytes)) = some (some (.agg #[.int .i64 0, .int .i64 0, .int .i64 0, .int .i64 0, .slice none 0 0, .string ⟨#[]⟩]), encOp.size, 72) := by kernel_rfl

/-- what reads ints: the closure -/
theorem listOf_int (F : FuncId) (bs : Array Value) (w : World) : Calls Tryd.prog 64 #[.func (.func F) #[] bs] w fun e w' => e = .returned (.func (.func 75) #[] #[.pointer (some ⟨w.heap.size, 0, none⟩)]) ∧ w' = w.alloc (.cells #[.func (.func F) #[] bs] 69) := by
  go_enter Tryd.func64, Tryd.ntmps64
  go_wp2_with fail
  go_ret
  exact ⟨rfl, rfl⟩
/-- what reads operations: the closure -/
theorem listOf_op (F : FuncId) (bs : Array Value) (w : World) : Calls Tryd.prog 33 #[.func (.func F) #[] bs] w fun e w' => e = .returned (.func (.func 61) #[] #[.pointer (some ⟨w.heap.size, 0, none⟩)]) ∧ w' = w.alloc (.cells #[.func (.func F) #[] bs] 73) := by
  go_enter Tryd.func33, Tryd.ntmps33
  go_wp2_with fail
  go_ret
  exact ⟨rfl, rfl⟩

/-- ints that have been read -/
def ListI (base : Nat) (s : ByteArray) (e : Ending) (w' : World) : Prop := ∃ v l b, e = .returned (.tuple #[v, .bool b]) ∧ OwnL encI 3 w' base v l ∧ Fa.Rdg Fa.numsS (fun l => ∀ n ∈ l, InI n) s l b
theorem ListI.mk {base : Nat} {s : ByteArray} {w' : World} {v : Value} {l : List Int} {b : Bool} (h1 : OwnL encI 3 w' base v l) (h2 : Fa.Rdg Fa.numsS (fun l => ∀ n ∈ l, InI n) s l b) : ListI base s (.returned (.tuple #[v, .bool b])) w' := ⟨v, l, b, rfl, h1, h2⟩

set_option maxHeartbeats 2000000 in
theorem readInts_any (s : ByteArray) (cb : Nat) (w : World) (hs : s.size ≤ 1000000000) (hw : LaidW w) (F : FuncId) (bs : Array Value) (hcl : w.cell? ⟨cb, 0, none⟩ = some (.func (.func F) #[] bs))
    (hF : ∀ args w, (callFunc F args).run Tryd.prog w = .ok (.enter F args) w)
    (hC : ∀ p : ByteArray, p.size ≤ 1000000000 → ∀ w1, Below w.heap.size w w1 → Calls Tryd.prog F (#[.string p] ++ bs) w1 fun e w2 => (∃ n b, e = .returned (.tuple #[.int .i64 n, .bool b]) ∧ Fa.Rdg itS InI p n b) ∧ Below w1.heap.size w1 w2) :
    Calls Tryd.prog 75 #[.string s, .pointer (some ⟨cb, 0, none⟩)] w fun e w' => ListI w.heap.size s e w' ∧ Below w.heap.size w w' := by
  have HU := Lib.hid (unpack_any s w hs hw)
  have HC := Lib.hid hC
  have HCL := Lib.hid hcl
  clear hC hw hcl
  go_enter Tryd.func75, Tryd.ntmps75
  go_wp2_with fail
  refine HU.out.mono ?_
  rintro e w1 ⟨⟨v, L, b, rfl, ho, hg⟩, hb1⟩
  have HB1 := Lib.hid hb1
  clear HU hb1
  cases b with
  | false =>
    have HR : Hid (Fa.Rdg Fa.numsS (fun l => ∀ n ∈ l, InI n) s [] false) := ⟨fun e => (by cases e), fun _ l hl => Fa.list_bad1 hg l hl⟩
    clear hg ho
    go_wp2_with fail
    go_ret2
    exact ⟨ListI.mk (OwnL.isNil _ _ _ _) HR.out, HB1.out⟩
  | true =>
    have hpk := hg.1 rfl
    have hcnt : L.length ≤ 1000000000 := by have := Fa.packL_count L; rw [hpk, Fa.len_data] at this; omega
    obtain ⟨p, c, rfl, hsl⟩ := ho.sla.shape
    obtain ⟨-, -, hat⟩ := hsl.at_
    have HAT := Lib.hid hat
    have HPK := Lib.hid hpk
    have hszs : ∀ x ∈ L, x.size ≤ 1000000000 := fun x hx => by have := Fa.mem_size hx; rw [hpk, Fa.len_data] at this; omega
    have HSZ := Lib.hid hszs
    clear hg ho hpk hsl hat hszs
    go_wp2_with fail
    go_loopw [7, 21] (fun out i wr => ∃ (j : Nat) (acc : List Int), j ≤ L.length ∧ i = .int .i64 j ∧ Hid (OwnL encI 3 wr w1.heap.size out acc) ∧ Hid (acc.map itS = L.take j) ∧ Hid (∀ n ∈ acc, InI n) ∧ Hid (Below w1.heap.size w1 wr)) (fun _ i _ => L.length - (intOf i).toNat)
    case atStart => exact ⟨0, [], Nat.zero_le _, rfl, OwnL.isNil _ _ _ _, rfl, fun n hn => (by cases hn), Below.refl _ _⟩
    case round =>
      obtain ⟨j, acc, hj, rfl, HO, HM, HOK, HB⟩ := hrel
      obtain ⟨wx, rfl⟩ : ∃ x, x = wr := ⟨wr, rfl⟩
      have HBX := Lib.hid (HB1.out.trans (HB.out.mono HB1.out.size))
      by_cases hlt : j < L.length
      · have hlti : (j : Int) < (L.length : Int) := by omega
        obtain ⟨b1, o1, rfl, hab, hcell⟩ := HAT.out j hlt
        obtain ⟨x, hx⟩ : ∃ x, x = L[j]'hlt := ⟨_, rfl⟩
        rw [← hx] at hcell
        have hxm : x ∈ L := by rw [hx]; exact List.getElem_mem hlt
        have x0 : wx.cell? ⟨b1, o1 + j, none⟩ = some (.string x) := by
          have h1 : w1.cell? ⟨b1, o1 + j, none⟩ = some (.string x) := by have := hcell 0 _ (by decide) rfl; simpa [encN] using this
          rw [HB.out.cell (World.block_lt_of_cell? w1 _ h1)]
          exact h1
        have xcl : wx.cell? ⟨cb, 0, none⟩ = some (.func (.func F) #[] bs) := by rw [HBX.out.cell (World.block_lt_of_cell? w _ HCL.out)]; exact HCL.out
        have HCC := Lib.hid (HC.out x (HSZ.out x hxm) wx HBX.out)
        have HX := Lib.hid hx
        have hal : acc.length = j := by have := congrArg List.length HM.out; rw [List.length_map, List.length_take] at this; omega
        clear hcell hab hxm hx
        go_wp2_with fail
        refine HCC.out.mono ?_
        rintro e w5 ⟨⟨m, b, rfl, hr⟩, hb5⟩
        have HB5 := Lib.hid (HB.out.trans (hb5.mono HB.out.size))
        have HBY := Lib.hid (HBX.out.trans (hb5.mono HBX.out.size))
        have HO5 := Lib.hid (HO.out.below hb5)
        clear hb5 HCC x0 xcl HO
        cases b with
        | false =>
          have HR : Hid (Fa.Rdg Fa.numsS (fun l => ∀ n ∈ l, InI n) s [] false) := ⟨fun e => (by cases e), fun _ l hl => Fa.list_bad2 (by omega) HPK.out hlt (fun y hy => by rw [← HX.out]; exact hr.2 rfl y hy) l hl⟩
          clear hr
          go_wp2_with fail
          go_ret2
          exact ⟨ListI.mk (OwnL.isNil _ _ _ _) HR.out, HBY.out⟩
        | true =>
          obtain ⟨hr1, hr2⟩ := hr.1 rfl
          have HM2 : Hid ((acc ++ [m]).map itS = L.take (j + 1)) := by show _ = _; rw [List.map_append, HM.out, List.take_succ_eq_append_getElem hlt, ← HX.out]; simp [hr1]
          have HOK2 : Hid (∀ n ∈ acc ++ [m], InI n) := fun n hn => by
            rcases List.mem_append.1 hn with h | h
            · exact HOK.out n h
            · rw [List.mem_singleton] at h; rw [h]; exact hr2
          have R1 : Hid (acc.length + 1 ≤ maxLen) := by unfold Hid maxLen; omega
          have R2 : Hid ((acc.length + 1) * 8 ≤ 140737488355328) := by unfold Hid; omega
          have HLS : Hid (CellsAt (w5.alloc (.cells #[.int .i64 m] 3)) w5.heap.size 0 (encI.cells m)) := cellsAt_alloc w5 [.int .i64 m] _
          have HBS : Hid (w1.heap.size ≤ (w5.alloc (.cells #[.int .i64 m] 3)).heap.size) := Nat.le_trans HB5.out.size (below_box w5 _).size
          have HOA := Lib.hid (HO5.out.alloc (.cells #[.int .i64 m] 3))
          clear hr hr1 hr2 HO5
          go_wp2_with (at_builtin; refine wpList_appendAt (E := encI) Tryd.underlying25 info_i rfl rfl (.tmp 33) (.tmp 35) rfl w1.heap.size u7 acc ?_ ?_ w5.heap.size 1 m ?_ ?_ ?_ ?_ ?_ ?_)
          · rfl
          · exact HOA.out
          · rfl
          · exact HLS.out
          · exact R1
          · exact R2
          · exact HBS.out
          intro out2 w6 hown2 hg6 hat6
          have HB6 := Lib.hid (HB5.out.trans (((below_box w5 (.cells #[.int .i64 m] 3)).mono HB5.out.size).trans ((Below.refl w1.heap.size _).grown hg6 (Nat.le_trans HB5.out.size (below_box w5 _).size) (fun k hk => (World.ownsRow.lt HOA.out k hk).1))))
          have HO6 := Lib.hid hown2
          clear hown2 hg6 hat6 HB5 HLS HBS HOA
          go_wp2_with fail
          go_roundw
          case rel => exact ⟨j + 1, acc ++ [m], by omega, by go_num, HO6.out, HM2.out, HOK2.out, HB6.out⟩
          case measure => simp [intOf]; omega
      · obtain rfl : j = L.length := by omega
        have HR : Hid (Fa.Rdg Fa.numsS (fun l => ∀ n ∈ l, InI n) s acc true) := ⟨fun _ => ⟨by unfold Fa.numsS; rw [HM.out, List.take_length]; exact Fa.got_data HPK.out, HOK.out⟩, fun e => by cases e⟩
        go_wp2_with fail
        go_ret2
        exact ⟨ListI.mk (HO.out.low HB1.out.size) HR.out, HBX.out⟩
end Go.Proofs.YthikdkeanndidaaDoor
