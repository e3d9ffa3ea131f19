/-
  CONTRACTS: the reference's Numbers, parts, some, ReadNumbers.
-/
import Derived.Test.YthikdkeanndidaaDoorCl
namespace Go.Proofs.YthikdkeanndidaaDoor
open Go Go.RowKit
set_option linter.unusedVariables false
set_option linter.unusedSimpArgs false
set_option maxRecDepth 1000000

set_option maxHeartbeats 2000000 in
/-- the reference's Numbers -/
theorem rnums_any (A : Nat → Prop) (l : List Int) (p : Option Addr) (n c : Nat) (w : World) (h : SlA encI A w (.slice p n c) l) (hok : ∀ n ∈ l, InI n) (hz : (Fa.packL (l.map itS)).length ≤ 1000000000) :
    Calls Tryd.prog 41 #[.slice p n c] w fun e w' => e = .returned (.string (Fa.numsS l)) ∧ Below w.heap.size w w' := by
  obtain ⟨e1, hm, hat⟩ := h.at_
  subst e1
  unfold maxLen at hm
  have hln : l.length ≤ 1000000000 := by
    have := Fa.packL_count (l.map itS)
    rw [List.length_map] at this
    omega
  have HAT := Lib.hid hat
  have HOK := Lib.hid hok
  have HZ := Lib.hid hz
  obtain ⟨ps, hps⟩ : ∃ s, s = Fa.numsS l := ⟨_, rfl⟩
  rw [← hps]
  have HPS := Lib.hid hps
  clear h hat hok hz hps
  go_enter Tryd.func41, Tryd.ntmps41
  go_wp2_with fail
  go_loopw [3, 4] (fun out i wr => ∃ j : Nat, j ≤ l.length ∧ i = .int .i64 j ∧ Hid (OwnL encN 9 wr w.heap.size out ((l.take j).map itS)) ∧ Hid (Below w.heap.size w wr)) (fun _ i _ => l.length - (intOf i).toNat)
  case atStart => exact ⟨0, Nat.zero_le _, rfl, OwnL.isNil _ _ _ _, Below.refl _ _⟩
  case round =>
    obtain ⟨j, hj, rfl, HO, HB⟩ := hrel
    obtain ⟨wx, rfl⟩ : ∃ x, x = wr := ⟨wr, rfl⟩
    by_cases hlt : j < l.length
    · have hlti : (j : Int) < (l.length : Int) := by omega
      obtain ⟨b1, o1, rfl, hab, hcell⟩ := HAT.out j hlt
      obtain ⟨x, hx⟩ : ∃ x, x = l[j]'hlt := ⟨_, rfl⟩
      rw [← hx] at hcell
      have hxm : x ∈ l := by rw [hx]; exact List.getElem_mem hlt
      have x0 : wx.cell? ⟨b1, o1 + j, none⟩ = some (.int .i64 x) := by
        have h0 := hcell 0 _ (by decide) rfl
        have h1 : w.cell? ⟨b1, o1 + j, none⟩ = some (.int .i64 x) := by simpa [encI] using h0
        rw [HB.out.cell (World.block_lt_of_cell? w _ h1)]
        exact h1
      have hok := HOK.out x hxm
      have HD := Lib.hid (rdig_any x hok.1 hok.2 wx)
      obtain ⟨sx, hsx⟩ : ∃ s, s = itS x := ⟨_, rfl⟩
      rw [← hsx] at HD
      have HX : Hid ((l.take (j + 1)).map itS = (l.take j).map itS ++ [sx]) := by show _ = _; rw [List.take_succ_eq_append_getElem hlt, List.map_append, ← hx, hsx]; rfl
      obtain ⟨acc, hacc⟩ : ∃ a, a = (l.take j).map itS := ⟨_, rfl⟩
      have hal : acc.length = j := by rw [hacc, List.length_map, List.length_take]; omega
      rw [← hacc] at HO HX
      clear hcell hab hxm hx hok hsx hacc HAT
      go_wp2_with fail
      refine HD.out.mono ?_
      rintro e w5 ⟨rfl, hb5⟩
      have HB5 := Lib.hid (HB.out.trans (hb5.mono HB.out.size))
      have HO5 := Lib.hid (HO.out.below hb5)
      clear hb5 HD x0 HO HB
      have R1 : Hid (acc.length + 1 ≤ maxLen) := by unfold Hid maxLen; omega
      have R2 : Hid ((acc.length + 1) * 16 ≤ 140737488355328) := by unfold Hid; omega
      have HLS : Hid (CellsAt (w5.alloc (.cells #[.string sx] 9)) w5.heap.size 0 (encN.cells sx)) := cellsAt_alloc w5 [.string sx] _
      have HB5c : Hid (Below w.heap.size w (w5.alloc (.cells #[.string sx] 9))) := HB5.out.trans ((below_box w5 _).mono HB5.out.size)
      have HOA := Lib.hid (HO5.out.alloc (.cells #[.string sx] 9))
      clear HO5
      go_wp2_with (at_builtin; refine wpList_appendAt (E := encN) Tryd.underlying41 info_s rfl rfl (.tmp 11) (.tmp 17) rfl w.heap.size u3 acc ?_ ?_ w5.heap.size 1 sx ?_ ?_ ?_ ?_ ?_ ?_)
      · rfl
      · exact HOA.out
      · rfl
      · exact HLS.out
      · exact R1
      · exact R2
      · exact HB5c.out.size
      intro out2 w6 hown2 hg6 hat6
      have HB6 := Lib.hid (HB5c.out.trans ((Below.refl w.heap.size _).grown hg6 HB5c.out.size (fun k hk => (World.ownsRow.lt HOA.out k hk).1)))
      have HO6 := Lib.hid hown2
      clear hown2 hg6 hat6 HLS HOA HB5c
      rw [← HX.out] at HO6
      go_wp2_with fail
      go_roundw
      case rel => exact ⟨j + 1, by omega, by go_num, HO6, HB6.out⟩
      case measure => simp [intOf]; omega
    · obtain rfl : j = l.length := by omega
      rw [List.take_length] at HO
      obtain ⟨p2, c2, rfl, hsl⟩ := HO.out.sla.shape
      rw [List.length_map] at hsl
      have HR := Lib.hid (rpack_any (l.map itS) p2 l.length c2 wx hsl.sl HZ.out)
      have hpk : packS (l.map itS) = ps := HPS.out.symm
      rw [hpk] at HR
      clear hsl HAT hpk
      go_wp2_with fail
      refine HR.out.mono ?_
      rintro e w5 ⟨rfl, hb5⟩
      have HB5 := Lib.hid (HB.out.trans (hb5.mono HB.out.size))
      clear hb5
      go_wp2_with fail
      go_ret
      exact ⟨rfl, HB5.out⟩

/-- the strings of a pack of k of them -/
def PartsP (base : Nat) (k : Nat) (s : ByteArray) (e : Ending) (w' : World) : Prop := ∃ v L b, e = .returned (.tuple #[v, .bool (b && decide (L.length = k))]) ∧ OwnL encN 9 w' base v L ∧ Fa.Got s.data.toList L b
theorem PartsP.mk {base k : Nat} {s : ByteArray} {w' : World} {v : Value} {L : List ByteArray} {b bb : Bool} (h1 : OwnL encN 9 w' base v L) (h2 : Fa.Got s.data.toList L b) (h3 : bb = (b && decide (L.length = k))) : PartsP base k s (.returned (.tuple #[v, .bool bb])) w' := ⟨v, L, b, by rw [h3], h1, h2⟩
theorem rparts_any (s : ByteArray) (k : Nat) (w : World) (hs : s.size ≤ 1000000000) (hk : k ≤ 100) :
    Calls Tryd.prog 35 #[.string s, .int .i64 (k : Int)] w fun e w' => PartsP w.heap.size k s e w' ∧ Below w.heap.size w w' := by
  have HU := Lib.hid (runpack_any s w hs)
  go_enter Tryd.func35, Tryd.ntmps35
  go_wp2_with fail
  refine HU.out.mono ?_
  rintro e w1 ⟨⟨v, L, b, rfl, ho, hg⟩, hb1⟩
  obtain ⟨p, c, rfl, hsl⟩ := ho.sla.shape
  have HO := Lib.hid ho
  have HG := Lib.hid hg
  have HB1 := Lib.hid hb1
  clear ho hsl hg hb1 HU
  by_cases hL : L.length = k
  · have hq : ((L.length : Int) == (k : Int)) = true := by rw [hL]; simp
    have HD : Hid (decide (L.length = k) = true) := decide_eq_true hL
    clear hL
    cases b with
    | true =>
      go_wp2_with fail
      go_ret2
      exact ⟨PartsP.mk HO.out HG.out (by rw [HD.out]; rfl), HB1.out⟩
    | false =>
      go_wp2_with fail
      go_ret2
      exact ⟨PartsP.mk HO.out HG.out rfl, HB1.out⟩
  · have hq : ((L.length : Int) == (k : Int)) = false := by rw [beq_eq_false_iff_ne]; omega
    have HD : Hid (decide (L.length = k) = false) := decide_eq_false hL
    clear hL
    cases b with
    | true =>
      go_wp2_with fail
      go_ret2
      exact ⟨PartsP.mk HO.out HG.out (by rw [HD.out]; rfl), HB1.out⟩
    | false =>
      go_wp2_with fail
      go_ret2
      exact ⟨PartsP.mk HO.out HG.out rfl, HB1.out⟩

/-- numbers that are read of strings -/
def SomeP (base : Nat) (L : List ByteArray) (e : Ending) (w' : World) : Prop := ∃ v l b, e = .returned (.tuple #[v, .bool b]) ∧ OwnL encI 3 w' base v l ∧ (b = true → l.map itS = L ∧ ∀ n ∈ l, InI n) ∧ (b = false → ∃ y ∈ L, ∀ z, InI z → itS z ≠ y)
theorem SomeP.mk {base : Nat} {L : List ByteArray} {w' : World} {v : Value} {l : List Int} {b : Bool} (h1 : OwnL encI 3 w' base v l) (h2 : b = true → l.map itS = L ∧ ∀ n ∈ l, InI n) (h3 : b = false → ∃ y ∈ L, ∀ z, InI z → itS z ≠ y) : SomeP base L (.returned (.tuple #[v, .bool b])) w' := ⟨v, l, b, rfl, h1, h2, h3⟩
set_option maxHeartbeats 2000000 in
theorem rsome_any (L : List ByteArray) (p : Option Addr) (n c : Nat) (w : World) (h : SlIs encN w (.slice p n c) L) (hz : ∀ s ∈ L, s.size ≤ 1000000000) (hln : L.length ≤ 1000000000) :
    Calls Tryd.prog 36 #[.slice p n c] w fun e w' => SomeP w.heap.size L e w' ∧ Below w.heap.size w w' := by
  obtain ⟨e1, hm1, g1⟩ := h.strAt
  subst e1
  unfold maxLen at hm1
  have G1 := Lib.hid g1
  have HZ := Lib.hid hz
  clear h g1 hz
  go_enter Tryd.func36, Tryd.ntmps36
  go_wp2_with fail
  go_loopw [4, 5] (fun out i wr => ∃ (j : Nat) (acc : List Int), j ≤ L.length ∧ i = .int .i64 j ∧ Hid (OwnL encI 3 wr w.heap.size out acc) ∧ Hid (acc.map itS = L.take j) ∧ Hid (∀ n ∈ acc, InI n) ∧ Hid (Below w.heap.size w wr)) (fun _ i _ => L.length - (intOf i).toNat)
  case atStart => exact ⟨0, [], Nat.zero_le _, rfl, OwnL.isNil _ _ _ _, rfl, fun n hn => (by cases hn), Below.refl _ _⟩
  case round =>
    obtain ⟨j, acc, hj, rfl, HO, HM, HOK, HB⟩ := hrel
    obtain ⟨wx, rfl⟩ : ∃ x, x = wr := ⟨wr, rfl⟩
    by_cases hlt : j < L.length
    · have hlti : (j : Int) < (L.length : Int) := by omega
      obtain ⟨b1, o1, rfl, a1⟩ := G1.out j hlt
      obtain ⟨x, hx⟩ : ∃ x, x = L[j]'hlt := ⟨_, rfl⟩
      rw [← hx] at a1
      have hxm : x ∈ L := by rw [hx]; exact List.getElem_mem hlt
      have x0 : wx.cell? ⟨b1, o1 + j, none⟩ = some (.string x) := by
        rw [HB.out.cell (World.block_lt_of_cell? w _ a1)]; exact a1
      have HRD := Lib.hid (rread_any x wx (HZ.out x hxm))
      have HX := Lib.hid hx
      have HXM := Lib.hid hxm
      have hal : acc.length = j := by have := congrArg List.length HM.out; rw [List.length_map, List.length_take] at this; omega
      clear a1 hx hxm G1
      go_wp2_with fail
      refine HRD.out.mono ?_
      rintro e w5 ⟨⟨m, rfl, hm⟩, hb5⟩
      have hr := num_rdg hm
      obtain ⟨b, hb⟩ : ∃ b, b = (Fa.numOf x.data.toList).isSome := ⟨_, rfl⟩
      rw [← hb] at hr ⊢
      have HB5 := Lib.hid (HB.out.trans (hb5.mono HB.out.size))
      have HO5 := Lib.hid (HO.out.below hb5)
      clear hb5 HRD x0 HO HB hm hb
      cases b with
      | false =>
        have HBAD := Lib.hid (hr.2 rfl)
        clear hr
        go_wp2_with fail
        go_ret2
        exact ⟨SomeP.mk (l := []) (OwnL.isNil _ _ _ _) (fun e => by cases e) (fun _ => ⟨x, HXM.out, HBAD.out⟩), HB5.out⟩
      | true =>
        obtain ⟨hr1, hr2⟩ := hr.1 rfl
        have HM2 : Hid ((acc ++ [m]).map itS = L.take (j + 1)) := by show _ = _; rw [List.map_append, HM.out, List.take_succ_eq_append_getElem hlt, ← HX.out]; simp [hr1]
        have HOK2 : Hid (∀ n ∈ acc ++ [m], InI n) := fun n hn => by
          rcases List.mem_append.1 hn with h | h
          · exact HOK.out n h
          · rw [List.mem_singleton] at h; rw [h]; exact hr2
        clear hr hr1 hr2
        have R1 : Hid (acc.length + 1 ≤ maxLen) := by unfold Hid maxLen; omega
        have R2 : Hid ((acc.length + 1) * 8 ≤ 140737488355328) := by unfold Hid; omega
        have HLS : Hid (CellsAt (w5.alloc (.cells #[.int .i64 m] 3)) w5.heap.size 0 (encI.cells m)) := cellsAt_alloc w5 [.int .i64 m] _
        have HB5c : Hid (Below w.heap.size w (w5.alloc (.cells #[.int .i64 m] 3))) := HB5.out.trans ((below_box w5 _).mono HB5.out.size)
        have HOA := Lib.hid (HO5.out.alloc (.cells #[.int .i64 m] 3))
        clear HO5
        go_wp2_with (at_builtin; refine wpList_appendAt (E := encI) Tryd.underlying25 info_i rfl rfl (.tmp 24) (.tmp 26) rfl w.heap.size u4 acc ?_ ?_ w5.heap.size 1 m ?_ ?_ ?_ ?_ ?_ ?_)
        · rfl
        · exact HOA.out
        · rfl
        · exact HLS.out
        · exact R1
        · exact R2
        · exact HB5c.out.size
        intro out2 w6 hown2 hg6 hat6
        have HB6 := Lib.hid (HB5c.out.trans ((Below.refl w.heap.size _).grown hg6 HB5c.out.size (fun k hk => (World.ownsRow.lt HOA.out k hk).1)))
        have HO6 := Lib.hid hown2
        clear hown2 hg6 hat6 HLS HOA HB5c
        go_wp2_with fail
        go_roundw
        case rel => exact ⟨j + 1, acc ++ [m], by omega, by go_num, HO6.out, HM2.out, HOK2.out, HB6.out⟩
        case measure => simp [intOf]; omega
    · obtain rfl : j = L.length := by omega
      have HF : Hid (acc.map itS = L) := by have := HM.out; rwa [List.take_length] at this
      go_wp2_with fail
      go_ret2
      exact ⟨SomeP.mk HO.out (fun _ => ⟨HF.out, HOK.out⟩) (fun e => by cases e), HB.out⟩

set_option maxHeartbeats 2000000 in
/-- the reference's ReadNumbers -/
theorem rreadNums_any (s : ByteArray) (w : World) (hs : s.size ≤ 1000000000) :
    Calls Tryd.prog 38 #[.string s] w fun e w' => ListI w.heap.size s e w' ∧ Below w.heap.size w w' := by
  have HU := Lib.hid (runpack_any s w hs)
  go_enter Tryd.func38, Tryd.ntmps38
  go_wp2_with fail
  refine HU.out.mono ?_
  rintro e w1 ⟨⟨v, L, b, rfl, ho, hg⟩, hb1⟩
  have HB1 := Lib.hid hb1
  obtain ⟨p, c, rfl, hsl⟩ := ho.sla.shape
  obtain ⟨-, hm, hat⟩ := hsl.at_
  unfold maxLen at hm
  have HAT := Lib.hid hat
  have hcnt : L.length ≤ 1000000000 := by
    cases b with
    | true => have := Fa.packL_count L; rw [hg.1 rfl, Fa.len_data] at this; omega
    | false => rw [(hg.2 rfl).1]; exact Nat.zero_le _
  have HSZ := Lib.hid (got_small hs hg)
  have HG := Lib.hid hg
  clear HU hb1 ho hsl hat hg
  go_wp2_with fail
  go_loopw [5, 6, 7, 8] (fun ok out i _ wr => ∃ (j : Nat) (acc : List Int) (b1 : Bool), j ≤ L.length ∧ i = .int .i64 j ∧ ok = .bool b1 ∧ acc.length = j ∧ Hid (OwnL encI 3 wr w1.heap.size out acc) ∧ Hid (b1 = true → b = true ∧ acc.map itS = L.take j ∧ ∀ n ∈ acc, InI n) ∧ Hid (b1 = false → ∀ l : List Int, (∀ n ∈ l, InI n) → Fa.numsS l ≠ s) ∧ Hid (Below w1.heap.size w1 wr)) (fun _ _ i _ _ => L.length - (intOf i).toNat)
  case atStart =>
    refine ⟨0, [], b, Nat.zero_le _, rfl, rfl, rfl, OwnL.isNil _ _ _ _, fun e => ⟨e, rfl, fun n hn => by cases hn⟩, fun e l hl => ?_, Below.refl _ _⟩
    subst e
    exact Fa.list_bad1 HG.out l hl
  case round =>
    obtain ⟨j, acc, b1, hj, rfl, rfl, hal, HO, HY, HN, HB⟩ := hrel
    obtain ⟨wx, rfl⟩ : ∃ x, x = wr := ⟨wr, rfl⟩
    have HBX := Lib.hid (HB1.out.trans (HB.out.mono HB1.out.size))
    by_cases hlt : j < L.length
    · have hlti : (j : Int) < (L.length : Int) := by omega
      cases b1 with
      | false =>
        have HR : Hid (Fa.Rdg Fa.numsS (fun l => ∀ n ∈ l, InI n) s [] false) := ⟨fun e => (by cases e), fun _ => HN.out rfl⟩
        clear HAT
        go_wp2_with fail
        go_ret2
        exact ⟨ListI.mk (OwnL.isNil _ _ _ _) HR.out, HBX.out⟩
      | true =>
        obtain ⟨bb, o1, rfl, hab, hcell⟩ := HAT.out j hlt
        obtain ⟨x, hx⟩ : ∃ x, x = L[j]'hlt := ⟨_, rfl⟩
        rw [← hx] at hcell
        have hxm : x ∈ L := by rw [hx]; exact List.getElem_mem hlt
        have x0 : wx.cell? ⟨bb, o1 + j, none⟩ = some (.string x) := by
          have h1 : w1.cell? ⟨bb, o1 + j, none⟩ = some (.string x) := by have := hcell 0 _ (by decide) rfl; simpa [encN] using this
          rw [HB.out.cell (World.block_lt_of_cell? w1 _ h1)]; exact h1
        have HRD := Lib.hid (rread_any x wx (HSZ.out x hxm))
        have HX := Lib.hid hx
        obtain ⟨hbt, hm1, hm2⟩ := HY.out rfl
        have HM := Lib.hid hm1
        have HOK := Lib.hid hm2
        have hpk := HG.out.1 hbt
        have HPK := Lib.hid hpk
        clear hcell hab hxm hx HAT hm1 hm2 hpk HY HN
        subst hbt
        go_wp2_with fail
        refine HRD.out.mono ?_
        rintro e w5 ⟨⟨m, rfl, hm⟩, hb5⟩
        have hr := num_rdg hm
        obtain ⟨b, hb⟩ : ∃ b, b = (Fa.numOf x.data.toList).isSome := ⟨_, rfl⟩
        rw [← hb] at hr ⊢
        have HB5 := Lib.hid (HB.out.trans (hb5.mono HB.out.size))
        have HO5 := Lib.hid (HO.out.below hb5)
        have HY2 : Hid (b = true → true = true ∧ (acc ++ [m]).map itS = L.take (j + 1) ∧ ∀ n ∈ acc ++ [m], InI n) := fun e => by
          subst e
          obtain ⟨hr1, hr2⟩ := hr.1 rfl
          refine ⟨rfl, ?_, fun n hn => ?_⟩
          · rw [List.map_append, HM.out, List.take_succ_eq_append_getElem hlt, ← HX.out]; simp [hr1]
          · rcases List.mem_append.1 hn with h | h
            · exact HOK.out n h
            · rw [List.mem_singleton] at h; rw [h]; exact hr2
        have HN2 : Hid (b = false → ∀ l : List Int, (∀ n ∈ l, InI n) → Fa.numsS l ≠ s) := fun e l hl => by
          subst e
          exact Fa.list_bad2 (by omega) HPK.out hlt (fun y hy => by rw [← HX.out]; exact hr.2 rfl y hy) l hl
        clear hb5 HRD x0 HO HB hm hb hr HM HOK HPK HX
        have R1 : Hid (acc.length + 1 ≤ maxLen) := by unfold Hid maxLen; omega
        have R2 : Hid ((acc.length + 1) * 8 ≤ 140737488355328) := by unfold Hid; omega
        have HLS : Hid (CellsAt (w5.alloc (.cells #[.int .i64 m] 3)) w5.heap.size 0 (encI.cells m)) := cellsAt_alloc w5 [.int .i64 m] _
        have HB5c : Hid (Below w1.heap.size w1 (w5.alloc (.cells #[.int .i64 m] 3))) := HB5.out.trans ((below_box w5 _).mono HB5.out.size)
        have HOA := Lib.hid (HO5.out.alloc (.cells #[.int .i64 m] 3))
        clear HO5
        go_wp2_with (at_builtin; refine wpList_appendAt (E := encI) Tryd.underlying25 info_i rfl rfl (.tmp 31) (.tmp 33) rfl w1.heap.size u6 acc ?_ ?_ w5.heap.size 1 m ?_ ?_ ?_ ?_ ?_ ?_)
        · rfl
        · exact HOA.out
        · rfl
        · exact HLS.out
        · exact R1
        · exact R2
        · exact HB5c.out.size
        intro out2 w6 hown2 hg6 hat6
        have HB6 := Lib.hid (HB5c.out.trans ((Below.refl w1.heap.size _).grown hg6 HB5c.out.size (fun k hk => (World.ownsRow.lt HOA.out k hk).1)))
        have HO6 := Lib.hid hown2
        clear hown2 hg6 hat6 HLS HOA HB5c
        go_wp2_with fail
        go_roundw
        case rel => exact ⟨j + 1, acc ++ [m], b, by omega, by go_num, rfl, by simp [hal], HO6.out, HY2.out, HN2.out, HB6.out⟩
        case measure => simp [intOf]; omega
    · obtain rfl : j = L.length := by omega
      cases b1 with
      | false =>
        have HR : Hid (Fa.Rdg Fa.numsS (fun l => ∀ n ∈ l, InI n) s [] false) := ⟨fun e => (by cases e), fun _ => HN.out rfl⟩
        clear HAT
        go_wp2_with fail
        go_ret2
        exact ⟨ListI.mk (OwnL.isNil _ _ _ _) HR.out, HBX.out⟩
      | true =>
        obtain ⟨hbt, hm1, hm2⟩ := HY.out rfl
        have HR : Hid (Fa.Rdg Fa.numsS (fun l => ∀ n ∈ l, InI n) s acc true) := ⟨fun _ => ⟨by unfold Fa.numsS; rw [hm1, List.take_length]; exact Fa.got_data (HG.out.1 hbt), hm2⟩, fun e => by cases e⟩
        clear HAT hm1 hm2 HY HN
        go_wp2_with fail
        go_ret2
        exact ⟨ListI.mk (HO.out.low HB1.out.size) HR.out, HBX.out⟩
end Go.Proofs.YthikdkeanndidaaDoor
