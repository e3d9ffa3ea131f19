/-
  CONTRACT: types.Print: the text of a type.
-/
import Derived.Test.YtbnnokibjccdaaaZfa
import Derived.Test.YtbnnokibjccdaaaPrP
import Derived.Test.YtbnnokibjccdaaaShelf
namespace Go.Proofs.Ytbnnokibjccdaaa
open Go Go.RowKit
set_option linter.unusedVariables false
set_option linter.unusedSimpArgs false

theorem copyCheck8 (B b : Nat) (bs : List Value) (w : World) (h : Lib.IsBuilder 75 5 B b bs w) :
    Calls Try.prog 78 #[.pointer (some ⟨b, 0, none⟩)] w fun e w' => e = .returned (.tuple #[]) ∧ (Lib.BuilderAt 75 5 B b (.pointer (some ⟨b, 0, none⟩)) bs w' ∧ Below B w w' ∧ Kept8 b w w') := by
  rcases h with h | h
  · refine (copyCheck_fresh b w h.cell0 h.shape h.frozen0).mono ?_
    rintro e w' ⟨rfl, rfl⟩
    exact ⟨rfl, h.used _, (Below.refl B w).setCell (p := ⟨b, 0, none⟩) h.1 _, fun k cs T r _ hkb hk => (Below.heap_setCell _ _ _ _ (by show k ≠ b; exact hkb)).trans hk⟩
  · refine (copyCheck_used b w h.cell0).mono ?_
    rintro e w' ⟨rfl, rfl⟩
    exact ⟨rfl, h, Below.refl B _, fun _ _ _ _ _ _ hk => hk⟩

set_option maxHeartbeats 2000000 in
set_option maxRecDepth 100000 in
theorem writeString8 (B b : Nat) (bs : List Value) (s : ByteArray) (w : World) (h : Lib.IsBuilder 75 5 B b bs w) (hlen : bs.length + s.size ≤ 140737488355328) (hBw : B ≤ w.heap.size) :
    Calls Try.prog 61 #[.pointer (some ⟨b, 0, none⟩), .string s] w fun e w' => e = .returned (.tuple #[.int .i64 s.size, .nilIface]) ∧ (Lib.BuilderAt 75 5 B b (.pointer (some ⟨b, 0, none⟩)) (bs ++ Lib.strCells s) w' ∧ Below B w w' ∧ Kept8 b w w') := by
  obtain ⟨i0, hi, hz0, hz1, hz2⟩ := info_parts infoByte
  go_enter Try.func61, Try.ntmps61
  go_wp2_with fail
  refine (copyCheck8 B b bs _ h).mono ?_
  rintro e w1 ⟨rfl, h1, hb1, hk1⟩
  obtain ⟨hB, v, hbk, hown, hne⟩ := h1
  have c0 : w1.cell? ⟨b, 0, none⟩ = some (.pointer (some ⟨b, 0, none⟩)) := by rw [Lib.cell_of_heap hbk]; rfl
  have c1 : w1.cell? ⟨b, 1, none⟩ = some v := by rw [Lib.cell_of_heap hbk]; rfl
  go_wp2_with (at_builtin; refine Lib.wpList_append_own_string _ rfl _ _ 38 9 rfl B 5 i0 Try.underlying38 Try.underlying9 hi hz0 hz1 hz2 _ _ _ rfl hown s rfl ?c3 ?c4 ?c5 ?_)
  case c3 => unfold maxLen; omega
  case c4 => omega
  case c5 => have := hb1.size; omega
  intro v' w2 hown' hgrow _
  have hlt : b < w1.heap.size := by
    rcases Nat.lt_or_ge b w1.heap.size with h' | h'
    · exact h'
    · simp [Array.getElem?_eq_none h'] at hbk
  have hb2 : w2.heap[b]? = some (.cells #[.pointer (some ⟨b, 0, none⟩), v] 75 (0, 0)) := by
    rw [hgrow.block b hlt (fun e => hne e.symm)]
    exact hbk
  have d0 : w2.cell? ⟨b, 0, none⟩ = some (.pointer (some ⟨b, 0, none⟩)) := by rw [Lib.cell_of_heap hb2]; rfl
  have d1 : w2.cell? ⟨b, 1, none⟩ = some v := by rw [Lib.cell_of_heap hb2]; rfl
  have f1 : w2.frozen? ⟨b, 1, none⟩ = false := Lib.frozen_of_heap hb2 1
  obtain ⟨ao, n', cap, rfl⟩ : ∃ ao n' cap, v' = .slice ao n' cap := by
    rcases hown'.2 with ⟨hv, _⟩ | ⟨g, cap, cur, hv, _⟩
    · exact ⟨_, _, _, hv⟩
    · exact ⟨_, _, _, hv⟩
  go_wp2
  go_ret2
  refine ⟨rfl, ?_, ?_, ?_⟩
  · exact Lib.BuilderAt.put (T := 75) (e := 5) hB hb2 (bs' := bs ++ Lib.strCells s) (by simpa [Lib.strCells_length] using hown') (by decide)
  · exact (hb1.grown hgrow (by have := hb1.size; omega) (fun k hk => (hown.lt k hk).1)).setCell (p := ⟨b, 1, none⟩) hB _
  · intro k cs T r hT hkb hk
    have h2 := hk1 k cs T r hT hkb hk
    have h3 : w2.heap[k]? = some (.cells cs T r) := by
      rw [hgrow.block k (heap_lt8 h2) (fun e => hT (row_type hown e.symm h2))]
      exact h2
    rw [Below.heap_setCell _ _ _ _ (by show k ≠ b; exact hkb)]
    exact h3

/-- what writes the text of a type into a builder -/
def WriteC (t : Tp) : Prop := ∀ (q : Rw) (B b : Nat) (pre : List UInt8) (w : World), IsP (fun k => k < B) w q t → B ≤ b → Lib.IsBuilder 75 5 B b (Lib.byteCells pre) w → B ≤ w.heap.size → pre.length + (prL t).length ≤ 2000000000 →
  Calls Try.prog 45 #[.pointer (some ⟨b, 0, none⟩), .agg #[.string q.name, .slice q.p q.n q.cap]] w fun e w' => e = .returned (.tuple #[]) ∧ Lib.IsBuilder 75 5 B b (Lib.byteCells (pre ++ prL t)) w' ∧ Below B w w' ∧ Kept8 b w w'
theorem str_cells (s : ByteArray) : Lib.strCells s = Lib.byteCells s.data.toList := rfl
theorem IsBuilder.lt {B b : Nat} {l : List Value} {w : World} (h : Lib.IsBuilder 75 5 B b l w) : b < w.heap.size ∧ B ≤ b := by
  rcases h with h | h
  · exact ⟨h.lt, h.1⟩
  · exact ⟨h.lt, h.1⟩
end Go.Proofs.Ytbnnokibjccdaaa

/-
  CONTRACT: types.Print: the walk.
-/
namespace Go.Proofs.Ytbnnokibjccdaaa
open Go Go.RowKit
set_option linter.unusedVariables false
set_option linter.unusedSimpArgs false
set_option maxRecDepth 100000

theorem tp_by : tpT ≠ byT := by decide
theorem box8 {b xb : Nat} {w w' : World} {v0 v1 : Value} (h : w.heap[xb]? = some (.cells #[v0, v1] tpT (0, 0))) (hk : Kept8 b w w') (hne : xb ≠ b) : w'.cell? ⟨xb, 0, none⟩ = some v0 ∧ w'.cell? ⟨xb, 1, none⟩ = some v1 ∧ w'.heap[xb]? = some (.cells #[v0, v1] tpT (0, 0)) := by
  have h2 := hk xb _ _ _ tp_by hne h
  exact ⟨by rw [Lib.cell_of_heap h2]; rfl, by rw [Lib.cell_of_heap h2]; rfl, h2⟩
theorem mark_data (j : Nat) : (if j = 0 then (⟨#[60]⟩ : ByteArray) else ⟨#[44]⟩).data.toList = [if j = 0 then 60 else 44] := by
  by_cases h : j = 0 <;> simp [h]

set_option maxHeartbeats 4000000 in
theorem write_step (s : ByteArray) (l : List Tp) (hS : ∀ j (a : j < l.length), WriteC l[j]) : WriteC (.mk s l) := by
  intro q B b pre w h hBb hbd hBw hz
  rw [prL_mk] at hz ⊢
  obtain ⟨e1, g⟩ := h.parts
  obtain ⟨s1, p, n, c⟩ := q
  have e1' : s1 = s := e1
  subst e1'
  have g' : IsPs (fun k => k < B) w (.slice p n c) l := g
  obtain ⟨z1, hm, -⟩ := g'.at_
  subst z1
  unfold maxLen at hm
  have hb := below_box w (.cells #[.string s1, .slice p l.length c] tpT)
  have hn1 := heap_alloc_new w (.cells #[.string s1, .slice p l.length c] tpT)
  have hlt := IsBuilder.lt hbd
  obtain ⟨w1, hw1⟩ : ∃ y, w.alloc (.cells #[.string s1, .slice p l.length c] tpT) = y := ⟨_, rfl⟩
  obtain ⟨xb, hxb⟩ : ∃ xb, w.heap.size = xb := ⟨_, rfl⟩
  have hn1' : w1.heap[xb]? = some (.cells #[.string s1, .slice p l.length c] tpT (0, 0)) := by rw [← hw1, ← hxb]; exact hn1
  rw [hw1] at hb
  have hsz1 : B ≤ w1.heap.size := Nat.le_trans hBw hb.size
  have x0 : w1.cell? ⟨xb, 0, none⟩ = some (.string s1) := by rw [Lib.cell_of_heap hn1']; rfl
  have hxne : xb ≠ b := by omega
  have hzs : pre.length + s1.size ≤ 2000000000 := by simp only [List.length_append, Fa.len_data] at hz; omega
  have HB1 : Hid (Below B w w1) := hb.mono hBw
  have HK1 : Hid (Kept8 b w w1) := Kept8.of_below hb
  have HBD := Lib.hid (builder_old hbd hb)
  have HN1 := Lib.hid hn1'
  have HG := Lib.hid (g'.low HB1.out)
  have HS := Lib.hid hS
  have HZ := Lib.hid hz
  have HX := Lib.hid hxne
  have HBW := Lib.hid hsz1
  clear h g g' e1 hb hS hz hbd hn1 hn1' hsz1 hlt hxne
  go_enter Try.func45, Try.ntmps45
  go_wp2_with fail
  clear hw1 hxb
  refine (writeString8 B b (Lib.byteCells pre) s1 w1 HBD.out (by rw [Lib.byteCells_length]; omega) HBW.out).mono ?_
  rintro e w2 ⟨rfl, hbd2, hb2, hk2⟩
  rw [str_cells, ← Lib.byteCells_append] at hbd2
  have HBD2 : Hid (Lib.IsBuilder 75 5 B b (Lib.byteCells (pre ++ s1.data.toList)) w2) := .inr hbd2
  have HB2 := Lib.hid (HB1.out.trans hb2)
  have HK2 := Lib.hid (HK1.out.trans hk2)
  have HG2 := Lib.hid (HG.out.low hb2)
  have HBW2 := Lib.hid (Nat.le_trans HBW.out hb2.size)
  obtain ⟨x0', x1, hn2⟩ := box8 HN1.out hk2 HX.out
  have HN2 := Lib.hid hn2
  clear hbd2 hb2 hk2 hn2 HBD HB1 HK1 HG HN1 HBW x0
  by_cases hl0 : l.length = 0
  · have hl0i : (l.length : Int) = 0 := by omega
    have hl : l = [] := List.length_eq_zero_iff.1 hl0
    clear hl0i hl0
    subst hl
    go_wp2_with fail
    exact bodyPost_ret (results_none rfl _ _ _) rfl ⟨rfl, by simpa [argsL] using HBD2.out, HB2.out, HK2.out⟩
  · have hl0i : ((l.length : Int) == 0) = false := by rw [beq_eq_false_iff_ne]; omega
    go_wp2_with fail
    have HPOS : Hid (0 < l.length) := by show _ < _; omega
    have hLP : (l.map prL).length = l.length := List.length_map _
    have HLP := Lib.hid hLP
    clear hLP x0' x1
    go_loopw [4, 6, 18] (fun mk _ i wr => ∃ (j : Nat) (mb : ByteArray), j ≤ l.length ∧ i = .int .i64 j ∧ mk = .string mb ∧ Hid (mb = if j = 0 then (⟨#[60]⟩ : ByteArray) else ⟨#[44]⟩) ∧ Hid (Lib.IsBuilder 75 5 B b (Lib.byteCells (pre ++ s1.data.toList ++ argsL ((l.map prL).take j))) wr) ∧ Hid (Below B w2 wr) ∧ Hid (Kept8 b w2 wr)) (fun _ _ i _ => l.length - (intOf i).toNat)
    case atStart => exact ⟨0, ⟨#[60]⟩, Nat.zero_le _, rfl, rfl, rfl, Lib.hid (by simpa [argsL] using HBD2.out), Below.refl _ _, fun _ _ _ _ _ _ hk => hk⟩
    case round =>
      obtain ⟨j, mb, hj, rfl, rfl, HMK, HO, HBR, HKR⟩ := hrel
      obtain ⟨wx, rfl⟩ : ∃ x, x = wr := ⟨wr, rfl⟩
      have HBX := Lib.hid (HB2.out.trans HBR.out)
      have HKX := Lib.hid (HK2.out.trans HKR.out)
      have HBWX := Lib.hid (Nat.le_trans HBW2.out HBR.out.size)
      by_cases hlt : j < l.length
      · have hlti : (j : Int) < (l.length : Int) := by omega
        have hjl : j < (l.map prL).length := by rw [HLP.out]; exact hlt
        obtain ⟨b1, o1, r, rfl, hip, ⟨c0, c1⟩⟩ := (HG2.out.low HBR.out).at_.2.2 j hlt
        have hst := argsL_take (l.map prL) hjl
        have hle := argsL_take_le (l.map prL) (j + 1)
        rw [List.getElem_map] at hst
        have HIP := Lib.hid hip
        have HSJ := Lib.hid (HS.out j hlt)
        generalize l[j]'hlt = t at hip HIP HSJ hst
        obtain ⟨rn, rp, rl, rc⟩ := r
        simp only at c0 c1
        have hzz : pre.length + (s1.data.toList.length + (argsL (l.map prL)).length) ≤ 2000000000 := by
          have := HZ.out
          simp only [List.length_append] at this
          omega
        rw [hst] at hle
        simp only [List.length_append, List.length_cons] at hle
        have hb4 := below_box wx (.cells #[.string rn, .slice rp rl rc] tpT)
        have hn4 := heap_alloc_new wx (.cells #[.string rn, .slice rp rl rc] tpT)
        obtain ⟨yb, hyb⟩ : ∃ yb, wx.heap.size = yb := ⟨_, rfl⟩
        obtain ⟨w4, hw4⟩ : ∃ y, wx.alloc (.cells #[.string rn, .slice rp rl rc] tpT) = y := ⟨_, rfl⟩
        rw [hw4] at hb4 hn4
        rw [hyb] at hn4
        have hyne : yb ≠ b := by have := (IsBuilder.lt HO.out).1; omega
        have HN4 := Lib.hid hn4
        have HY := Lib.hid hyne
        have HO4 := Lib.hid (builder_old HO.out hb4)
        have HB4 : Hid (Below B w2 w4) := HBR.out.trans (hb4.mono HBWX.out)
        have HK4 : Hid (Kept8 b w2 w4) := HKR.out.trans (Kept8.of_below hb4)
        have HBW4 : Hid (B ≤ w4.heap.size) := Nat.le_trans HBWX.out hb4.size
        have HIP4 : Hid (IsP (fun k => k < B) w4 ⟨rn, rp, rl, rc⟩ t) := HIP.out.low (hb4.mono HBWX.out)
        have hms : mb.size = 1 := by rw [HMK.out]; by_cases h0 : j = 0 <;> simp [h0] <;> rfl
        have hnum : (Lib.byteCells (pre ++ s1.data.toList ++ argsL ((l.map prL).take j))).length + mb.size ≤ 140737488355328 := by rw [Lib.byteCells_length]; simp only [List.length_append]; omega
        have HNUM := Lib.hid hnum
        have HNU2 : Hid ((pre ++ s1.data.toList ++ argsL ((l.map prL).take j) ++ mb.data.toList).length + (prL t).length ≤ 2000000000) := by
          show _ ≤ _
          simp only [List.length_append, Fa.len_data]
          simp only [Fa.len_data] at hzz
          omega
        have HST : Hid (argsL ((l.map prL).take (j + 1)) = argsL ((l.map prL).take j) ++ mb.data.toList ++ prL t) := by
          show _ = _
          rw [hst, HMK.out, mark_data]
          simp
        clear hip hst hle hzz hb4 hn4 hyne hms hnum HIP HO HBR HKR hjl
        go_wp2_with fail
        clear hw4 hyb c0 c1
        refine (writeString8 B b _ mb w4 HO4.out HNUM.out HBW4.out).mono ?_
        rintro e w5 ⟨rfl, hbd5, hb5, hk5⟩
        rw [str_cells, ← Lib.byteCells_append] at hbd5
        have HO5 : Hid (Lib.IsBuilder 75 5 B b (Lib.byteCells (pre ++ s1.data.toList ++ argsL ((l.map prL).take j) ++ mb.data.toList)) w5) := .inr hbd5
        have HB5 := Lib.hid (HB4.out.trans hb5)
        have HK5 := Lib.hid (HK4.out.trans hk5)
        have HBW5 := Lib.hid (Nat.le_trans HBW4.out hb5.size)
        have HIP5 := Lib.hid (HIP4.out.low hb5)
        obtain ⟨z0, z1, -⟩ := box8 HN4.out hk5 HY.out
        clear hbd5 hb5 hk5 HO4 HB4 HK4 HBW4 HIP4 HN4
        go_wp2_with fail
        refine (HSJ.out ⟨rn, rp, rl, rc⟩ B b _ w5 HIP5.out hBb HO5.out HBW5.out HNU2.out).mono ?_
        rintro e w6 ⟨rfl, hbd6, hb6, hk6⟩
        have HO6 : Hid (Lib.IsBuilder 75 5 B b (Lib.byteCells (pre ++ s1.data.toList ++ argsL ((l.map prL).take (j + 1)))) w6) := Lib.hid (by
          rw [HST.out]
          simpa only [List.append_assoc] using hbd6)
        have HB6 := Lib.hid (HB5.out.trans hb6)
        have HK6 := Lib.hid (HK5.out.trans hk6)
        clear hbd6 hb6 hk6 HO5 HB5 HK5 HIP5 z0 z1
        go_wp2_with fail
        go_roundw
        case rel => exact ⟨j + 1, ⟨#[44]⟩, by omega, by go_num, rfl, rfl, HO6.out, HB6.out, HK6.out⟩
        case measure => simp [intOf]; omega
      · obtain rfl : j = l.length := by omega
        have hzz : pre.length + (s1.data.toList.length + ((argsL (l.map prL)).length + 1)) ≤ 2000000000 := by
          have := HZ.out
          have h0 := HPOS.out
          simp only [List.length_append] at this
          rw [if_neg (by omega)] at this
          simpa using this
        have hO : Lib.IsBuilder 75 5 B b (Lib.byteCells (pre ++ s1.data.toList ++ argsL (l.map prL))) wx := by
          have := HO.out
          rwa [List.take_of_length_le (by rw [HLP.out]; exact Nat.le_refl _)] at this
        have HOX := Lib.hid hO
        have HNUM : Hid ((Lib.byteCells (pre ++ s1.data.toList ++ argsL (l.map prL))).length + (⟨#[62]⟩ : ByteArray).size ≤ 140737488355328) := by
          show _ ≤ _
          rw [Lib.byteCells_length]
          simp only [List.length_append]
          have : (⟨#[62]⟩ : ByteArray).size = 1 := rfl
          omega
        clear hO hzz HO
        go_wp2_with fail
        refine (writeString8 B b _ ⟨#[62]⟩ wx HOX.out HNUM.out HBWX.out).mono ?_
        rintro e w5 ⟨rfl, hbd5, hb5, hk5⟩
        rw [str_cells, ← Lib.byteCells_append] at hbd5
        have HO5 : Hid (Lib.IsBuilder 75 5 B b (Lib.byteCells (pre ++ (s1.data.toList ++ (argsL (l.map prL) ++ [62])))) w5) := Lib.hid (.inr (by simpa only [List.append_assoc] using hbd5))
        have HB5 := Lib.hid (HBX.out.trans hb5)
        have HK5 := Lib.hid (HKX.out.trans hk5)
        clear hbd5 hb5 hk5
        go_wp2_with fail
        go_end0
        exact ⟨rfl, HO5.out, HB5.out, HK5.out⟩
theorem writeN_any : ∀ (N : Nat) (t : Tp), SizeOf.sizeOf t < N → WriteC t
  | 0, t, hN => absurd hN (by omega)
  | N + 1, .mk s l, hN => write_step s l fun j a => writeN_any N l[j] (by
    have h1 := List.sizeOf_lt_of_mem (List.getElem_mem a)
    simp only [Tp.mk.sizeOf_spec] at hN
    omega)
theorem write_any (t : Tp) : WriteC t := writeN_any _ t (Nat.lt_succ_self _)
/-- types.Print -/
theorem print_any (A : Nat → Prop) (q : Rw) (t : Tp) (w : World) (h : IsP A w q t) (hz : (prL t).length ≤ 1000000000) :
    Calls Try.prog 23 #[.agg #[.string q.name, .slice q.p q.n q.cap]] w fun e w' => e = .returned (.string (prS t)) ∧ Below w.heap.size w w' := by
  have h1 := h.here
  have hb := below_box w (.cells #[.string q.name, .slice q.p q.n q.cap] tpT)
  obtain ⟨x0, x1⟩ := box_p w q tpT
  simp only [Nat.zero_add] at x0 x1
  have hsz : (w.alloc (.cells #[.string q.name, .slice q.p q.n q.cap] tpT)).heap.size = w.heap.size + 1 := World.size_alloc _ _
  have hip : IsP (fun k => k < (w.alloc (.cells #[.string q.name, .slice q.p q.n q.cap] tpT)).heap.size) (w.alloc (.cells #[.string q.name, .slice q.p q.n q.cap] tpT)) q t := (h1.later hb).mono (fun k hk => by have := hk.2; omega)
  obtain ⟨w1, hw1⟩ : ∃ y, w.alloc (.cells #[.string q.name, .slice q.p q.n q.cap] tpT) = y := ⟨_, rfl⟩
  rw [hw1] at hb x0 x1 hsz hip
  have hb2 := below_box w1 (.cells #[.pointer none, .slice none 0 0] 75)
  have HBD := Lib.hid (Lib.fresh_isBuilder 75 byT w1)
  have y0 : (w1.alloc (.cells #[.pointer none, .slice none 0 0] 75)).cell? ⟨w.heap.size, 0, none⟩ = some (.string q.name) := by rw [hb2.cell (p := ⟨w.heap.size, 0, none⟩) (by show w.heap.size < _; omega)]; exact x0
  have y1 : (w1.alloc (.cells #[.pointer none, .slice none 0 0] 75)).cell? ⟨w.heap.size, 1, none⟩ = some (.slice q.p q.n q.cap) := by rw [hb2.cell (p := ⟨w.heap.size, 1, none⟩) (by show w.heap.size < _; omega)]; exact x1
  have HIP := Lib.hid (hip.low (hb2))
  have HB : Hid (Below w.heap.size w (w1.alloc (.cells #[.pointer none, .slice none 0 0] 75))) := hb.trans (hb2.mono hb.size)
  have HSZ : Hid (w1.heap.size ≤ (w1.alloc (.cells #[.pointer none, .slice none 0 0] 75)).heap.size) := hb2.size
  have HH : Hid (w.heap.size ≤ w1.heap.size) := hb.size
  have HW := Lib.hid (write_any t q w1.heap.size w1.heap.size [] _ HIP.out (Nat.le_refl _) HBD.out HSZ.out (by simp; omega))
  clear h h1 hb hip hb2 x0 x1 hsz
  go_enter Try.func23, Try.ntmps23
  go_wp2_with fail
  refine HW.out.mono ?_
  rintro e w3 ⟨rfl, hbd3, hb3, -⟩
  rw [List.nil_append] at hbd3
  have HBD3 := Lib.hid hbd3
  have HB3 := Lib.hid (HB.out.trans (hb3.mono HH.out))
  have HS3 := Lib.hid (Nat.le_trans HSZ.out hb3.size)
  clear hbd3 hb3 HW hw1
  go_wp2_with fail
  refine (Try.Builder_String_any w1.heap.size w1.heap.size (prL t) _ HBD3.out HS3.out).mono ?_
  rintro e w5 ⟨rfl, hb5⟩
  have HB5 := Lib.hid (HB3.out.trans (hb5.mono HH.out))
  clear hb5
  go_wp2_with fail
  go_ret
  exact ⟨rfl, HB5.out⟩
end Go.Proofs.Ytbnnokibjccdaaa

/-
  CONTRACT: the reference's Print.
-/
namespace Go.Proofs.Ytbnnokibjccdaaa
open Go Go.RowKit
set_option linter.unusedVariables false
set_option linter.unusedSimpArgs false
set_option maxRecDepth 100000

/-- what is no row of bytes is as it was -/
def K8 (w w' : World) : Prop := ∀ (k : Nat) (cs : Array Value) (T : TypeId) (r : Nat × Nat), T ≠ byT → w.heap[k]? = some (.cells cs T r) → w'.heap[k]? = some (.cells cs T r)
theorem K8.trans {w w1 w2 : World} (h : K8 w w1) (k : K8 w1 w2) : K8 w w2 := fun x cs T r hT hc => k x cs T r hT (h x cs T r hT hc)
theorem K8.of_below {w w' : World} (h : Below w.heap.size w w') : K8 w w' := fun x cs T r _ hc => (h.block x (heap_lt8 hc)).trans hc
theorem K8.refl (w : World) : K8 w w := fun _ _ _ _ _ h => h
/-- append of one byte to bytes of the call's own -/
theorem wpList_append8 {w : World} {ops : Array Oper} {rest : List Oper} {o : Oper} {a : Act} {Q : Exit → Act → World → Prop} (hgd : o.guard = none) (s x : Operand)
    (ho : o.op = .call { callee := .builtin .append, args := #[s, x], argTypes := #[38, 38] })
    (base : Nat) (v : Value) (L : List UInt8) (hs : a.eval s = v) (hown : Own8 w base v L) (b c : Nat) (y : UInt8) (hx : a.eval x = .slice (some ⟨b, 0, none⟩) 1 c) (hc : CellsAt w b 0 (enc8.all [y]))
    (hL : Hid (L.length + 1 ≤ 2000000000)) (hbase : base ≤ w.heap.size)
    (h : ∀ v' w', Own8 w' base v' (L ++ [y]) → Below base w w' → K8 w w' → wpList Try.prog ops Q rest (a.put o.dst v') w') : wpList Try.prog ops Q (o :: rest) a w := by
  obtain ⟨i0, hi, hz0, hz1, hz2⟩ := info_parts info_u8
  have hLL := hL.out
  refine wpList_append_own w hgd s x 38 ho base 5 i0 _ 1 1 Try.underlying38 hi hz0 hz1 hz2 rfl (by decide) v L.length (enc8.all L) hs hown ⟨b, 0, none⟩ 1 c (enc8.all [y]) hx (enc8.all_length [y]) (fun j u hu => by rw [add_lit]; exact hc j u hu) (enc8.all_one [y]) (by unfold maxLen; omega) (by omega) hbase ?_
  intro v' w' h1 h2 _
  refine h v' w' ?_ (OwnL.grown_below hown h2 hbase) ?_
  · unfold Own8 OwnL
    rw [List.length_append, Enc.all_append]
    exact h1
  · intro k cs T r hT hk
    rw [h2.block k (heap_lt8 hk) (fun e => hT (row_type (own8_row hown) e.symm hk))]
    exact hk
/-- what appends the text of a type -/
def RPrC (t : Tp) : Prop := ∀ (q : Rw) (B base : Nat) (pre : List UInt8) (v : Value) (w : World), IsP (fun k => k < B) w q t → B ≤ base → base ≤ w.heap.size → Own8 w base v pre → pre.length + (prL t).length ≤ 1900000000 →
  Calls Try.prog 42 #[v, .agg #[.string q.name, .slice q.p q.n q.cap]] w fun e w' => ∃ v', e = .returned v' ∧ Own8 w' base v' (pre ++ prL t) ∧ Below base w w' ∧ K8 w w'
theorem tp_by2 : 24 ≠ byT := by decide
theorem boxK {xb : Nat} {w w' : World} {v0 v1 : Value} (h : w.heap[xb]? = some (.cells #[v0, v1] 24 (0, 0))) (hk : K8 w w') : w'.cell? ⟨xb, 0, none⟩ = some v0 ∧ w'.cell? ⟨xb, 1, none⟩ = some v1 := by
  have h2 := hk xb _ _ _ tp_by2 h
  exact ⟨by rw [Lib.cell_of_heap h2]; rfl, by rw [Lib.cell_of_heap h2]; rfl⟩
set_option maxHeartbeats 4000000 in
theorem rprint_step (s : ByteArray) (l : List Tp) (hS : ∀ j (a : j < l.length), RPrC l[j]) : RPrC (.mk s l) := by
  intro q B base pre v w h hBb hbw hown hz
  rw [prL_mk] at hz ⊢
  obtain ⟨e1, g⟩ := h.parts
  obtain ⟨s1, p, n, c⟩ := q
  have e1' : s1 = s := e1
  subst e1'
  have g' : IsPs (fun k => k < B) w (.slice p n c) l := g
  obtain ⟨z1, hm, -⟩ := g'.at_
  subst z1
  unfold maxLen at hm
  have hb := below_box w (.cells #[.string s1, .slice p l.length c] 24)
  have hn1 := heap_alloc_new w (.cells #[.string s1, .slice p l.length c] 24)
  obtain ⟨w1, hw1⟩ : ∃ y, w.alloc (.cells #[.string s1, .slice p l.length c] 24) = y := ⟨_, rfl⟩
  obtain ⟨xb, hxb⟩ : ∃ xb, w.heap.size = xb := ⟨_, rfl⟩
  rw [hw1] at hb hn1
  rw [hxb] at hn1
  have hsz1 : base ≤ w1.heap.size := Nat.le_trans hbw hb.size
  have x0 : w1.cell? ⟨xb, 0, none⟩ = some (.string s1) := by rw [Lib.cell_of_heap hn1]; rfl
  have HB1 : Hid (Below base w w1) := hb.mono hbw
  have HK1 : Hid (K8 w w1) := K8.of_below hb
  have HO1 : Hid (Own8 w1 base v pre) := OwnL.below hown hb
  have HN1 := Lib.hid hn1
  have HG := Lib.hid (g'.low (hb.mono (Nat.le_trans hBb hbw)))
  have HS := Lib.hid hS
  have HZ := Lib.hid hz
  have HBB := Lib.hid hBb
  have HBW := Lib.hid hsz1
  obtain ⟨i0, hi, hz0, hz1, hz2⟩ := info_parts info_u8
  have HI := Lib.hid hi
  clear h g g' e1 hb hS hz hn1 hsz1 hown hi hBb
  go_enter Try.func42, Try.ntmps42
  go_wp2_with (at_builtin; refine Lib.wpList_append_own_string _ rfl _ _ 38 9 rfl base 5 i0 Try.underlying38 Try.underlying9 HI.out hz0 hz1 hz2 _ _ _ rfl (own8_row HO1.out) s1 rfl ?_ ?_ HBW.out ?_)
  · unfold maxLen; have := HZ.out; simp only [List.length_append, Fa.len_data] at this; omega
  · have := HZ.out; simp only [List.length_append, Fa.len_data] at this; omega
  intro v2 w2 hown2 hgrow _
  have hb2 := OwnL.grown_below HO1.out hgrow HBW.out
  have HO2 : Hid (Own8 w2 base v2 (pre ++ s1.data.toList)) := by
    refine row_own8 ?_ ?_ hown2
    · rw [List.length_append, Fa.len_data]
    · rw [Lib.byteCells_append]; rfl
  have hk2 : K8 w1 w2 := fun k cs T r hT hk => by
    rw [hgrow.block k (heap_lt8 hk) (fun e => hT (row_type (own8_row HO1.out) e.symm hk))]
    exact hk
  have HB2 := Lib.hid (HB1.out.trans hb2)
  have HK2 := Lib.hid (HK1.out.trans hk2)
  have HG2 := Lib.hid (HG.out.low (hb2.mono HBB.out))
  have HBW2 := Lib.hid (Nat.le_trans HBW.out hb2.size)
  have HN2 : Hid (w2.heap[xb]? = _) := hk2 xb _ _ _ tp_by2 HN1.out
  clear hown2 hgrow hb2 hk2 HO1 HB1 HK1 HG HBW HN1 x0 hw1
  have HLP := Lib.hid (show (l.map prL).length = l.length from List.length_map _)
  go_wp2_with fail
  go_loopw [0, 5] (fun u i wr => ∃ j : Nat, j ≤ l.length ∧ i = .int .i64 j ∧ Hid (Own8 wr base u (pre ++ s1.data.toList ++ argsL ((l.map prL).take j))) ∧ Hid (Below base w2 wr) ∧ Hid (K8 w2 wr)) (fun _ i _ => l.length - (intOf i).toNat)
  case atStart => exact ⟨0, Nat.zero_le _, rfl, Lib.hid (by simpa [argsL] using HO2.out), Below.refl _ _, K8.refl _⟩
  case round =>
    obtain ⟨j, hj, rfl, HO, HBR, HKR⟩ := hrel
    obtain ⟨wx, rfl⟩ : ∃ x, x = wr := ⟨wr, rfl⟩
    have HBX := Lib.hid (HB2.out.trans HBR.out)
    have HKX := Lib.hid (HK2.out.trans HKR.out)
    have HBWX := Lib.hid (Nat.le_trans HBW2.out HBR.out.size)
    obtain ⟨x0, x1⟩ := boxK HN2.out HKR.out
    have hzz : pre.length + (s1.data.toList.length + ((argsL (l.map prL)).length + (if l.length = 0 then ([] : List UInt8) else [62]).length)) ≤ 1900000000 := by
      have := HZ.out
      simp only [List.length_append] at this
      omega
    by_cases hlt : j < l.length
    · have hlti : (j : Int) < (l.length : Int) := by omega
      have hjl : j < (l.map prL).length := by rw [HLP.out]; exact hlt
      have hst := argsL_take (l.map prL) hjl
      have hle := argsL_take_le (l.map prL) (j + 1)
      rw [List.getElem_map] at hst
      rw [hst] at hle
      simp only [List.length_append, List.length_cons] at hle
      by_cases h0 : j = 0
      · have hj0 : ((j : Int) == 0) = true := by rw [h0]; rfl
        have CJ : (if j = 0 then (60 : UInt8) else 44) = 60 := by rw [if_pos h0]
        rw [CJ] at hst
        clear h0
        ·
          have hb3 := below_box wx (.cells #[.int .u8 60] 5)
          have HC3 : Hid (CellsAt (wx.alloc (.cells #[.int .u8 60] 5)) wx.heap.size 0 (enc8.all [60])) := cellsAt_alloc wx [.int .u8 60] _
          have HO3 : Hid (Own8 (wx.alloc (.cells #[.int .u8 60] 5)) base u0 _) := OwnL.below HO.out hb3
          have HB3 := Lib.hid (hb3.mono HBWX.out)
          have HK3 := Lib.hid (K8.of_below hb3)
          have HW3 := Lib.hid (Nat.le_trans HBWX.out hb3.size)
          clear hb3
          go_wp2_with (at_builtin; refine wpList_append8 rfl (.tmp 19) (.tmp 20) rfl base u0 _ rfl HO3.out wx.heap.size 1 60 rfl HC3.out ?_ HW3.out ?_)
          · unfold Hid; simp only [List.length_append]; omega
          intro v4 w4 hown4 hb4 hk4
          have HO4 := Lib.hid hown4
          have HB4 := Lib.hid ((HBR.out.trans HB3.out).trans hb4)
          have HK4 := Lib.hid ((HKR.out.trans HK3.out).trans hk4)
          have HW4 := Lib.hid (Nat.le_trans HW3.out hb4.size)
          obtain ⟨y0, y1⟩ := boxK HN2.out HK4.out
          obtain ⟨b1, o1, r, rfl, hip, ⟨c0, c1⟩⟩ := (HG2.out.low (HB4.out.mono HBB.out)).at_.2.2 j hlt
          have HIP := Lib.hid hip
          have HSJ := Lib.hid (HS.out j hlt)
          generalize l[j]'hlt = t at hip HIP HSJ hst hle
          obtain ⟨rn, rp, rl, rc⟩ := r
          simp only at c0 c1
          have HCL := Lib.hid (HSJ.out ⟨rn, rp, rl, rc⟩ B base _ v4 w4 HIP.out HBB.out HW4.out HO4.out (by simp only [List.length_append, List.length_cons, List.length_nil]; omega))
          have HST := Lib.hid hst
          clear hown4 hb4 hk4 hip HO3 HB3 HK3 HW3 HC3 x0 x1 hst
          go_wp2_with fail
          refine HCL.out.mono ?_
          rintro e w5 ⟨v5, rfl, hown5, hb5, hk5⟩
          have HO5 := Lib.hid hown5
          have HB5 := Lib.hid (HB4.out.trans hb5)
          have HK5 := Lib.hid (HK4.out.trans hk5)
          clear hown5 hb5 hk5 HCL y0 y1 c0 c1
          go_wp2_with fail
          go_roundw
          case rel => exact ⟨j + 1, by omega, by go_num, by
            have h1 := HO5.out
            show Own8 _ _ _ _
            rw [HST.out]
            simpa [List.append_assoc, CJ] using h1, HB5.out, HK5.out⟩
          case measure => simp [intOf]; omega
      · have hj0 : ((j : Int) == 0) = false := by rw [beq_eq_false_iff_ne]; omega
        have CJ : (if j = 0 then (60 : UInt8) else 44) = 44 := by rw [if_neg h0]
        rw [CJ] at hst
        clear h0
        ·
          have hb3 := below_box wx (.cells #[.int .u8 44] 5)
          have HC3 : Hid (CellsAt (wx.alloc (.cells #[.int .u8 44] 5)) wx.heap.size 0 (enc8.all [44])) := cellsAt_alloc wx [.int .u8 44] _
          have HO3 : Hid (Own8 (wx.alloc (.cells #[.int .u8 44] 5)) base u0 _) := OwnL.below HO.out hb3
          have HB3 := Lib.hid (hb3.mono HBWX.out)
          have HK3 := Lib.hid (K8.of_below hb3)
          have HW3 := Lib.hid (Nat.le_trans HBWX.out hb3.size)
          clear hb3
          go_wp2_with (at_builtin; refine wpList_append8 rfl (.tmp 22) (.tmp 23) rfl base u0 _ rfl HO3.out wx.heap.size 1 44 rfl HC3.out ?_ HW3.out ?_)
          · unfold Hid; simp only [List.length_append]; omega
          intro v4 w4 hown4 hb4 hk4
          have HO4 := Lib.hid hown4
          have HB4 := Lib.hid ((HBR.out.trans HB3.out).trans hb4)
          have HK4 := Lib.hid ((HKR.out.trans HK3.out).trans hk4)
          have HW4 := Lib.hid (Nat.le_trans HW3.out hb4.size)
          obtain ⟨y0, y1⟩ := boxK HN2.out HK4.out
          obtain ⟨b1, o1, r, rfl, hip, ⟨c0, c1⟩⟩ := (HG2.out.low (HB4.out.mono HBB.out)).at_.2.2 j hlt
          have HIP := Lib.hid hip
          have HSJ := Lib.hid (HS.out j hlt)
          generalize l[j]'hlt = t at hip HIP HSJ hst hle
          obtain ⟨rn, rp, rl, rc⟩ := r
          simp only at c0 c1
          have HCL := Lib.hid (HSJ.out ⟨rn, rp, rl, rc⟩ B base _ v4 w4 HIP.out HBB.out HW4.out HO4.out (by simp only [List.length_append, List.length_cons, List.length_nil]; omega))
          have HST := Lib.hid hst
          clear hown4 hb4 hk4 hip HO3 HB3 HK3 HW3 HC3 x0 x1 hst
          go_wp2_with fail
          refine HCL.out.mono ?_
          rintro e w5 ⟨v5, rfl, hown5, hb5, hk5⟩
          have HO5 := Lib.hid hown5
          have HB5 := Lib.hid (HB4.out.trans hb5)
          have HK5 := Lib.hid (HK4.out.trans hk5)
          clear hown5 hb5 hk5 HCL y0 y1 c0 c1
          go_wp2_with fail
          go_roundw
          case rel => exact ⟨j + 1, by omega, by go_num, by
            have h1 := HO5.out
            show Own8 _ _ _ _
            rw [HST.out]
            simpa [List.append_assoc, CJ] using h1, HB5.out, HK5.out⟩
          case measure => simp [intOf]; omega
    · obtain rfl : j = l.length := by omega
      have hfin : (l.map prL).take l.length = l.map prL := by rw [← HLP.out, List.take_length]
      have HO6 := Lib.hid HO.out
      rw [hfin] at HO6
      by_cases hl0 : l.length = 0
      · have hl0i : ¬ (0 : Int) < (l.length : Int) := by omega
        go_wp2_with fail
        go_ret
        exact ⟨_, rfl, by have := HO6.out; simpa [hl0, List.append_assoc] using this, HBX.out, HKX.out⟩
      · have hl0i : (0 : Int) < (l.length : Int) := by omega
        ·
          have hb3 := below_box wx (.cells #[.int .u8 62] 5)
          have HC3 : Hid (CellsAt (wx.alloc (.cells #[.int .u8 62] 5)) wx.heap.size 0 (enc8.all [62])) := cellsAt_alloc wx [.int .u8 62] _
          have HO3 : Hid (Own8 (wx.alloc (.cells #[.int .u8 62] 5)) base u0 _) := OwnL.below HO6.out hb3
          have HB3 := Lib.hid (hb3.mono HBWX.out)
          have HK3 := Lib.hid (K8.of_below hb3)
          have HW3 := Lib.hid (Nat.le_trans HBWX.out hb3.size)
          clear hb3
          go_wp2_with (at_builtin; refine wpList_append8 rfl (.tmp 36) (.tmp 37) rfl base u0 _ rfl HO3.out wx.heap.size 1 62 rfl HC3.out ?_ HW3.out ?_)
          · unfold Hid; simp only [List.length_append]; omega
          intro v4 w4 hown4 hb4 hk4
          have HO4 := Lib.hid hown4
          have HB4 := Lib.hid ((HBX.out.trans HB3.out).trans hb4)
          have HK4 := Lib.hid ((HKX.out.trans HK3.out).trans hk4)
          clear hown4 hb4 hk4
          go_wp2_with fail
          go_ret
          exact ⟨_, rfl, by have := HO4.out; simpa [hl0, List.append_assoc] using this, HB4.out, HK4.out⟩
theorem rprintN_any : ∀ (N : Nat) (t : Tp), SizeOf.sizeOf t < N → RPrC t
  | 0, t, hN => absurd hN (by omega)
  | N + 1, .mk s l, hN => rprint_step s l fun j a => rprintN_any N l[j] (by
      have h3 := List.sizeOf_lt_of_mem (List.getElem_mem a)
      simp only [Tp.mk.sizeOf_spec] at hN
      omega)
theorem rprint_any (t : Tp) : RPrC t := rprintN_any _ t (Nat.lt_succ_self _)
/-- the reference's Print -/
theorem rPrint_any (A : Nat → Prop) (q : Rw) (t : Tp) (w : World) (h : IsP A w q t) (hz : (prL t).length ≤ 1000000000) :
    Calls Try.prog 18 #[.agg #[.string q.name, .slice q.p q.n q.cap]] w fun e w' => e = .returned (.string (prS t)) ∧ Below w.heap.size w w' := by
  have h1 := h.here
  have hb := below_box w (.cells #[.string q.name, .slice q.p q.n q.cap] 24)
  obtain ⟨x0, x1⟩ := box_p w q 24
  simp only [Nat.zero_add] at x0 x1
  have hip : IsP (fun k => k < (w.alloc (.cells #[.string q.name, .slice q.p q.n q.cap] 24)).heap.size) (w.alloc (.cells #[.string q.name, .slice q.p q.n q.cap] 24)) q t := (h1.later hb).mono (fun k hk => by have := hk.2; have := hb.size; omega)
  obtain ⟨w1, hw1⟩ : ∃ y, w.alloc (.cells #[.string q.name, .slice q.p q.n q.cap] 24) = y := ⟨_, rfl⟩
  rw [hw1] at hb x0 x1 hip
  have HB := Lib.hid hb
  have HW := Lib.hid (rprint_any t q w1.heap.size w1.heap.size [] (.slice none 0 0) w1 hip (Nat.le_refl _) (Nat.le_refl _) (OwnL.isNil _ _ _ _) (by simp only [List.length_nil]; omega))
  obtain ⟨ps, hps⟩ : ∃ s, s = prS t := ⟨_, rfl⟩
  rw [← hps]
  have HPS := Lib.hid hps
  clear h h1 hb hip hps
  go_enter Try.func18, Try.ntmps18
  go_wp2_with fail
  refine HW.out.mono ?_
  rintro e w2 ⟨v', rfl, hown, hb2, -⟩
  rw [List.nil_append] at hown
  have hcv := own8_text hown
  have HCV : Hid ((convert 38 9 v').run Try.prog w2 = .ok (.string ps) w2) := by show _ = _; rw [HPS.out]; exact hcv
  have hcv2 := HCV.out
  have HB2 := Lib.hid (bnext HB.out hb2)
  clear hcv HCV hown hb2
  go_wp2_with fail
  go_ret
  exact ⟨rfl, HB2.out⟩
end Go.Proofs.Ytbnnokibjccdaaa
