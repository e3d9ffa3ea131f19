/-
  CONTRACT: types.Print: the text of a type.
-/
import Derived.Test.YthikdkeanndidaaDoorFaK
import Derived.Test.YthikdkeanndidaaDoorZt
import Derived.Test.YthikdkeanndidaaDoorCf
import Derived.Test.YthikdkeanndidaaDoorCi
namespace Go.Proofs.YthikdkeanndidaaDoor
open Go Go.RowKit
set_option linter.unusedVariables false
set_option linter.unusedSimpArgs false

abbrev byT : TypeId := 5
/-- what is no row of bytes, and not this block, is as it was -/
def Kept8 (b : Nat) (w w' : World) : Prop := ∀ (k : Nat) (cs : Array Value) (T : TypeId) (r : Nat × Nat), T ≠ byT → k ≠ b → w.heap[k]? = some (.cells cs T r) → w'.heap[k]? = some (.cells cs T r)
theorem Kept8.trans {b : Nat} {w w1 w2 : World} (h : Kept8 b w w1) (k : Kept8 b w1 w2) : Kept8 b w w2 := fun x cs T r hT hb hc => k x cs T r hT hb (h x cs T r hT hb hc)
theorem Kept8.of_below {b : Nat} {w w' : World} (h : Below w.heap.size w w') : Kept8 b w w' := fun x cs T r _ _ hc => (h.block x (by
  rcases Nat.lt_or_ge x w.heap.size with q | q
  · exact q
  · rw [Array.getElem?_eq_none q] at hc; cases hc)).trans hc
theorem heap_lt8 {w : World} {b : Nat} {o : Obj} (h : w.heap[b]? = some o) : b < w.heap.size := by
  rcases Nat.lt_or_ge b w.heap.size with h' | h'
  · exact h'
  · rw [Array.getElem?_eq_none h'] at h; cases h
theorem row_type {w : World} {B : Nat} {e : TypeId} {v : Value} {n : Nat} {xs : List Value} {k : Nat} {cs : Array Value} {T : TypeId} {r : Nat × Nat} (h : w.ownsRow B e 1 v n xs) (hk : v.ownBlock = some k) (hc : w.heap[k]? = some (.cells cs T r)) : T = e := by
  obtain ⟨_, ⟨hv, _⟩ | ⟨g, cap, cur, hv, _, hg, _⟩⟩ := h
  · rw [hv] at hk; cases hk
  · rw [hv] at hk
    simp [Value.ownBlock] at hk
    subst hk
    rw [hg] at hc
    injection hc with hc
    injection hc with _ hc _
    exact hc.symm
theorem copyCheck8 (B b : Nat) (bs : List Value) (w : World) (h : Lib.IsBuilder 98 5 B b bs w) :
    Calls Tryd.prog 71 #[.pointer (some ⟨b, 0, none⟩)] w fun e w' => e = .returned (.tuple #[]) ∧ (Lib.BuilderAt 98 5 B b (.pointer (some ⟨b, 0, none⟩)) bs w' ∧ Below B w w' ∧ Kept8 b w w') := by
  rcases h with h | h
  · refine (copyCheck_fresh b w h.cell0 h.shape h.frozen0).mono ?_
    rintro e w' ⟨rfl, rfl⟩
    exact ⟨rfl, h.used _, (Below.refl B w).setCell (p := ⟨b, 0, none⟩) h.1 _, fun k cs T r _ hkb hk => (Below.heap_setCell _ _ _ _ (by show k ≠ b; exact hkb)).trans hk⟩
  · refine (copyCheck_used b w h.cell0).mono ?_
    rintro e w' ⟨rfl, rfl⟩
    exact ⟨rfl, h, Below.refl B _, fun _ _ _ _ _ _ hk => hk⟩

set_option maxHeartbeats 2000000 in
set_option maxRecDepth 100000 in
theorem writeString8 (B b : Nat) (bs : List Value) (s : ByteArray) (w : World) (h : Lib.IsBuilder 98 5 B b bs w) (hlen : bs.length + s.size ≤ 140737488355328) (hBw : B ≤ w.heap.size) :
    Calls Tryd.prog 55 #[.pointer (some ⟨b, 0, none⟩), .string s] w fun e w' => e = .returned (.tuple #[.int .i64 s.size, .nilIface]) ∧ (Lib.BuilderAt 98 5 B b (.pointer (some ⟨b, 0, none⟩)) (bs ++ Lib.strCells s) w' ∧ Below B w w' ∧ Kept8 b w w') := by
  obtain ⟨i0, hi, hz0, hz1, hz2⟩ := info_parts infoByte
  go_enter Tryd.func55, Tryd.ntmps55
  go_wp2_with fail
  refine (copyCheck8 B b bs _ h).mono ?_
  rintro e w1 ⟨rfl, h1, hb1, hk1⟩
  obtain ⟨hB, v, hbk, hown, hne⟩ := h1
  have c0 : w1.cell? ⟨b, 0, none⟩ = some (.pointer (some ⟨b, 0, none⟩)) := by rw [Lib.cell_of_heap hbk]; rfl
  have c1 : w1.cell? ⟨b, 1, none⟩ = some v := by rw [Lib.cell_of_heap hbk]; rfl
  go_wp2_with (at_builtin; refine Lib.wpList_append_own_string _ rfl _ _ 74 9 rfl B 5 i0 Tryd.underlying74 Tryd.underlying9 hi hz0 hz1 hz2 _ _ _ rfl hown s rfl ?c3 ?c4 ?c5 ?_)
  case c3 => unfold maxLen; omega
  case c4 => omega
  case c5 => have := hb1.size; omega
  intro v' w2 hown' hgrow _
  have hlt : b < w1.heap.size := by
    rcases Nat.lt_or_ge b w1.heap.size with h' | h'
    · exact h'
    · simp [Array.getElem?_eq_none h'] at hbk
  have hb2 : w2.heap[b]? = some (.cells #[.pointer (some ⟨b, 0, none⟩), v] 98 (0, 0)) := by
    rw [hgrow.block b hlt (fun e => hne e.symm)]
    exact hbk
  have d0 : w2.cell? ⟨b, 0, none⟩ = some (.pointer (some ⟨b, 0, none⟩)) := by rw [Lib.cell_of_heap hb2]; rfl
  have d1 : w2.cell? ⟨b, 1, none⟩ = some v := by rw [Lib.cell_of_heap hb2]; rfl
  have f1 : w2.frozen? ⟨b, 1, none⟩ = false := Lib.frozen_of_heap hb2 1
  obtain ⟨ao, n', cap, rfl⟩ : ∃ ao n' cap, v' = .slice ao n' cap := by
    rcases hown'.2 with ⟨hv, _⟩ | ⟨g, cap, cur, hv, _⟩
    · exact ⟨_, _, _, hv⟩
    · exact ⟨_, _, _, hv⟩
  go_wp2
  go_ret2
  refine ⟨rfl, ?_, ?_, ?_⟩
  · exact Lib.BuilderAt.put (T := 98) (e := 5) hB hb2 (bs' := bs ++ Lib.strCells s) (by simpa [Lib.strCells_length] using hown') (by decide)
  · exact (hb1.grown hgrow (by have := hb1.size; omega) (fun k hk => (hown.lt k hk).1)).setCell (p := ⟨b, 1, none⟩) hB _
  · intro k cs T r hT hkb hk
    have h2 := hk1 k cs T r hT hkb hk
    have h3 : w2.heap[k]? = some (.cells cs T r) := by
      rw [hgrow.block k (heap_lt8 h2) (fun e => hT (row_type hown e.symm h2))]
      exact h2
    rw [Below.heap_setCell _ _ _ _ (by show k ≠ b; exact hkb)]
    exact h3

/-! ### the text of a type -/
/-- the first of some args, with marks -/
def argsL : List (List UInt8) → List UInt8
  | [] => []
  | x :: xs => 60 :: (x ++ xs.flatMap (fun y => 44 :: y))
def prL : Tp → List UInt8
  | .mk s l => s.data.toList ++ (argsL (l.map prL) ++ (if l.length = 0 then [] else [62]))
theorem prL_mk (s : ByteArray) (l : List Tp) : prL (.mk s l) = s.data.toList ++ (argsL (l.map prL) ++ (if l.length = 0 then [] else [62])) := by rw [prL]
theorem argsL_push (L : List (List UInt8)) (x : List UInt8) : argsL (L ++ [x]) = argsL L ++ ((if L.length = 0 then 60 else 44) :: x) := by
  cases L with
  | nil => simp [argsL]
  | cons y L => simp [argsL]
theorem argsL_take (L : List (List UInt8)) {j : Nat} (hj : j < L.length) : argsL (L.take (j + 1)) = argsL (L.take j) ++ ((if j = 0 then 60 else 44) :: L[j]) := by
  rw [List.take_succ_eq_append_getElem hj, argsL_push, List.length_take, Nat.min_eq_left (by omega)]
theorem argsL_take_le (L : List (List UInt8)) (j : Nat) : (argsL (L.take j)).length ≤ (argsL L).length := by
  rcases Nat.lt_or_ge j L.length with h | h
  · have key : ∀ m, j ≤ m → m ≤ L.length → (argsL (L.take j)).length ≤ (argsL (L.take m)).length := by
      intro m
      induction m with
      | zero => intro h0 _; have : j = 0 := by omega
                subst this; exact Nat.le_refl _
      | succ m ih =>
        intro h1 h2
        by_cases e : j = m + 1
        · subst e; exact Nat.le_refl _
        · have := ih (by omega) (by omega)
          rw [argsL_take L (by omega)]
          simp only [List.length_append]
          omega
    have := key L.length (by omega) (Nat.le_refl _)
    rwa [List.take_length] at this
  · rw [List.take_of_length_le h]; exact Nat.le_refl _
/-- the text of a type -/
def prS (t : Tp) : ByteArray := ⟨(prL t).toArray⟩
theorem prS_data (t : Tp) : (prS t).data.toList = prL t := by simp [prS]
/-- what writes the text of a type into a builder -/
def WriteC (t : Tp) : Prop := ∀ (q : Rw) (B b : Nat) (pre : List UInt8) (w : World), IsP (fun k => k < B) w q t → B ≤ b → Lib.IsBuilder 98 5 B b (Lib.byteCells pre) w → B ≤ w.heap.size → pre.length + (prL t).length ≤ 2000000000 →
  Calls Tryd.prog 69 #[.pointer (some ⟨b, 0, none⟩), .agg #[.string q.name, .slice q.p q.n q.cap]] w fun e w' => e = .returned (.tuple #[]) ∧ Lib.IsBuilder 98 5 B b (Lib.byteCells (pre ++ prL t)) w' ∧ Below B w w' ∧ Kept8 b w w'
theorem IsP.low {B : Nat} {w w' : World} {q : Rw} {t : Tp} (h : IsP (fun k => k < B) w q t) (hb : Below B w w') : IsP (fun k => k < B) w' q t := h.keepB (fun k hk _ => hb.block k hk)
theorem IsPs.low {B : Nat} {w w' : World} {v : Value} {l : List Tp} (h : IsPs (fun k => k < B) w v l) (hb : Below B w w') : IsPs (fun k => k < B) w' v l := by
  obtain ⟨p, c, rfl, h2⟩ := h.shape
  have h3 := (IsP.node (s := ⟨#[]⟩) h2).low hb
  exact h3.parts.2
theorem str_cells (s : ByteArray) : Lib.strCells s = Lib.byteCells s.data.toList := rfl
theorem IsBuilder.lt {B b : Nat} {l : List Value} {w : World} (h : Lib.IsBuilder 98 5 B b l w) : b < w.heap.size ∧ B ≤ b := by
  rcases h with h | h
  · exact ⟨h.lt, h.1⟩
  · exact ⟨h.lt, h.1⟩
end Go.Proofs.YthikdkeanndidaaDoor

/-
  CONTRACT: types.Print: the walk.
-/
namespace Go.Proofs.YthikdkeanndidaaDoor
open Go Go.RowKit
set_option linter.unusedVariables false
set_option linter.unusedSimpArgs false
set_option maxRecDepth 100000

theorem tp_by : tpT ≠ byT := by decide
theorem box8 {b xb : Nat} {w w' : World} {v0 v1 : Value} (h : w.heap[xb]? = some (.cells #[v0, v1] tpT (0, 0))) (hk : Kept8 b w w') (hne : xb ≠ b) : w'.cell? ⟨xb, 0, none⟩ = some v0 ∧ w'.cell? ⟨xb, 1, none⟩ = some v1 ∧ w'.heap[xb]? = some (.cells #[v0, v1] tpT (0, 0)) := by
  have h2 := hk xb _ _ _ tp_by hne h
  exact ⟨by rw [Lib.cell_of_heap h2]; rfl, by rw [Lib.cell_of_heap h2]; rfl, h2⟩
theorem mark_data (j : Nat) : (if j = 0 then (⟨#[60]⟩ : ByteArray) else ⟨#[44]⟩).data.toList = [if j = 0 then 60 else 44] := by
  by_cases h : j = 0 <;> simp [h]

set_option maxHeartbeats 4000000 in
theorem write_step (s : ByteArray) (l : List Tp) (hS : ∀ j (a : j < l.length), WriteC l[j]) : WriteC (.mk s l) := by
  intro q B b pre w h hBb hbd hBw hz
  rw [prL_mk] at hz ⊢
  obtain ⟨e1, g⟩ := h.parts
  obtain ⟨s1, p, n, c⟩ := q
  have e1' : s1 = s := e1
  subst e1'
  have g' : IsPs (fun k => k < B) w (.slice p n c) l := g
  obtain ⟨z1, hm, -⟩ := g'.at_
  subst z1
  unfold maxLen at hm
  have hb := below_box w (.cells #[.string s1, .slice p l.length c] tpT)
  have hn1 := heap_alloc_new w (.cells #[.string s1, .slice p l.length c] tpT)
  have hlt := IsBuilder.lt hbd
  obtain ⟨w1, hw1⟩ : ∃ y, w.alloc (.cells #[.string s1, .slice p l.length c] tpT) = y := ⟨_, rfl⟩
  obtain ⟨xb, hxb⟩ : ∃ xb, w.heap.size = xb := ⟨_, rfl⟩
  have hn1' : w1.heap[xb]? = some (.cells #[.string s1, .slice p l.length c] tpT (0, 0)) := by rw [← hw1, ← hxb]; exact hn1
  rw [hw1] at hb
  have hsz1 : B ≤ w1.heap.size := Nat.le_trans hBw hb.size
  have x0 : w1.cell? ⟨xb, 0, none⟩ = some (.string s1) := by rw [Lib.cell_of_heap hn1']; rfl
  have hxne : xb ≠ b := by omega
  have hzs : pre.length + s1.size ≤ 2000000000 := by simp only [List.length_append, Fa.len_data] at hz; omega
  have HB1 : Hid (Below B w w1) := hb.mono hBw
  have HK1 : Hid (Kept8 b w w1) := Kept8.of_below hb
  have HBD := Lib.hid (builder_old hbd hb)
  have HN1 := Lib.hid hn1'
  have HG := Lib.hid (g'.low HB1.out)
  have HS := Lib.hid hS
  have HZ := Lib.hid hz
  have HX := Lib.hid hxne
  have HBW := Lib.hid hsz1
  clear h g g' e1 hb hS hz hbd hn1 hn1' hsz1 hlt hxne
  go_enter Tryd.func69, Tryd.ntmps69
  go_wp2_with fail
  clear hw1 hxb
  refine (writeString8 B b (Lib.byteCells pre) s1 w1 HBD.out (by rw [Lib.byteCells_length]; omega) HBW.out).mono ?_
  rintro e w2 ⟨rfl, hbd2, hb2, hk2⟩
  rw [str_cells, ← Lib.byteCells_append] at hbd2
  have HBD2 : Hid (Lib.IsBuilder 98 5 B b (Lib.byteCells (pre ++ s1.data.toList)) w2) := .inr hbd2
  have HB2 := Lib.hid (HB1.out.trans hb2)
  have HK2 := Lib.hid (HK1.out.trans hk2)
  have HG2 := Lib.hid (HG.out.low hb2)
  have HBW2 := Lib.hid (Nat.le_trans HBW.out hb2.size)
  obtain ⟨x0', x1, hn2⟩ := box8 HN1.out hk2 HX.out
  have HN2 := Lib.hid hn2
  clear hbd2 hb2 hk2 hn2 HBD HB1 HK1 HG HN1 HBW x0
  by_cases hl0 : l.length = 0
  · have hl0i : (l.length : Int) = 0 := by omega
    have hl : l = [] := List.length_eq_zero_iff.1 hl0
    clear hl0i hl0
    subst hl
    go_wp2_with fail
    exact bodyPost_ret (results_none rfl _ _ _) rfl ⟨rfl, by simpa [argsL] using HBD2.out, HB2.out, HK2.out⟩
  · have hl0i : ((l.length : Int) == 0) = false := by rw [beq_eq_false_iff_ne]; omega
    go_wp2_with fail
    have HPOS : Hid (0 < l.length) := by show _ < _; omega
    have hLP : (l.map prL).length = l.length := List.length_map _
    have HLP := Lib.hid hLP
    clear hLP x0' x1
    go_loopw [4, 6, 18] (fun mk _ i wr => ∃ (j : Nat) (mb : ByteArray), j ≤ l.length ∧ i = .int .i64 j ∧ mk = .string mb ∧ Hid (mb = if j = 0 then (⟨#[60]⟩ : ByteArray) else ⟨#[44]⟩) ∧ Hid (Lib.IsBuilder 98 5 B b (Lib.byteCells (pre ++ s1.data.toList ++ argsL ((l.map prL).take j))) wr) ∧ Hid (Below B w2 wr) ∧ Hid (Kept8 b w2 wr)) (fun _ _ i _ => l.length - (intOf i).toNat)
    case atStart => exact ⟨0, ⟨#[60]⟩, Nat.zero_le _, rfl, rfl, rfl, Lib.hid (by simpa [argsL] using HBD2.out), Below.refl _ _, fun _ _ _ _ _ _ hk => hk⟩
    case round =>
      obtain ⟨j, mb, hj, rfl, rfl, HMK, HO, HBR, HKR⟩ := hrel
      obtain ⟨wx, rfl⟩ : ∃ x, x = wr := ⟨wr, rfl⟩
      have HBX := Lib.hid (HB2.out.trans HBR.out)
      have HKX := Lib.hid (HK2.out.trans HKR.out)
      have HBWX := Lib.hid (Nat.le_trans HBW2.out HBR.out.size)
      by_cases hlt : j < l.length
      · have hlti : (j : Int) < (l.length : Int) := by omega
        have hjl : j < (l.map prL).length := by rw [HLP.out]; exact hlt
        obtain ⟨b1, o1, r, rfl, hip, ⟨c0, c1⟩⟩ := (HG2.out.low HBR.out).at_.2.2 j hlt
        have hst := argsL_take (l.map prL) hjl
        have hle := argsL_take_le (l.map prL) (j + 1)
        rw [List.getElem_map] at hst
        have HIP := Lib.hid hip
        have HSJ := Lib.hid (HS.out j hlt)
        generalize l[j]'hlt = t at hip HIP HSJ hst
        obtain ⟨rn, rp, rl, rc⟩ := r
        simp only at c0 c1
        have hzz : pre.length + (s1.data.toList.length + (argsL (l.map prL)).length) ≤ 2000000000 := by
          have := HZ.out
          simp only [List.length_append] at this
          omega
        rw [hst] at hle
        simp only [List.length_append, List.length_cons] at hle
        have hb4 := below_box wx (.cells #[.string rn, .slice rp rl rc] tpT)
        have hn4 := heap_alloc_new wx (.cells #[.string rn, .slice rp rl rc] tpT)
        obtain ⟨yb, hyb⟩ : ∃ yb, wx.heap.size = yb := ⟨_, rfl⟩
        obtain ⟨w4, hw4⟩ : ∃ y, wx.alloc (.cells #[.string rn, .slice rp rl rc] tpT) = y := ⟨_, rfl⟩
        rw [hw4] at hb4 hn4
        rw [hyb] at hn4
        have hyne : yb ≠ b := by have := (IsBuilder.lt HO.out).1; omega
        have HN4 := Lib.hid hn4
        have HY := Lib.hid hyne
        have HO4 := Lib.hid (builder_old HO.out hb4)
        have HB4 : Hid (Below B w2 w4) := HBR.out.trans (hb4.mono HBWX.out)
        have HK4 : Hid (Kept8 b w2 w4) := HKR.out.trans (Kept8.of_below hb4)
        have HBW4 : Hid (B ≤ w4.heap.size) := Nat.le_trans HBWX.out hb4.size
        have HIP4 : Hid (IsP (fun k => k < B) w4 ⟨rn, rp, rl, rc⟩ t) := HIP.out.low (hb4.mono HBWX.out)
        have hms : mb.size = 1 := by rw [HMK.out]; by_cases h0 : j = 0 <;> simp [h0] <;> rfl
        have hnum : (Lib.byteCells (pre ++ s1.data.toList ++ argsL ((l.map prL).take j))).length + mb.size ≤ 140737488355328 := by rw [Lib.byteCells_length]; simp only [List.length_append]; omega
        have HNUM := Lib.hid hnum
        have HNU2 : Hid ((pre ++ s1.data.toList ++ argsL ((l.map prL).take j) ++ mb.data.toList).length + (prL t).length ≤ 2000000000) := by
          show _ ≤ _
          simp only [List.length_append, Fa.len_data]
          simp only [Fa.len_data] at hzz
          omega
        have HST : Hid (argsL ((l.map prL).take (j + 1)) = argsL ((l.map prL).take j) ++ mb.data.toList ++ prL t) := by
          show _ = _
          rw [hst, HMK.out, mark_data]
          simp
        clear hip hst hle hzz hb4 hn4 hyne hms hnum HIP HO HBR HKR hjl
        go_wp2_with fail
        clear hw4 hyb c0 c1
        refine (writeString8 B b _ mb w4 HO4.out HNUM.out HBW4.out).mono ?_
        rintro e w5 ⟨rfl, hbd5, hb5, hk5⟩
        rw [str_cells, ← Lib.byteCells_append] at hbd5
        have HO5 : Hid (Lib.IsBuilder 98 5 B b (Lib.byteCells (pre ++ s1.data.toList ++ argsL ((l.map prL).take j) ++ mb.data.toList)) w5) := .inr hbd5
        have HB5 := Lib.hid (HB4.out.trans hb5)
        have HK5 := Lib.hid (HK4.out.trans hk5)
        have HBW5 := Lib.hid (Nat.le_trans HBW4.out hb5.size)
        have HIP5 := Lib.hid (HIP4.out.low hb5)
        obtain ⟨z0, z1, -⟩ := box8 HN4.out hk5 HY.out
        clear hbd5 hb5 hk5 HO4 HB4 HK4 HBW4 HIP4 HN4
        go_wp2_with fail
        refine (HSJ.out ⟨rn, rp, rl, rc⟩ B b _ w5 HIP5.out hBb HO5.out HBW5.out HNU2.out).mono ?_
        rintro e w6 ⟨rfl, hbd6, hb6, hk6⟩
        have HO6 : Hid (Lib.IsBuilder 98 5 B b (Lib.byteCells (pre ++ s1.data.toList ++ argsL ((l.map prL).take (j + 1)))) w6) := Lib.hid (by
          rw [HST.out]
          simpa only [List.append_assoc] using hbd6)
        have HB6 := Lib.hid (HB5.out.trans hb6)
        have HK6 := Lib.hid (HK5.out.trans hk6)
        clear hbd6 hb6 hk6 HO5 HB5 HK5 HIP5 z0 z1
        go_wp2_with fail
        go_roundw
        case rel => exact ⟨j + 1, ⟨#[44]⟩, by omega, by go_num, rfl, rfl, HO6.out, HB6.out, HK6.out⟩
        case measure => simp [intOf]; omega
      · obtain rfl : j = l.length := by omega
        have hzz : pre.length + (s1.data.toList.length + ((argsL (l.map prL)).length + 1)) ≤ 2000000000 := by
          have := HZ.out
          have h0 := HPOS.out
          simp only [List.length_append] at this
          rw [if_neg (by omega)] at this
          simpa using this
        have hO : Lib.IsBuilder 98 5 B b (Lib.byteCells (pre ++ s1.data.toList ++ argsL (l.map prL))) wx := by
          have := HO.out
          rwa [List.take_of_length_le (by rw [HLP.out]; exact Nat.le_refl _)] at this
        have HOX := Lib.hid hO
        have HNUM : Hid ((Lib.byteCells (pre ++ s1.data.toList ++ argsL (l.map prL))).length + (⟨#[62]⟩ : ByteArray).size ≤ 140737488355328) := by
          show _ ≤ _
          rw [Lib.byteCells_length]
          simp only [List.length_append]
          have : (⟨#[62]⟩ : ByteArray).size = 1 := rfl
          omega
        clear hO hzz HO
        go_wp2_with fail
        refine (writeString8 B b _ ⟨#[62]⟩ wx HOX.out HNUM.out HBWX.out).mono ?_
        rintro e w5 ⟨rfl, hbd5, hb5, hk5⟩
        rw [str_cells, ← Lib.byteCells_append] at hbd5
        have HO5 : Hid (Lib.IsBuilder 98 5 B b (Lib.byteCells (pre ++ (s1.data.toList ++ (argsL (l.map prL) ++ [62])))) w5) := Lib.hid (.inr (by simpa only [List.append_assoc] using hbd5))
        have HB5 := Lib.hid (HBX.out.trans hb5)
        have HK5 := Lib.hid (HKX.out.trans hk5)
        clear hbd5 hb5 hk5
        go_wp2_with fail
        go_end0
        exact ⟨rfl, HO5.out, HB5.out, HK5.out⟩
theorem writeN_any : ∀ (N : Nat) (t : Tp), SizeOf.sizeOf t < N → WriteC t
  | 0, t, hN => absurd hN (by omega)
  | N + 1, .mk s l, hN => write_step s l fun j a => writeN_any N l[j] (by
    have h1 := List.sizeOf_lt_of_mem (List.getElem_mem a)
    simp only [Tp.mk.sizeOf_spec] at hN
    omega)
theorem write_any (t : Tp) : WriteC t := writeN_any _ t (Nat.lt_succ_self _)
/-- types.Print -/
theorem print_any (A : Nat → Prop) (q : Rw) (t : Tp) (w : World) (h : IsP A w q t) (hz : (prL t).length ≤ 1000000000) :
    Calls Tryd.prog 50 #[.agg #[.string q.name, .slice q.p q.n q.cap]] w fun e w' => e = .returned (.string (prS t)) ∧ Below w.heap.size w w' := by
  have h1 := h.here
  have hb := below_box w (.cells #[.string q.name, .slice q.p q.n q.cap] tpT)
  obtain ⟨x0, x1⟩ := box_p w q tpT
  simp only [Nat.zero_add] at x0 x1
  have hsz : (w.alloc (.cells #[.string q.name, .slice q.p q.n q.cap] tpT)).heap.size = w.heap.size + 1 := World.size_alloc _ _
  have hip : IsP (fun k => k < (w.alloc (.cells #[.string q.name, .slice q.p q.n q.cap] tpT)).heap.size) (w.alloc (.cells #[.string q.name, .slice q.p q.n q.cap] tpT)) q t := (h1.later hb).mono (fun k hk => by have := hk.2; omega)
  obtain ⟨w1, hw1⟩ : ∃ y, w.alloc (.cells #[.string q.name, .slice q.p q.n q.cap] tpT) = y := ⟨_, rfl⟩
  rw [hw1] at hb x0 x1 hsz hip
  have hb2 := below_box w1 (.cells #[.pointer none, .slice none 0 0] 98)
  have HBD := Lib.hid (Lib.fresh_isBuilder 98 byT w1)
  have y0 : (w1.alloc (.cells #[.pointer none, .slice none 0 0] 98)).cell? ⟨w.heap.size, 0, none⟩ = some (.string q.name) := by rw [hb2.cell (p := ⟨w.heap.size, 0, none⟩) (by show w.heap.size < _; omega)]; exact x0
  have y1 : (w1.alloc (.cells #[.pointer none, .slice none 0 0] 98)).cell? ⟨w.heap.size, 1, none⟩ = some (.slice q.p q.n q.cap) := by rw [hb2.cell (p := ⟨w.heap.size, 1, none⟩) (by show w.heap.size < _; omega)]; exact x1
  have HIP := Lib.hid (hip.low (hb2))
  have HB : Hid (Below w.heap.size w (w1.alloc (.cells #[.pointer none, .slice none 0 0] 98))) := hb.trans (hb2.mono hb.size)
  have HSZ : Hid (w1.heap.size ≤ (w1.alloc (.cells #[.pointer none, .slice none 0 0] 98)).heap.size) := hb2.size
  have HH : Hid (w.heap.size ≤ w1.heap.size) := hb.size
  have HW := Lib.hid (write_any t q w1.heap.size w1.heap.size [] _ HIP.out (Nat.le_refl _) HBD.out HSZ.out (by simp; omega))
  clear h h1 hb hip hb2 x0 x1 hsz
  go_enter Tryd.func50, Tryd.ntmps50
  go_wp2_with fail
  refine HW.out.mono ?_
  rintro e w3 ⟨rfl, hbd3, hb3, -⟩
  rw [List.nil_append] at hbd3
  have HBD3 := Lib.hid hbd3
  have HB3 := Lib.hid (HB.out.trans (hb3.mono HH.out))
  have HS3 := Lib.hid (Nat.le_trans HSZ.out hb3.size)
  clear hbd3 hb3 HW hw1
  go_wp2_with fail
  refine (Tryd.Builder_String_any w1.heap.size w1.heap.size (prL t) _ HBD3.out HS3.out).mono ?_
  rintro e w5 ⟨rfl, hb5⟩
  have HB5 := Lib.hid (HB3.out.trans (hb5.mono HH.out))
  clear hb5
  go_wp2_with fail
  go_ret
  exact ⟨rfl, HB5.out⟩
end Go.Proofs.YthikdkeanndidaaDoor

/-
  CONTRACTS: fact.list at strings, parameters and types; what is written of each.
-/
namespace Go.Proofs.YthikdkeanndidaaDoor
open Go Go.RowKit
set_option linter.unusedVariables false
set_option linter.unusedSimpArgs false
set_option maxRecDepth 100000

/-- a type parameter -/
structure Pm where
  name : ByteArray
  bound : ByteArray
abbrev pmT : TypeId := 84
def encPm : Enc Pm := ⟨fun x => [.string x.name, .string x.bound], 2, fun _ => rfl, fun x v hv => by
  simp at hv
  rcases hv with rfl | rfl <;> rfl, by decide⟩
def pmS (x : Pm) : ByteArray := packS [x.name, x.bound]
/-- a type as it lies, with what it is -/
abbrev Rt := Rw × Tp
def encRt : Enc Rt := ⟨fun x => [.string x.1.name, .slice x.1.p x.1.n x.1.cap], 2, fun _ => rfl, fun x v hv => by
  simp at hv
  rcases hv with rfl | rfl <;> rfl, by decide⟩

set_option maxHeartbeats 2000000 in
/-- list, at string -/
theorem list_str (A : Nat → Prop) (l : List ByteArray) (p : Option Addr) (n c : Nat) (w : World) (h : SlA encN A w (.slice p n c) l) (F : FuncId) (bs : Array Value) (f : ByteArray → ByteArray)
    (hF : ∀ args w, (callFunc F args).run Tryd.prog w = .ok (.enter F args) w)
    (hC : ∀ x ∈ l, ∀ w1, Below w.heap.size w w1 → Calls Tryd.prog F (#[.string x] ++ bs) w1 fun e w2 => e = .returned (.string (f x)) ∧ Below w1.heap.size w1 w2)
    (hz : (Fa.packL (l.map f)).length ≤ 1000000000) (hn9 : l.length ≤ 1000000000) (hw : LaidW w) :
    Calls Tryd.prog 47 #[.slice p n c, .func (.func F) #[] bs] w fun e w' => e = .returned (.string (packS (l.map f))) ∧ Below w.heap.size w w' := by
  obtain ⟨e1, hm, hat⟩ := h.at_
  subst e1
  unfold maxLen at hm
  obtain ⟨i0, hi, hz0, hz1, hz2⟩ := info_parts info_s
  have hmk : (Instr.makeSlice 41 (.int .i64 (l.length : Int)) (.int .i64 (l.length : Int))).run Tryd.prog w = .ok (.slice (some ⟨w.heap.size, 0, none⟩) l.length l.length) (w.alloc (.cells (Array.replicate l.length (Value.string ⟨#[]⟩)) 9)) := by
    have h := run_make (P := Tryd.prog) w 41 9 i0 _ Tryd.underlying41 hi hz0 .i64 .i64 (l.length : Int) (l.length : Int) (by omega) (Int.le_refl _) (by rw [hz2]; omega) (by omega)
    rw [hz1, Int.toNat_natCast, made_str] at h
    exact h
  have HR0 := Lib.hid (StrRow.start w l.length)
  have HAT := Lib.hid hat
  have HC := Lib.hid hC
  have HW := Lib.hid hw
  have HZ := Lib.hid hz
  obtain ⟨ps, hps⟩ : ∃ s, s = packS (l.map f) := ⟨_, rfl⟩
  rw [← hps]
  have HPS := Lib.hid hps
  clear h hC hi hz0 hz1 hz2 hat hz hw hps
  go_enter Tryd.func47, Tryd.ntmps47
  go_wp2_with fail
  clear hmk
  generalize hW : w.alloc (.cells (Array.replicate l.length (Value.string ⟨#[]⟩)) 9) = w2 at *
  generalize hB : w.heap.size = Bx at *
  have HB' := Lib.hid hB
  go_loopw [13] (fun i wr => ∃ j : Nat, j ≤ l.length ∧ i = .int .i64 j ∧ Hid (StrRow w Bx ((l.take j).map f) l.length wr)) (fun i _ => l.length - (intOf i).toNat)
  case atStart => exact ⟨0, Nat.zero_le _, rfl, by rw [List.take_zero]; exact HR0⟩
  case round =>
    obtain ⟨j, hj, rfl, HR⟩ := hrel
    obtain ⟨wx, rfl⟩ : ∃ x, x = wr := ⟨wr, rfl⟩
    have HBE : Hid (Below w.heap.size w wx) := HR.out.be
    by_cases hlt : j < l.length
    · have hlti : (j : Int) < (l.length : Int) := by omega
      obtain ⟨b1, o1, rfl, hab, hcell⟩ := HAT.out j hlt
      obtain ⟨x, hx⟩ : ∃ x, x = l[j]'hlt := ⟨_, rfl⟩
      rw [← hx] at hcell
      have hxm : x ∈ l := by rw [hx]; exact List.getElem_mem hlt
      have x0 : wx.cell? ⟨b1, o1 + j, none⟩ = some (.string x) := by
        have h0 := hcell 0 _ (by decide) rfl
        have h1 : w.cell? ⟨b1, o1 + j, none⟩ = some (.string x) := by simpa [encN] using h0
        rw [HBE.out.cell (World.block_lt_of_cell? w _ h1)]
        exact h1
      have HBX : Hid (Below wx.heap.size wx wx) := Below.refl _ _
      have HCC := Lib.hid (HC.out x hxm wx (by rw [← HB'.out]; exact HBE.out))
      clear hcell hab
      have hlen : ((l.take j).map f).length = j := by rw [List.length_map, List.length_take]; omega
      have hst : (l.take (j + 1)).map f = (l.take j).map f ++ [f x] := by rw [List.take_succ_eq_append_getElem hlt, List.map_append, ← hx]; rfl
      have HX := Lib.hid hst
      have HLE := Lib.hid hlen
      clear hst hlen hx hxm HAT HR0 HC
      go_wp2_with fail
      refine HCC.out.mono ?_
      rintro e w5 ⟨rfl, hb5⟩
      have HR5 := Lib.hid (HR.out.below (HBX.out.trans (hb5.mono HBX.out.size)))
      have HR6 := Lib.hid (HR5.out.store (x := f x) (by rw [HLE.out]; exact hlt))
      obtain ⟨v0, hv0⟩ := HR5.out.has j hlt
      have f0 : w5.frozen? ⟨Bx, j, none⟩ = false := HR5.out.warm j
      rw [HLE.out, ← HX.out] at HR6
      obtain ⟨fx, hfx⟩ : ∃ y, y = f x := ⟨_, rfl⟩
      rw [← hfx] at HR6 ⊢
      clear hb5 HCC hfx HR5 HX HLE
      go_wp2_with fail
      go_roundw
      case rel => exact ⟨j + 1, by omega, by go_num, HR6⟩
      case measure => simp [intOf]; omega
    · obtain rfl : j = l.length := by omega
      have hsl := HR.out.fin (by rw [List.take_length, List.length_map]) (by unfold maxLen; omega)
      rw [List.take_length] at hsl
      have HSL := Lib.hid hsl
      have HWX := Lib.hid (HW.out.below HBE.out)
      have HP := Lib.hid (pack_any (l.map f) _ l.length _ wx HSL.out HZ.out HWX.out)
      rw [← HPS.out] at HP
      clear hsl HAT HR0 HC
      go_wp2_with fail
      refine HP.out.mono ?_
      rintro e w5 ⟨rfl, hb5⟩
      have HB5 := Lib.hid (HBE.out.trans (hb5.mono HBE.out.size))
      clear hb5
      go_wp2_with fail
      go_ret
      exact ⟨rfl, HB5.out⟩

set_option maxHeartbeats 2000000 in
/-- list, at recompile/api.Param -/
theorem list_pm (A : Nat → Prop) (l : List Pm) (p : Option Addr) (n c : Nat) (w : World) (h : SlA encPm A w (.slice p n c) l) (F : FuncId) (bs : Array Value) (f : Pm → ByteArray)
    (hF : ∀ args w, (callFunc F args).run Tryd.prog w = .ok (.enter F args) w)
    (hC : ∀ x ∈ l, ∀ w1, Below w.heap.size w w1 → Calls Tryd.prog F (#[.agg #[.string x.name, .string x.bound]] ++ bs) w1 fun e w2 => e = .returned (.string (f x)) ∧ Below w1.heap.size w1 w2)
    (hz : (Fa.packL (l.map f)).length ≤ 1000000000) (hn9 : l.length ≤ 1000000000) (hw : LaidW w) :
    Calls Tryd.prog 45 #[.slice p n c, .func (.func F) #[] bs] w fun e w' => e = .returned (.string (packS (l.map f))) ∧ Below w.heap.size w w' := by
  obtain ⟨e1, hm, hat⟩ := h.at_
  subst e1
  unfold maxLen at hm
  obtain ⟨i0, hi, hz0, hz1, hz2⟩ := info_parts info_s
  have hmk : (Instr.makeSlice 41 (.int .i64 (l.length : Int)) (.int .i64 (l.length : Int))).run Tryd.prog w = .ok (.slice (some ⟨w.heap.size, 0, none⟩) l.length l.length) (w.alloc (.cells (Array.replicate l.length (Value.string ⟨#[]⟩)) 9)) := by
    have h := run_make (P := Tryd.prog) w 41 9 i0 _ Tryd.underlying41 hi hz0 .i64 .i64 (l.length : Int) (l.length : Int) (by omega) (Int.le_refl _) (by rw [hz2]; omega) (by omega)
    rw [hz1, Int.toNat_natCast, made_str] at h
    exact h
  have HR0 := Lib.hid (StrRow.start w l.length)
  have HAT := Lib.hid hat
  have HC := Lib.hid hC
  have HW := Lib.hid hw
  have HZ := Lib.hid hz
  obtain ⟨ps, hps⟩ : ∃ s, s = packS (l.map f) := ⟨_, rfl⟩
  rw [← hps]
  have HPS := Lib.hid hps
  clear h hC hi hz0 hz1 hz2 hat hz hw hps
  go_enter Tryd.func45, Tryd.ntmps45
  go_wp2_with fail
  clear hmk
  generalize hW : w.alloc (.cells (Array.replicate l.length (Value.string ⟨#[]⟩)) 9) = w2 at *
  generalize hB : w.heap.size = Bx at *
  have HB' := Lib.hid hB
  go_loopw [13] (fun i wr => ∃ j : Nat, j ≤ l.length ∧ i = .int .i64 j ∧ Hid (StrRow w Bx ((l.take j).map f) l.length wr)) (fun i _ => l.length - (intOf i).toNat)
  case atStart => exact ⟨0, Nat.zero_le _, rfl, by rw [List.take_zero]; exact HR0⟩
  case round =>
    obtain ⟨j, hj, rfl, HR⟩ := hrel
    obtain ⟨wx, rfl⟩ : ∃ x, x = wr := ⟨wr, rfl⟩
    have HBE : Hid (Below w.heap.size w wx) := HR.out.be
    by_cases hlt : j < l.length
    · have hlti : (j : Int) < (l.length : Int) := by omega
      obtain ⟨b1, o1, rfl, hab, hcell⟩ := HAT.out j hlt
      obtain ⟨x, hx⟩ : ∃ x, x = l[j]'hlt := ⟨_, rfl⟩
      rw [← hx] at hcell
      have hxm : x ∈ l := by rw [hx]; exact List.getElem_mem hlt
      have hget : ∀ k v, k < 2 → (encPm.cells x)[k]? = some v → wx.cell? ⟨b1, o1 + j * 2 + k, none⟩ = some v := fun k v hk hv => by
        have h1 : w.cell? ⟨b1, o1 + j * 2 + k, none⟩ = some v := hcell k v hk hv
        rw [HBE.out.cell (World.block_lt_of_cell? w _ h1)]
        exact h1
      have x0 : wx.cell? ⟨b1, o1 + j * 2, none⟩ = some (.string x.name) := hget 0 _ (by decide) rfl
      have x1 : wx.cell? ⟨b1, o1 + j * 2 + 1, none⟩ = some (.string x.bound) := hget 1 _ (by decide) rfl
      have HBX : Hid (Below wx.heap.size wx (wx.alloc (.cells #[.string x.name, .string x.bound] 84))) := below_box wx _
      have hnew : (wx.alloc (.cells #[.string x.name, .string x.bound] 84)).heap[wx.heap.size]? = some (.cells #[.string x.name, .string x.bound] 84) := heap_alloc_new wx _
      have y0 : (wx.alloc (.cells #[.string x.name, .string x.bound] 84)).cell? ⟨wx.heap.size, 0, none⟩ = some (.string x.name) := by rw [Lib.cell_of_heap hnew]; rfl
      have y1 : (wx.alloc (.cells #[.string x.name, .string x.bound] 84)).cell? ⟨wx.heap.size, 1, none⟩ = some (.string x.bound) := by rw [Lib.cell_of_heap hnew]; rfl
      have HCC := Lib.hid (HC.out x hxm (wx.alloc (.cells #[.string x.name, .string x.bound] 84)) (by rw [← HB'.out]; exact bnext HBE.out HBX.out))
      clear hcell hab hget hnew
      have hlen : ((l.take j).map f).length = j := by rw [List.length_map, List.length_take]; omega
      have hst : (l.take (j + 1)).map f = (l.take j).map f ++ [f x] := by rw [List.take_succ_eq_append_getElem hlt, List.map_append, ← hx]; rfl
      have HX := Lib.hid hst
      have HLE := Lib.hid hlen
      clear hst hlen hx hxm HAT HR0 HC
      go_wp2_with fail
      refine HCC.out.mono ?_
      rintro e w5 ⟨rfl, hb5⟩
      have HR5 := Lib.hid (HR.out.below (HBX.out.trans (hb5.mono HBX.out.size)))
      have HR6 := Lib.hid (HR5.out.store (x := f x) (by rw [HLE.out]; exact hlt))
      obtain ⟨v0, hv0⟩ := HR5.out.has j hlt
      have f0 : w5.frozen? ⟨Bx, j, none⟩ = false := HR5.out.warm j
      rw [HLE.out, ← HX.out] at HR6
      obtain ⟨fx, hfx⟩ : ∃ y, y = f x := ⟨_, rfl⟩
      rw [← hfx] at HR6 ⊢
      clear hb5 HCC hfx HR5 HX HLE
      go_wp2_with fail
      go_roundw
      case rel => exact ⟨j + 1, by omega, by go_num, HR6⟩
      case measure => simp [intOf]; omega
    · obtain rfl : j = l.length := by omega
      have hsl := HR.out.fin (by rw [List.take_length, List.length_map]) (by unfold maxLen; omega)
      rw [List.take_length] at hsl
      have HSL := Lib.hid hsl
      have HWX := Lib.hid (HW.out.below HBE.out)
      have HP := Lib.hid (pack_any (l.map f) _ l.length _ wx HSL.out HZ.out HWX.out)
      rw [← HPS.out] at HP
      clear hsl HAT HR0 HC
      go_wp2_with fail
      refine HP.out.mono ?_
      rintro e w5 ⟨rfl, hb5⟩
      have HB5 := Lib.hid (HBE.out.trans (hb5.mono HBE.out.size))
      clear hb5
      go_wp2_with fail
      go_ret
      exact ⟨rfl, HB5.out⟩

set_option maxHeartbeats 2000000 in
/-- list, at recompile/api.Type -/
theorem list_tp (A : Nat → Prop) (l : List Rt) (p : Option Addr) (n c : Nat) (w : World) (h : SlA encRt A w (.slice p n c) l) (F : FuncId) (bs : Array Value) (f : Rt → ByteArray)
    (hF : ∀ args w, (callFunc F args).run Tryd.prog w = .ok (.enter F args) w)
    (hC : ∀ x ∈ l, ∀ w1, Below w.heap.size w w1 → Calls Tryd.prog F (#[.agg #[.string x.1.name, .slice x.1.p x.1.n x.1.cap]] ++ bs) w1 fun e w2 => e = .returned (.string (f x)) ∧ Below w1.heap.size w1 w2)
    (hz : (Fa.packL (l.map f)).length ≤ 1000000000) (hn9 : l.length ≤ 1000000000) (hw : LaidW w) :
    Calls Tryd.prog 49 #[.slice p n c, .func (.func F) #[] bs] w fun e w' => e = .returned (.string (packS (l.map f))) ∧ Below w.heap.size w w' := by
  obtain ⟨e1, hm, hat⟩ := h.at_
  subst e1
  unfold maxLen at hm
  obtain ⟨i0, hi, hz0, hz1, hz2⟩ := info_parts info_s
  have hmk : (Instr.makeSlice 41 (.int .i64 (l.length : Int)) (.int .i64 (l.length : Int))).run Tryd.prog w = .ok (.slice (some ⟨w.heap.size, 0, none⟩) l.length l.length) (w.alloc (.cells (Array.replicate l.length (Value.string ⟨#[]⟩)) 9)) := by
    have h := run_make (P := Tryd.prog) w 41 9 i0 _ Tryd.underlying41 hi hz0 .i64 .i64 (l.length : Int) (l.length : Int) (by omega) (Int.le_refl _) (by rw [hz2]; omega) (by omega)
    rw [hz1, Int.toNat_natCast, made_str] at h
    exact h
  have HR0 := Lib.hid (StrRow.start w l.length)
  have HAT := Lib.hid hat
  have HC := Lib.hid hC
  have HW := Lib.hid hw
  have HZ := Lib.hid hz
  obtain ⟨ps, hps⟩ : ∃ s, s = packS (l.map f) := ⟨_, rfl⟩
  rw [← hps]
  have HPS := Lib.hid hps
  clear h hC hi hz0 hz1 hz2 hat hz hw hps
  go_enter Tryd.func49, Tryd.ntmps49
  go_wp2_with fail
  clear hmk
  generalize hW : w.alloc (.cells (Array.replicate l.length (Value.string ⟨#[]⟩)) 9) = w2 at *
  generalize hB : w.heap.size = Bx at *
  have HB' := Lib.hid hB
  go_loopw [13] (fun i wr => ∃ j : Nat, j ≤ l.length ∧ i = .int .i64 j ∧ Hid (StrRow w Bx ((l.take j).map f) l.length wr)) (fun i _ => l.length - (intOf i).toNat)
  case atStart => exact ⟨0, Nat.zero_le _, rfl, by rw [List.take_zero]; exact HR0⟩
  case round =>
    obtain ⟨j, hj, rfl, HR⟩ := hrel
    obtain ⟨wx, rfl⟩ : ∃ x, x = wr := ⟨wr, rfl⟩
    have HBE : Hid (Below w.heap.size w wx) := HR.out.be
    by_cases hlt : j < l.length
    · have hlti : (j : Int) < (l.length : Int) := by omega
      obtain ⟨b1, o1, rfl, hab, hcell⟩ := HAT.out j hlt
      obtain ⟨x, hx⟩ : ∃ x, x = l[j]'hlt := ⟨_, rfl⟩
      rw [← hx] at hcell
      have hxm : x ∈ l := by rw [hx]; exact List.getElem_mem hlt
      have hget : ∀ k v, k < 2 → (encRt.cells x)[k]? = some v → wx.cell? ⟨b1, o1 + j * 2 + k, none⟩ = some v := fun k v hk hv => by
        have h1 : w.cell? ⟨b1, o1 + j * 2 + k, none⟩ = some v := hcell k v hk hv
        rw [HBE.out.cell (World.block_lt_of_cell? w _ h1)]
        exact h1
      have x0 : wx.cell? ⟨b1, o1 + j * 2, none⟩ = some (.string x.1.name) := hget 0 _ (by decide) rfl
      have x1 : wx.cell? ⟨b1, o1 + j * 2 + 1, none⟩ = some (.slice x.1.p x.1.n x.1.cap) := hget 1 _ (by decide) rfl
      have HBX : Hid (Below wx.heap.size wx (wx.alloc (.cells #[.string x.1.name, .slice x.1.p x.1.n x.1.cap] 44))) := below_box wx _
      have hnew : (wx.alloc (.cells #[.string x.1.name, .slice x.1.p x.1.n x.1.cap] 44)).heap[wx.heap.size]? = some (.cells #[.string x.1.name, .slice x.1.p x.1.n x.1.cap] 44) := heap_alloc_new wx _
      have y0 : (wx.alloc (.cells #[.string x.1.name, .slice x.1.p x.1.n x.1.cap] 44)).cell? ⟨wx.heap.size, 0, none⟩ = some (.string x.1.name) := by rw [Lib.cell_of_heap hnew]; rfl
      have y1 : (wx.alloc (.cells #[.string x.1.name, .slice x.1.p x.1.n x.1.cap] 44)).cell? ⟨wx.heap.size, 1, none⟩ = some (.slice x.1.p x.1.n x.1.cap) := by rw [Lib.cell_of_heap hnew]; rfl
      have HCC := Lib.hid (HC.out x hxm (wx.alloc (.cells #[.string x.1.name, .slice x.1.p x.1.n x.1.cap] 44)) (by rw [← HB'.out]; exact bnext HBE.out HBX.out))
      clear hcell hab hget hnew
      have hlen : ((l.take j).map f).length = j := by rw [List.length_map, List.length_take]; omega
      have hst : (l.take (j + 1)).map f = (l.take j).map f ++ [f x] := by rw [List.take_succ_eq_append_getElem hlt, List.map_append, ← hx]; rfl
      have HX := Lib.hid hst
      have HLE := Lib.hid hlen
      clear hst hlen hx hxm HAT HR0 HC
      go_wp2_with fail
      refine HCC.out.mono ?_
      rintro e w5 ⟨rfl, hb5⟩
      have HR5 := Lib.hid (HR.out.below (HBX.out.trans (hb5.mono HBX.out.size)))
      have HR6 := Lib.hid (HR5.out.store (x := f x) (by rw [HLE.out]; exact hlt))
      obtain ⟨v0, hv0⟩ := HR5.out.has j hlt
      have f0 : w5.frozen? ⟨Bx, j, none⟩ = false := HR5.out.warm j
      rw [HLE.out, ← HX.out] at HR6
      obtain ⟨fx, hfx⟩ : ∃ y, y = f x := ⟨_, rfl⟩
      rw [← hfx] at HR6 ⊢
      clear hb5 HCC hfx HR5 HX HLE
      go_wp2_with fail
      go_roundw
      case rel => exact ⟨j + 1, by omega, by go_num, HR6⟩
      case measure => simp [intOf]; omega
    · obtain rfl : j = l.length := by omega
      have hsl := HR.out.fin (by rw [List.take_length, List.length_map]) (by unfold maxLen; omega)
      rw [List.take_length] at hsl
      have HSL := Lib.hid hsl
      have HWX := Lib.hid (HW.out.below HBE.out)
      have HP := Lib.hid (pack_any (l.map f) _ l.length _ wx HSL.out HZ.out HWX.out)
      rw [← HPS.out] at HP
      clear hsl HAT HR0 HC
      go_wp2_with fail
      refine HP.out.mono ?_
      rintro e w5 ⟨rfl, hb5⟩
      have HB5 := Lib.hid (HBE.out.trans (hb5.mono HBE.out.size))
      clear hb5
      go_wp2_with fail
      go_ret
      exact ⟨rfl, HB5.out⟩

/-- fact.text -/
theorem text_any (s : ByteArray) (w : World) : Calls Tryd.prog 48 #[.string s] w fun e w' => e = .returned (.string s) ∧ Below w.heap.size w w' := by
  go_enter Tryd.func48, Tryd.ntmps48
  go_wp2_with fail
  go_ret
  exact ⟨rfl, Below.refl _ _⟩
set_option maxHeartbeats 2000000 in
/-- fact.param -/
theorem param_any (x : Pm) (w : World) (hz : (pmS x).size ≤ 1000000000) (hw : LaidW w) : Calls Tryd.prog 46 #[.agg #[.string x.name, .string x.bound]] w fun e w' => e = .returned (.string (pmS x)) ∧ Below w.heap.size w w' := by
  obtain ⟨nm, bd⟩ := x
  have hb1 := below_box w (.cells #[.string nm, .string bd] pmT)
  have hb2 := below_box (w.alloc (.cells #[.string nm, .string bd] pmT)) (.cells #[.string nm, .string bd] 9)
  have hn1 := heap_alloc_new w (.cells #[.string nm, .string bd] pmT)
  have x0 : (w.alloc (.cells #[.string nm, .string bd] pmT)).cell? ⟨w.heap.size, 0, none⟩ = some (.string nm) := by rw [Lib.cell_of_heap hn1]; rfl
  have x1 : (w.alloc (.cells #[.string nm, .string bd] pmT)).cell? ⟨w.heap.size, 1, none⟩ = some (.string bd) := by rw [Lib.cell_of_heap hn1]; rfl
  have hcl : CellsAt ((w.alloc (.cells #[.string nm, .string bd] pmT)).alloc (.cells #[.string nm, .string bd] 9)) (w.alloc (.cells #[.string nm, .string bd] pmT)).heap.size 0 (encN.all [nm, bd]) := cellsAt_alloc _ [.string nm, .string bd] _
  have hsz : (w.alloc (.cells #[.string nm, .string bd] pmT)).heap.size = w.heap.size + 1 := World.size_alloc _ _
  have hsl : SlIs encN ((w.alloc (.cells #[.string nm, .string bd] pmT)).alloc (.cells #[.string nm, .string bd] 9)) (.slice (some ⟨w.heap.size + 1, 0, none⟩) 2 2) [nm, bd] := ⟨some ⟨w.heap.size + 1, 0, none⟩, 2, rfl, Nat.le_refl _, by decide, fun _ => ⟨w.heap.size + 1, 0, rfl, by rw [← hsz]; exact hcl⟩⟩
  have HP := Lib.hid (pack_any [nm, bd] _ 2 2 _ hsl (by rw [← Fa.packS_size]; exact hz) ((hw.below hb1).below hb2))
  obtain ⟨ps, hps⟩ : ∃ y, packS [nm, bd] = y := ⟨_, rfl⟩
  rw [hps] at HP
  rw [show pmS ⟨nm, bd⟩ = ps from hps]
  have HB := Lib.hid (hb1.trans (hb2.mono hb1.size))
  clear hn1 hcl hsl hb1 hb2 hz hw hps
  go_enter Tryd.func46, Tryd.ntmps46
  go_wp2_with fail
  refine HP.out.mono ?_
  rintro e w3 ⟨rfl, hb3⟩
  have HB3 := Lib.hid (HB.out.trans (hb3.mono HB.out.size))
  clear hb3
  go_wp2_with fail
  go_ret
  exact ⟨rfl, HB3.out⟩
end Go.Proofs.YthikdkeanndidaaDoor
