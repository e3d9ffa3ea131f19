/-
  CONTRACTS: the pieces of wrong programs: thirty-four short strings in a row of their own.
-/
import Derived.Test.YtnkojbnkdihbkaaGreatZB5
import Derived.Test.YtnkojbnkdihbkaaGreatZB1
import Derived.Test.YtnkojbnkdihbkaaGreatZA1
import Derived.ProofKit
import Derived.BigQuiet
import Derived.BigRegion
import Derived.StillTailTactics
namespace Go.Proofs.YtnkojbnkdihbkaaGreat
open Go Go.RowKit
set_option linter.unusedVariables false

theorem shorts_row (N : Nat) (V : List ByteArray) (hV : ∀ s ∈ V, s.size ≤ N) (t : TypeId) (w : World) : Shorts N (w.alloc (.cells (rowS V) t)) (some ⟨w.heap.size, 0, none⟩) V.length := by
  intro i hi
  refine ⟨_, _, V[i], rfl, ?_, hV _ (List.getElem_mem hi)⟩
  rw [Lib.cell_of_heap (heap_alloc_new w _)]
  simp [rowS, hi]

def piecesL : List ByteArray := [⟨#[]⟩, ⟨#[59]⟩, ⟨#[32]⟩, ⟨#[40]⟩, ⟨#[41]⟩, ⟨#[123]⟩, ⟨#[125]⟩, ⟨#[108, 101, 116, 32, 120, 32, 61, 32, 49, 59]⟩, ⟨#[102, 110, 32, 102, 40, 97, 58, 32, 105, 110, 116, 41, 32, 45, 62, 32, 105, 110, 116, 32, 123, 32, 97, 32, 125]⟩, ⟨#[99, 111, 110, 115, 116, 32, 99, 58, 32, 105, 110, 116, 32, 61, 32, 99, 59]⟩, ⟨#[117, 115, 101, 32, 122, 59]⟩, ⟨#[116, 114, 117, 101]⟩, ⟨#[117, 110, 107, 110, 111, 119, 110]⟩, ⟨#[120]⟩, ⟨#[46, 118]⟩, ⟨#[43]⟩, ⟨#[58, 58]⟩, ⟨#[55]⟩, ⟨#[109, 97, 99, 114, 111, 32, 109, 40, 101, 41, 32, 61, 32, 109, 33, 40, 101, 41, 59]⟩, ⟨#[109, 33, 40, 49, 41]⟩, ⟨#[115, 104, 111, 119, 40, 116, 114, 117, 101, 41]⟩, ⟨#[110, 101, 119, 32, 80, 40, 49, 41]⟩, ⟨#[47, 47, 32, 110, 111, 10]⟩, ⟨#[45, 62, 32, 98, 111, 111, 108]⟩, ⟨#[116, 121, 112, 101, 32, 81, 32, 123, 32, 113, 58, 32, 81, 32, 125]⟩, ⟨#[105, 109, 112, 108, 32, 83, 104, 111, 119, 32, 102, 111, 114, 32, 98, 111, 111, 108, 32, 123, 32, 125]⟩, ⟨#[0]⟩, ⟨#[112, 117, 98, 32, 117, 115, 101, 32, 97, 59]⟩, ⟨#[102, 110, 32, 109, 97, 105, 110, 40, 41, 32, 45, 62, 32, 105, 110, 116, 32, 123, 32, 49, 32, 125]⟩, ⟨#[60]⟩, ⟨#[105, 102]⟩, ⟨#[116, 114, 97, 105, 116, 32, 65, 58, 32, 66, 32, 123, 32, 125, 10, 116, 114, 97, 105, 116, 32, 66, 58, 32, 65, 32, 123, 32, 125, 10]⟩, ⟨#[49, 48, 48, 48, 48, 48, 48, 48, 48, 48, 48, 48, 48, 48, 48, 48, 48, 48, 48, 48, 48, 48]⟩, ⟨#[112, 114, 105, 110, 116, 32, 49, 59]⟩]
theorem pieces_few : piecesL.length = 34 := rfl
theorem pieces_short : ∀ s ∈ piecesL, s.size ≤ 32 := by decide

set_option maxRecDepth 100000 in
set_option maxHeartbeats 1000000 in
/-- Pieces -/
theorem pieces_any (w : World) : Calls Tryz.prog 83 #[] w fun e w' => e = .returned (.slice (some ⟨w.heap.size, 0, none⟩) 34 34) ∧ w' = w.alloc (.cells (rowS piecesL) 9) := by
  go_enter Tryz.func83, Tryz.ntmps83
  go_wp2_with fail
  go_ret
  exact ⟨rfl, rfl⟩

/-- Light -/
theorem light_any (p : Option Addr) (n cap : Nat) (w : World) (hn : n ≤ 1000000) : Calls Tryz.prog 10 #[.slice p n cap] w fun e w' => e = .returned (.bool (decide ((n : Int) ≤ 400))) ∧ w' = w := by
  go_enter Tryz.func10, Tryz.ntmps10
  go_wp2_with fail
  go_ret
  exact ⟨rfl, rfl⟩

/-- Roll -/
theorem roll_any (p : Option Addr) (n cap : Nat) (w : World) : Calls Tryz.prog 11 #[.slice p n cap] w fun e w' => e = .returned (.pointer (some ⟨w.heap.size, 0, none⟩)) ∧ w' = w.alloc (.cells #[.slice p n cap, .int .i64 0] 57) := by
  go_enter Tryz.func11, Tryz.ntmps11
  go_wp2_with fail
  go_ret
  exact ⟨rfl, rfl⟩

/-- the dice as Roll leaves them -/
theorem roll_dice (w : World) (p : Option Addr) (n cap : Nat) (t : TypeId) (hn : n ≤ 400) (h : ∀ i, i < n → ∃ b o, p = some ⟨b, o, none⟩ ∧ ∃ x : Int, -9223372036854775808 ≤ x ∧ x ≤ 9223372036854775807 ∧ w.cell? ⟨b, o + i, none⟩ = some (.int .i64 x))
    (hb : ∀ b o, p = some ⟨b, o, none⟩ → b < w.heap.size) :
    DiceAt ⟨w.heap.size, p, n, cap⟩ (w.alloc (.cells #[.slice p n cap, .int .i64 0] t)) := by
  have c : ∀ i v, (#[.slice p n cap, .int .i64 0] : Array Value)[i]? = some v → (w.alloc (.cells #[.slice p n cap, .int .i64 0] t)).cell? ⟨w.heap.size, i, none⟩ = some v := fun i v hv => by rw [Lib.cell_of_heap (heap_alloc_new w _)]; exact hv
  have ea : atOf w.heap.size (w.alloc (.cells #[.slice p n cap, .int .i64 0] t)) = 0 := atOf_eq (c 1 _ rfl)
  refine ⟨?_, c 0 _ rfl, by rw [ea]; exact c 1 _ rfl, by rw [ea]; exact Nat.zero_le _, fun i hi => ?_, fun b o e => ?_, Lib.frozen_of_heap (heap_alloc_new w _) 1⟩
  · show n ≤ 400
    exact hn
  · obtain ⟨b, o, hp, x, h1, h2, hc⟩ := h i hi
    refine ⟨b, o, hp, x, h1, h2, ?_⟩
    rw [(below_box w _).cell (p := ⟨b, o + i, none⟩) (hb b o hp)]
    exact hc
  · have := hb b o e
    show b ≠ w.heap.size
    omega
end Go.Proofs.YtnkojbnkdihbkaaGreat

/-
  CONTRACTS: the made package's Apply: an edit, wherever it is possible.
-/
namespace Go.Proofs.YtnkojbnkdihbkaaGreat
open Go Go.RowKit
set_option linter.unusedVariables false

/-- a module after the edit -/
def edTo (m tx : ByteArray) (a c : Nat) (x : Src) : Src := if (x.1.toList == m.toList) = true ∧ a + c ≤ x.2.size then (x.1, editText x.2 a c tx) else x
/-- the first k modules after the edit, the others as they are -/
def edL (m tx : ByteArray) (a c : Nat) (L : List Src) (k : Nat) : List Src := (L.take k).map (edTo m tx a c) ++ L.drop k
theorem edL_zero (m tx : ByteArray) (a c : Nat) (L : List Src) : edL m tx a c L 0 = L := by simp [edL]
theorem edL_all (m tx : ByteArray) (a c : Nat) (L : List Src) : edL m tx a c L L.length = L.map (edTo m tx a c) := by simp [edL]
theorem edL_length (m tx : ByteArray) (a c : Nat) (L : List Src) (k : Nat) : (edL m tx a c L k).length = L.length := by simp [edL]; omega
theorem edL_at (m tx : ByteArray) (a c : Nat) (L : List Src) (k : Nat) (hk : k < L.length) : (edL m tx a c L k).getD k empty2 = L.getD k empty2 := by
  unfold edL
  have e : ((L.take k).map (edTo m tx a c)).length = k := by simp; omega
  rw [List.getD_eq_getElem?_getD, List.getElem?_append_right (by omega), e, Nat.sub_self, List.getElem?_drop, Nat.add_zero, List.getD_eq_getElem?_getD]
theorem edL_step (m tx : ByteArray) (a c : Nat) (L : List Src) (k : Nat) (hk : k < L.length) : edL m tx a c L (k + 1) = (edL m tx a c L k).set k (edTo m tx a c (L.getD k empty2)) := by
  unfold edL
  have e : ((L.take k).map (edTo m tx a c)).length = k := by simp; omega
  rw [List.take_succ_eq_append_getElem hk, List.map_append, List.set_append_right _ _ (by omega), e, Nat.sub_self, show L.drop k = L[k] :: L.drop (k + 1) from List.drop_eq_getElem_cons hk, List.set_cons_zero, List.map_singleton, List.append_assoc, List.singleton_append, List.getD_eq_getElem?_getD, List.getElem?_eq_getElem hk, Option.getD_some]
theorem set_self (L : List Src) (k : Nat) (hk : k < L.length) : L.set k (L.getD k empty2) = L := by
  simp [List.getD, List.getElem?_eq_getElem hk]

theorem srcCells_set (L : List Src) (k : Nat) (hk : k < L.length) (s : ByteArray) : srcCells (L.set k ((L.getD k empty2).1, s)) = (srcCells L).set (k * 2 + 1) (.string s) := by
  induction L generalizing k with
  | nil => simp at hk
  | cons x L ih =>
    cases k with
    | zero => simp [srcCells]
    | succ k =>
      have h := ih k (by simpa using hk)
      have e1 : ∀ (y : Src) (M : List Src), srcCells (y :: M) = .string y.1 :: .string y.2 :: srcCells M := fun y M => by simp [srcCells]
      rw [List.set_cons_succ, e1, e1, show (k + 1) * 2 + 1 = (k * 2 + 1) + 1 + 1 by omega, List.set_cons_succ, List.set_cons_succ, ← h]
      simp [List.getD]

theorem OwnS.base_le {w : World} {base base' : Nat} {v : Value} {L : List Src} (h : OwnS w base v L) (hb : base' ≤ base) : OwnS w base' v L := by
  obtain ⟨h1, h2 | ⟨g, cap, cur, e, hb', rest⟩⟩ := h
  · exact ⟨h1, .inl h2⟩
  · exact ⟨h1, .inr ⟨g, cap, cur, e, Nat.le_trans hb hb', rest⟩⟩

/-- the edit lies in its block, the list in a block of its own -/
structure Rw (w0 : World) (g cap : Nat) (L : List Src) (m tx : ByteArray) (a c : Nat) (w : World) : Prop where
  own : OwnS w (w0.heap.size + 1) (.slice (some ⟨g, 0, none⟩) L.length cap) L
  gb : w0.heap.size + 1 ≤ g
  e0 : w.cell? ⟨w0.heap.size, 0, none⟩ = some (.string m)
  e1 : w.cell? ⟨w0.heap.size, 1, none⟩ = some (.int .i64 (a : Int))
  e2 : w.cell? ⟨w0.heap.size, 2, none⟩ = some (.int .i64 (c : Int))
  e3 : w.cell? ⟨w0.heap.size, 3, none⟩ = some (.string tx)
  bel : Below w0.heap.size w0 w

theorem Rw.heap {w0 : World} {g cap : Nat} {L : List Src} {m tx : ByteArray} {a c : Nat} {w : World} (h : Rw w0 g cap L m tx a c w) (h0 : 0 < L.length) : ∃ cur, w.heap[g]? = some (.cells cur 46 (0, 0)) ∧ L.length ≤ cap ∧ cap ≤ maxLen ∧ cur.size = cap * 2 ∧ cur.toList.take (L.length * 2) = srcCells L := by
  obtain ⟨h1, h2 | ⟨g', cap', cur, e, hb', hg, r1, r2, r3, r4⟩⟩ := h.own
  · obtain ⟨e, _⟩ := h2; cases e
  · simp only [Value.slice.injEq, Option.some.injEq, Addr.mk.injEq] at e
    obtain ⟨⟨rfl, -, -⟩, -, rfl⟩ := e
    exact ⟨cur, hg, r1, r2, r3, r4⟩
theorem Rw.cells {w0 : World} {g cap : Nat} {L : List Src} {m tx : ByteArray} {a c : Nat} {w : World} (h : Rw w0 g cap L m tx a c w) (j : Nat) (hj : j < L.length) :
    w.cell? ⟨g, j * 2, none⟩ = some (.string (L.getD j empty2).1) ∧ w.cell? ⟨g, j * 2 + 1, none⟩ = some (.string (L.getD j empty2).2) ∧ w.frozen? ⟨g, j * 2 + 1, none⟩ = false := by
  obtain ⟨n', cap', e, _, _, h4⟩ := h.own.srcs
  simp only [Value.slice.injEq] at e
  obtain ⟨rfl, -, rfl⟩ := e
  obtain ⟨b, off, e, hc⟩ := h4 (by omega)
  simp only [Option.some.injEq, Addr.mk.injEq] at e
  obtain ⟨rfl, rfl, -⟩ := e
  obtain ⟨cur, hg, _⟩ := h.heap (by omega)
  have n := hc.name j hj
  have t := hc.text j hj
  rw [Nat.zero_add] at n t
  exact ⟨n, t, Lib.frozen_of_heap hg _⟩
theorem Rw.drewN {w0 : World} {g cap : Nat} {L : List Src} {m tx : ByteArray} {a c : Nat} {w : World} (h : Rw w0 g cap L m tx a c w) (n : Nat) : Rw w0 g cap L m tx a c (w.drewN n) :=
  ⟨h.own, h.gb, h.e0, h.e1, h.e2, h.e3, below_drewN h.bel n⟩
theorem Rw.store {w0 : World} {g cap : Nat} {L : List Src} {m tx : ByteArray} {a c : Nat} {w : World} (h : Rw w0 g cap L m tx a c w) (j : Nat) (hj : j < L.length) (s : ByteArray) :
    Rw w0 g cap (L.set j ((L.getD j empty2).1, s)) m tx a c (w.setCell ⟨g, j * 2 + 1, none⟩ (.string s)) := by
  obtain ⟨cur, hg, r1, r2, r3, r4⟩ := h.heap (by omega)
  have hgb := h.gb
  have keep : ∀ i v, w.cell? ⟨w0.heap.size, i, none⟩ = some v → (w.setCell ⟨g, j * 2 + 1, none⟩ (.string s)).cell? ⟨w0.heap.size, i, none⟩ = some v := by
    intro i v hv
    have hb : But (fun x => x.block = g) w (w.setCell ⟨g, j * 2 + 1, none⟩ (.string s)) := But.setCell w _ _ rfl
    exact hb.keep hv (by show ¬ w0.heap.size = g; omega)
  refine ⟨⟨by rw [srcCells_length], .inr ⟨g, cap, cur.setIfInBounds (j * 2 + 1) (.string s), by rw [List.length_set], h.gb, heap_setCell_same _ _ _ _ _ _ hg, by rw [List.length_set]; exact r1, r2, by simpa using r3, ?_⟩⟩, h.gb, keep _ _ h.e0, keep _ _ h.e1, keep _ _ h.e2, keep _ _ h.e3, h.bel.setCell (p := ⟨g, j * 2 + 1, none⟩) (by show w0.heap.size ≤ g; omega) _⟩
  rw [srcCells_set L j hj, List.length_set, ← r4, Array.toList_setIfInBounds, List.take_set]

theorem rw_start {w w1 : World} {t : TypeId} {v : Value} {L : List Src} {m tx : ByteArray} {a c n : Nat} (hn : n = L.length) (ho : OwnS w1 (w.heap.size + 1) v ([] ++ L)) (hb : Below (w.heap.size + 1) (w.alloc (.cells #[.string m, .int .i64 (a : Int), .int .i64 (c : Int), .string tx] t)) w1) :
    (n = 0 ∧ v = .slice none 0 0) ∨ ∃ g cap, v = .slice (some ⟨g, 0, none⟩) n cap ∧ Rw w g cap (edL m tx a c L 0) m tx a c w1 := by
  rw [List.nil_append] at ho
  have ho2 := ho
  obtain ⟨h1, h2 | ⟨g, cap, cur, e, hb', rest⟩⟩ := ho
  · exact .inl ⟨by omega, h2.1⟩
  · right
    refine ⟨g, cap, by rw [e, hn], ?_⟩
    rw [edL_zero]
    rw [e] at ho2
    have k : ∀ i v, (#[.string m, .int .i64 (a : Int), .int .i64 (c : Int), .string tx] : Array Value)[i]? = some v → w1.cell? ⟨w.heap.size, i, none⟩ = some v := by
      intro i v hv
      rw [hb.cell (p := ⟨w.heap.size, i, none⟩) (by show w.heap.size < _; omega), Lib.cell_of_heap (heap_alloc_new w _)]
      exact hv
    exact ⟨ho2, hb', k 0 _ rfl, k 1 _ rfl, k 2 _ rfl, k 3 _ rfl, (below_box w _).trans (hb.mono (by omega))⟩

set_option maxHeartbeats 1000000 in
set_option maxRecDepth 100000 in
/-- Apply -/
theorem madeApply_any (p : Option Addr) (n cap : Nat) (L : List Src) (m tx : ByteArray) (a c : Nat) (w : World) (hsz : n ≤ 900000) (hl : SrcIs w (.slice p n cap) L) (hp : p = none → cap = 0)
    (hL : ∀ j, j < L.length → (L.getD j empty2).2.size ≤ 1000000) (ht : tx.size ≤ 1000000) (ha : a ≤ 1000000) (hc : c ≤ 1000000) :
    Calls Tryz.prog 49 #[.slice p n cap, .agg #[.string m, .int .i64 (a : Int), .int .i64 (c : Int), .string tx]] w fun e w' => ∃ v, e = .returned v ∧ OwnS w' w.heap.size v (L.map (edTo m tx a c)) ∧ Below w.heap.size w w' := by
  have h4 := (hl.below (below_box w (.cells #[.string m, .int .i64 (a : Int), .int .i64 (c : Int), .string tx] 84))).liesAt
  obtain ⟨hn, h2, h3, h4⟩ := h4
  have Hn := Lib.hid hn
  have H4 := Lib.hid h4
  have HP := Lib.hid hp
  have HL2 := Lib.hid hL
  have HO := Lib.hid (OwnS.isNil (w.alloc (.cells #[.string m, .int .i64 (a : Int), .int .i64 (c : Int), .string tx] 84)) (w.heap.size + 1))
  have HLEN : Hid (([] : List Src).length + L.length ≤ 1800000000) := by show _ ≤ _; simp; omega
  have HB0 := Lib.hid (below_box w (.cells #[.string m, .int .i64 (a : Int), .int .i64 (c : Int), .string tx] 84))
  clear hn h4 hp hl hL
  go_enter Tryz.func49, Tryz.ntmps49
  go_wp2_with (at_builtin; go_must (refine wpList_appendS (o := ⟨some 9, _, _, _, _, _⟩) rfl (.const (.slice none 0 0)) (.tmp 8) rfl (w.heap.size + 1) _ [] rfl HO.out _ _ _ L rfl Hn.out H4.out HP.out HLEN.out (by simp) ?_; intro v' w1 hown hb; have HOWN := Lib.hid hown; have HB := Lib.hid hb; clear hown hb))
  rcases rw_start Hn.out HOWN.out HB.out with ⟨h0, hv⟩ | ⟨g, cap2, hv, hrw⟩
  · subst hv
    have HB2 : Hid (Below w.heap.size w w1) := (HB0.out).trans (HB.out.mono (by omega))
    have HE : Hid (OwnS w1 w.heap.size (.slice none 0 0) (L.map (edTo m tx a c))) := by
      have : L = [] := List.eq_nil_of_length_eq_zero (by have := Hn.out; omega)
      subst this
      exact OwnS.isNil _ _
    go_wp2_with fail
    go_loopw [6, 7] (fun i s wr => i = .int .i64 0 ∧ wr = w1) (fun i _ _ => 0)
    case atStart => exact ⟨rfl, rfl⟩
    case round =>
      obtain ⟨rfl, rfl⟩ := hrel
      go_wp2_with fail
      go_ret
      exact ⟨_, rfl, HE.out, HB2.out⟩
  · subst hv
    have HR0 := Lib.hid hrw
    clear hrw HOWN HB HB0 HO H4
    go_wp2_with fail
    go_loopw [6, 7] (fun i s wr => ∃ j : Nat, j ≤ n ∧ i = .int .i64 j ∧ Hid (Rw w g cap2 (edL m tx a c L j) m tx a c wr)) (fun i _ _ => n - (intOf i).toNat)
    case atStart => exact ⟨0, Nat.zero_le _, rfl, HR0.out⟩
    case round =>
      obtain ⟨j, hj, rfl, HR⟩ := hrel
      by_cases hlt : j < n
      · have hjl : j < L.length := by rw [← Hn.out]; exact hlt
        have hjl2 : j < (edL m tx a c L j).length := by rw [edL_length]; exact hjl
        obtain ⟨x0, x1, fz⟩ := HR.out.cells j hjl2
        have e0 := HR.out.e0
        have e1 := HR.out.e1
        have e2 := HR.out.e2
        have e3 := HR.out.e3
        have hx := HL2.out j hjl
        have hstep := edL_step m tx a c L j hjl
        have hst := fun s => HR.out.store j hjl2 s
        rw [edL_at m tx a c L j hjl] at x0 x1 hst
        have hi1 : (j : Int) < (n : Int) := by omega
        have hself := set_self (edL m tx a c L j) j hjl2
        have hgx := edL_at m tx a c L j hjl
        rw [hgx] at hself
        generalize L.getD j empty2 = x at *
        obtain ⟨na, s⟩ := x
        simp only at x0 x1 hx hst
        have w1 : IntKind.i64.wrap ((a : Int) + (c : Int)) = (a : Int) + (c : Int) := IntWalk.i64_in _ (by omega)
        have g1 : (0 : Int) ≤ (a : Int) := by omega
        have g2 : (0 : Int) ≤ (c : Int) := by omega
        by_cases hne : (na.toList == m.toList) = true
        · by_cases hle : a + c ≤ s.size
          · have hle' : (a : Int) + (c : Int) ≤ (s.size : Int) := by omega
            have hd : edTo m tx a c (na, s) = (na, editText s a c tx) := by unfold edTo; rw [if_pos ⟨hne, hle⟩]
            rw [hd] at hstep
            have HST : Hid (∀ wd, Rw w g cap2 (edL m tx a c L j) m tx a c wd → (wd.cell? ⟨g, j * 2 + 1, none⟩ = some (.string s) ∧ wd.frozen? ⟨g, j * 2 + 1, none⟩ = false) ∧ Rw w g cap2 (edL m tx a c L (j + 1)) m tx a c (wd.setCell ⟨g, j * 2 + 1, none⟩ (.string (editText s a c tx)))) := by
              show ∀ wd, _
              intro wd hd'
              obtain ⟨_, y1, y2⟩ := hd'.cells j hjl2
              have z := hd'.store j hjl2 (editText s a c tx)
              rw [hgx] at y1 z
              rw [hstep]
              exact ⟨⟨y1, y2⟩, z⟩
            have r1 := string_upto s (a : Int) (by omega) (by omega)
            have r2 := string_from s ((a : Int) + (c : Int)) (by omega) (by omega)
            have z1 : (s.extract 0 (a : Int).toNat).size ≤ 1000000 := by rw [ByteArray.size_extract]; omega
            have z2 : (s.extract ((a : Int) + (c : Int)).toNat s.size).size ≤ 1000000 := by rw [ByteArray.size_extract]; omega
            have hed : editText s a c tx = s.extract 0 (a : Int).toNat ++ tx ++ s.extract ((a : Int) + (c : Int)).toNat s.size := rfl
            rw [hed] at HST
            generalize s.extract 0 (a : Int).toNat = A at *
            generalize s.extract ((a : Int) + (c : Int)).toNat s.size = B at *
            have r3 : ∀ u : World, (Op.stringOp .add A tx).run Tryz.prog u = .ok (.string (A ++ tx)) u := fun u => run_string_add_sum u A tx (by omega)
            have r4 : ∀ u : World, (Op.stringOp .add (A ++ tx) B).run Tryz.prog u = .ok (.string (A ++ tx ++ B)) u := fun u => run_string_add_sum u (A ++ tx) B (by rw [ByteArray.size_append]; omega)
            clear hstep hself hst hd hed hjl hjl2 hgx
            go_wp2_with fail
            go_quiet (fail)
            go_wp2_with fail
            have HD : Rw w g cap2 (edL m tx a c L j) m tx a c ((wr.drewN nq).drew) := (HR.out.drewN nq).drewN 1
            obtain ⟨wd, hwd⟩ : ∃ wd, (wr.drewN nq).drew = wd := ⟨_, rfl⟩
            refine still_tail 19 (by kernel_rfl) (by kernel_rfl) wd hwd ?_
            rw [hwd] at HD
            clear HR x0 x1 e0 e1 e2 e3 fz hwd
            obtain ⟨⟨x1, fz⟩, hrw2⟩ := HST.out wd HD
            have e1 := HD.e1
            have e2 := HD.e2
            have e3 := HD.e3
            have HW := Lib.hid hrw2
            clear HST HD hrw2
            simp only [List.take_succ_cons, List.take_zero, List.drop_succ_cons, List.drop_zero]
            repeat still_step
            refine wpStill_nil ?_
            go_wp2_with fail
            go_roundw
            case rel => exact ⟨j + 1, by omega, by go_num, HW⟩
            case measure => simp [intOf]; omega
          · have hle' : ¬ (a : Int) + (c : Int) ≤ (s.size : Int) := by omega
            have hd : edTo m tx a c (na, s) = (na, s) := by unfold edTo; rw [if_neg (fun h => hle h.2)]
            rw [hd, hself] at hstep
            have HSTEP := Lib.hid hstep
            clear hstep hself hst hd hjl hjl2 fz hgx
            go_wp2_with fail
            go_quiet (fail)
            go_wp2_with fail
            go_roundw
            case rel => exact ⟨j + 1, by omega, by go_num, by show Rw _ _ _ _ _ _ _ _ _; rw [HSTEP.out]; exact HR.out.drewN _⟩
            case measure => simp [intOf]; omega
        · have hne' : (na.toList == m.toList) = false := by simpa using hne
          have hd : edTo m tx a c (na, s) = (na, s) := by unfold edTo; rw [if_neg (fun h => hne h.1)]
          rw [hd, hself] at hstep
          have HSTEP := Lib.hid hstep
          clear hstep hself hst hd hjl hjl2 fz hgx hne
          go_wp2_with fail
          go_quiet (fail)
          go_wp2_with fail
          go_roundw
          case rel => exact ⟨j + 1, by omega, by go_num, by show Rw _ _ _ _ _ _ _ _ _; rw [HSTEP.out]; exact HR.out.drewN _⟩
          case measure => simp [intOf]; omega
      · have hje : j = n := by omega
        have HE : Hid (edL m tx a c L j = L.map (edTo m tx a c)) := by show _ = _; rw [hje, Hn.out]; exact edL_all m tx a c L
        have HEL : Hid ((edL m tx a c L j).length = n) := by show _ = _; rw [edL_length]; exact Hn.out.symm
        clear hje
        go_wp2_with fail
        go_ret
        refine ⟨_, rfl, ?_, HR.out.bel⟩
        have ho := HR.out.own.base_le (base' := w.heap.size) (by omega)
        rw [HEL.out, HE.out] at ho
        exact ho
end Go.Proofs.YtnkojbnkdihbkaaGreat
