/-
  CONTRACT: types.each: what a function makes of each type of a list, in new memory.
-/
import Derived.Test.YtbnnokibjccdaaaTpZ
import Derived.Test.YtbnnokibjccdaaaTpE0
import Derived.Laws.MakeOwn
namespace Go.Proofs.Ytbnnokibjccdaaa
open Go Go.RowKit
set_option linter.unusedVariables false
set_option linter.unusedSimpArgs false

theorem all_set (R : List Rw) (j : Nat) (q : Rw) (hj : j < R.length) : rwEnc.all (R.set j q) = ((rwEnc.all R).set (j * 2) (.string q.name)).set (j * 2 + 1) (.slice q.p q.n q.cap) := by
  induction R generalizing j with
  | nil => simp at hj
  | cons x R ih =>
    cases j with
    | zero => simp [rwEnc, Rw.cells, Enc.all]
    | succ j =>
      have h := ih j (by simpa using hj)
      rw [List.set_cons_succ, Enc.all_cons, Enc.all_cons, h]
      have e : ∀ (l : List Value) k v, (rwEnc.cells x ++ l).set (k + 2) v = rwEnc.cells x ++ l.set k v := fun l k v => by simp [rwEnc, Rw.cells]
      rw [show (j + 1) * 2 = j * 2 + 2 by omega, e, show j * 2 + 2 + 1 = (j * 2 + 1) + 2 by omega, e]
theorem made_tp (n : Nat) : madeCells (Value.agg #[.string ⟨#[]⟩, .slice none 0 0]).cells (n * 2) = (rwEnc.all (List.replicate n rw0)).toArray := by
  apply Array.ext
  · simp [size_madeCells, Enc.all_length, rwEnc]
  · intro i h1 h2
    have hz : (Value.agg #[.string ⟨#[]⟩, .slice none 0 0]).cells = #[.string ⟨#[]⟩, .slice none 0 0] := rfl
    have h3 : i < n * 2 := by simpa [size_madeCells] using h1
    have hq : i / 2 < n := by omega
    have hat := rwEnc.all_at (List.replicate n rw0) (i / 2) (by simpa using hq) (i % 2) (by show i % 2 < 2; omega)
    have e : i / 2 * rwEnc.size + i % 2 = i := by show i / 2 * 2 + i % 2 = i; omega
    rw [e] at hat
    simp only [List.getElem_replicate] at hat
    have hr : (rwEnc.all (List.replicate n rw0))[i]? = some (rwEnc.all (List.replicate n rw0)).toArray[i] := by simp at h2 ⊢
    rw [hr] at hat
    rcases (by omega : i % 2 = 0 ∨ i % 2 = 1) with hm | hm
    · rw [hm] at hat
      have : (rwEnc.all (List.replicate n rw0)).toArray[i] = .string ⟨#[]⟩ := by injection hat
      rw [this]
      simp [madeCells, hz, hm]
    · rw [hm] at hat
      have : (rwEnc.all (List.replicate n rw0)).toArray[i] = .slice none 0 0 := by injection hat
      rw [this]
      simp [madeCells, hz, hm]
/-- a row of types, of which the first j are made -/
structure RowP (w0 : World) (b : Nat) (us : List Tp) (n : Nat) (w : World) : Prop where
  row : ∃ R : List Rw, R.length = n ∧ w.heap[b]? = some (.cells (rwEnc.all R).toArray 24 (0, 0)) ∧ ∀ i (h1 : i < us.length) (h2 : i < R.length), IsP (fun k => b < k) w R[i] us[i]
  few : us.length ≤ n
  old : w0.heap.size ≤ b
  be : Below w0.heap.size w0 w
theorem RowP.lt {w0 : World} {b n : Nat} {us : List Tp} {w : World} (h : RowP w0 b us n w) : b < w.heap.size := by
  obtain ⟨R, _, h2, _⟩ := h.row
  rcases Nat.lt_or_ge b w.heap.size with h' | h'
  · exact h'
  · rw [Array.getElem?_eq_none h'] at h2; cases h2
theorem RowP.below {w0 : World} {b n : Nat} {us : List Tp} {w w' : World} (h : RowP w0 b us n w) (hb : Below w.heap.size w w') : RowP w0 b us n w' := by
  obtain ⟨R, h1, h2, h3⟩ := h.row
  exact ⟨⟨R, h1, by rw [hb.block b h.lt]; exact h2, fun i a c => (h3 i a c).later hb⟩, h.few, h.old, h.be.trans (hb.mono h.be.size)⟩
theorem RowP.start (w0 : World) (n : Nat) : RowP w0 w0.heap.size [] n (w0.alloc (.cells (rwEnc.all (List.replicate n rw0)).toArray 24)) :=
  ⟨⟨List.replicate n rw0, by simp, heap_alloc_new w0 _, fun i h => absurd h (Nat.not_lt_zero i)⟩, Nat.zero_le _, Nat.le_refl _, below_box w0 _⟩
theorem RowP.store {w0 : World} {b n : Nat} {us : List Tp} {w : World} (h : RowP w0 b us n w) {q : Rw} {u : Tp} (hu : IsP (fun k => b < k) w q u) (hlt : us.length < n) :
    RowP w0 b (us ++ [u]) n ((w.setCell ⟨b, us.length * 2, none⟩ (.string q.name)).setCell ⟨b, us.length * 2 + 1, none⟩ (.slice q.p q.n q.cap)) := by
  obtain ⟨R, h1, h2, h3⟩ := h.row
  have e1 := heap_setCell_same w b (us.length * 2) _ _ (.string q.name) h2
  have e2 := heap_setCell_same _ b (us.length * 2 + 1) _ _ (.slice q.p q.n q.cap) e1
  have key : ∀ (W : World) (k : Nat) (v : Value), But (fun a => a.block = b) W (W.setCell ⟨b, k, none⟩ v) := fun W k v => But.setCell W _ v rfl
  have hbut : But (fun a => a.block = b) w ((w.setCell ⟨b, us.length * 2, none⟩ (.string q.name)).setCell ⟨b, us.length * 2 + 1, none⟩ (.slice q.p q.n q.cap)) := (key _ _ _).trans (key _ _ _)
  have hA : ∀ a : Addr, a.block = b → ¬ b < a.block := fun a e => by omega
  refine ⟨⟨R.set us.length q, by simp [h1], ?_, fun i a c => ?_⟩, by simp; omega, h.old, h.be.trans (But.below hbut h.be.size (fun a e => by have := h.old; have e' : a.block = b := e; omega))⟩
  · rw [e2]
    congr 2
    rw [all_set R us.length q (by omega)]
    apply Array.ext'
    simp
  · by_cases e : i < us.length
    · rw [List.getElem_append_left e, List.getElem_set_ne (by omega)]
      exact (h3 i e (by omega)).but hbut hA
    · have e' : i = us.length := by simp at a; omega
      subst e'
      rw [List.getElem_append_right (Nat.le_refl _), List.getElem_set_self]
      simp only [Nat.sub_self, List.getElem_cons_zero]
      exact hu.but hbut hA
theorem RowP.fin {w0 : World} {b n : Nat} {us : List Tp} {w : World} (h : RowP w0 b us n w) (hn : us.length = n) (hm : n ≤ maxLen) : IsPs (fun k => w0.heap.size ≤ k) w (.slice (some ⟨b, 0, none⟩) n n) us := by
  obtain ⟨R, h1, h2, h3⟩ := h.row
  have ho := h.old
  refine ⟨some ⟨b, 0, none⟩, n, n, R, rfl, ⟨some ⟨b, 0, none⟩, n, by rw [h1], by omega, hm, fun _ => ⟨b, 0, rfl, fun j v hv => ?_⟩⟩, (fun e => by cases e), fun b' o e h0 => ?_, by omega, fun i a c => (h3 i c a).mono (fun k hk => by omega)⟩
  · rw [Lib.cell_of_heap h2]
    simpa using hv
  · injection e with e
    injection e with e _ _
    omega

theorem RowP.has {w0 : World} {b n : Nat} {us : List Tp} {w : World} (h : RowP w0 b us n w) (k : Nat) (hk : k < n * 2) : ∃ v, w.cell? ⟨b, k, none⟩ = some v := by
  obtain ⟨R, h1, h2, _⟩ := h.row
  have hl : k < (rwEnc.all R).length := by rw [Enc.all_length, h1]; exact hk
  exact ⟨(rwEnc.all R)[k], by rw [Lib.cell_of_heap h2]; simp⟩
theorem RowP.warm {w0 : World} {b n : Nat} {us : List Tp} {w : World} (h : RowP w0 b us n w) (k : Nat) : w.frozen? ⟨b, k, none⟩ = false := by
  obtain ⟨R, h1, h2, _⟩ := h.row
  exact Lib.frozen_of_heap h2 k
theorem RowP.has2 {w0 : World} {b n : Nat} {us : List Tp} {w : World} (h : RowP w0 b us n w) (i k : Nat) (v : Value) (hik : i ≠ k) (hk : k < n * 2) : ∃ u, (w.setCell ⟨b, i, none⟩ v).cell? ⟨b, k, none⟩ = some u := by
  obtain ⟨u, hu⟩ := h.has k hk
  exact ⟨u, by rw [(But.setCell (M := fun a => a = ⟨b, i, none⟩) w ⟨b, i, none⟩ v rfl).keep hu (fun e => by injection e with _ e _; omega)]⟩
set_option maxHeartbeats 4000000 in
set_option maxRecDepth 100000 in
/-- each, with a function F and what it holds -/
theorem each_any {A : Nat → Prop} (F : FuncId) (bs : Array Value) (f : Tp → Tp) (l : List Tp) (p : Option Addr) (n c : Nat) (w : World) (h : IsPs A w (.slice p n c) l) (hn : l.length ≤ 1000000000)
    (hF : ∀ args w, (callFunc F args).run Try.prog w = .ok (.enter F args) w)
    (hC : ∀ j (hj : j < l.length) (q : Rw) (w1 : World), Below w.heap.size w w1 → IsP A w1 q l[j] → Calls Try.prog F (#[.agg #[.string q.name, .slice q.p q.n q.cap]] ++ bs) w1 fun e w2 => ∃ q' : Rw, e = .returned (.agg #[.string q'.name, .slice q'.p q'.n q'.cap]) ∧ IsP (fun k => w1.heap.size ≤ k) w2 q' (f l[j]) ∧ Below w1.heap.size w1 w2) :
    Calls Try.prog 65 #[.slice p n c, .func (.func F) #[] bs] w fun e w' => ∃ p' c', e = .returned (.slice p' l.length c') ∧ IsPs (fun k => w.heap.size ≤ k) w' (.slice p' l.length c') (l.map f) ∧ Below w.heap.size w w' := by
  obtain ⟨e1, hm, -⟩ := h.at_
  subst e1
  have hm2 := hm
  unfold maxLen at hm2
  by_cases h0 : l.length = 0
  · have hl : l = [] := List.eq_nil_of_length_eq_zero h0
    subst hl
    have h00 : ((([] : List Tp).length : Nat) : Int) = 0 := rfl
    go_enter Try.func65, Try.ntmps65
    go_wp2_with fail
    go_ret
    exact ⟨none, 0, rfl, IsPs.isNil _ _, Below.refl _ _⟩
  · have h01 : (((l.length : Nat) : Int) == 0) = false := by rw [beq_eq_false_iff_ne]; omega
    obtain ⟨i0, hi, hz0, hz1, hz2⟩ := info_parts infoTp
    have hmk : (Instr.makeSlice 22 (.int .i64 (l.length : Int)) (.int .i64 (l.length : Int))).run Try.prog w = .ok (.slice (some ⟨w.heap.size, 0, none⟩) l.length l.length) (w.alloc (.cells (rwEnc.all (List.replicate l.length rw0)).toArray 24)) := by
      have h := run_make (P := Try.prog) w 22 24 i0 _ Try.underlying22 hi hz0 .i64 .i64 (l.length : Int) (l.length : Int) (by omega) (Int.le_refl _) (by rw [hz2]; omega) (by omega)
      rw [hz1, Int.toNat_natCast, made_tp] at h
      exact h
    have HR0 := Lib.hid (RowP.start w l.length)
    have HL := Lib.hid h
    have HC := Lib.hid hC
    clear h hC hi hz0 hz1 hz2
    go_enter Try.func65, Try.ntmps65
    go_wp2_with fail
    clear hmk h01
    generalize hW : w.alloc (.cells (rwEnc.all (List.replicate l.length rw0)).toArray 24) = w2 at *
    generalize hB : w.heap.size = Bx at *
    go_loopw [16] (fun i wr => ∃ j : Nat, j ≤ l.length ∧ i = .int .i64 j ∧ Hid (RowP w Bx ((l.take j).map f) l.length wr)) (fun i _ => l.length - (intOf i).toNat)
    case atStart => exact ⟨0, Nat.zero_le _, rfl, by rw [List.take_zero]; exact HR0⟩
    case round =>
      obtain ⟨j, hj, rfl, HR⟩ := hrel
      obtain ⟨wx, rfl⟩ : ∃ x, x = wr := ⟨wr, rfl⟩
      by_cases hlt : j < l.length
      · have hlti : (j : Int) < (l.length : Int) := by omega
        have HBe := Lib.hid HR.out.be
        have HLt := Lib.hid HR.out.lt
        obtain ⟨b1, o1, q1, rfl, t1, a1⟩ := (HL.out.later HBe.out).at_.2.2 j hlt
        have hb1 := below_box wx (.cells #[.string q1.name, .slice q1.p q1.n q1.cap] 24)
        have HB1 := Lib.hid hb1
        have HCC := Lib.hid (HC.out j hlt q1 _ (by rw [← hB]; exact bnext HBe.out hb1) (t1.later hb1))
        have x := box_p wx q1 24
        obtain ⟨x0, x1⟩ := x
        simp only [Nat.zero_add] at x0 x1
        obtain ⟨y0, y1⟩ := a1
        clear t1 hb1 HC HL HR0
        go_wp2_with fail
        refine HCC.out.mono ?_
        rintro e w5 ⟨q2, rfl, hq2, hb5⟩
        have HB5 := Lib.hid (bnext HB1.out hb5)
        have HR5 := Lib.hid (HR.out.below HB5.out)
        have hq3 : IsP (fun k => Bx < k) w5 q2 (f l[j]) := hq2.mono fun k hk => by
          have h1 := HLt.out
          have h2 := HB1.out.size
          omega
        have hlen : ((l.take j).map f).length = j := by rw [List.length_map, List.length_take]; omega
        have HR6 := Lib.hid (HR5.out.store hq3 (by rw [hlen]; exact hlt))
        rw [hlen] at HR6
        obtain ⟨v0, hv0⟩ := HR5.out.has (j * 2) (by omega)
        obtain ⟨v1, hv1⟩ := HR5.out.has2 (j * 2) (j * 2 + 1) (.string q2.name) (by omega) (by omega)
        have f0 : w5.frozen? ⟨Bx, j * 2, none⟩ = false := HR5.out.warm (j * 2)
        have f1 : w5.frozen? ⟨Bx, j * 2 + 1, none⟩ = false := HR5.out.warm (j * 2 + 1)
        clear hq2 hb5 hq3 x0 x1 y0 y1 HCC HB1 hlen HBe HLt
        go_wp2_with fail
        go_roundw
        case rel => exact ⟨j + 1, by omega, by go_num, by rw [List.take_add_one, List.getElem?_eq_getElem hlt, List.map_append]; exact HR6⟩
        case measure => simp [intOf]; omega
      · obtain rfl : j = l.length := by omega
        go_wp2_with fail
        go_ret
        rw [List.take_length] at HR
        exact ⟨_, _, rfl, HR.out.fin (List.length_map _) hm, HR.out.be⟩
end Go.Proofs.Ytbnnokibjccdaaa
