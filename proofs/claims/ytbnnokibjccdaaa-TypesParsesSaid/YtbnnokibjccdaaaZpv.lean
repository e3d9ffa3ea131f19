/-
  PLAIN: what is read of a text has this text, and not more nodes than bytes.
-/
import Derived.Test.YtbnnokibjccdaaaTpW
import Derived.Test.YtbnnokibjccdaaaTpNd
import Derived.Test.YtbnnokibjccdaaaTpNe
namespace Go.Proofs.Ytbnnokibjccdaaa
open Go Go.RowKit
set_option linter.unusedVariables false
set_option linter.unusedSimpArgs false

theorem parL_size {P : List UInt8 → Option (Tp × List UInt8)} (hP : ∀ r t r', P r = some (t, r') → sizeP t + r'.length ≤ r.length) : ∀ (f : Nat) (q : List UInt8) (l : List Tp) (r : List UInt8), parL P f q = some (l, r) → sizesP l + r.length ≤ q.length
  | 0, q, l, r, h => by cases h
  | f + 1, q, l, r, h => by
    rw [parL_succ] at h
    cases hp : P q with
    | none => rw [hp] at h; cases h
    | some x =>
      obtain ⟨t, r2⟩ := x
      have h1 := hP q t r2 hp
      rw [hp] at h
      cases r2 with
      | nil => cases h
      | cons c r2 =>
        simp only at h
        rw [List.length_cons] at h1
        by_cases hc : c = 44
        · rw [if_pos hc] at h
          cases hL : parL P f r2 with
          | none => rw [hL] at h; cases h
          | some y =>
            obtain ⟨l2, r3⟩ := y
            have h2 := parL_size hP f r2 l2 r3 hL
            rw [hL] at h
            simp only [Option.map_some, Option.some.injEq, Prod.mk.injEq] at h
            obtain ⟨rfl, rfl⟩ := h
            rw [sizesP_cons]
            omega
        · rw [if_neg hc] at h
          by_cases hc2 : c = 62
          · rw [if_pos hc2] at h
            simp only [Option.some.injEq, Prod.mk.injEq] at h
            obtain ⟨rfl, rfl⟩ := h
            rw [sizesP_one]
            omega
          · rw [if_neg hc2] at h
            cases h
theorem take_drop_len (r : List UInt8) : (r.takeWhile plb).length + (r.dropWhile plb).length = r.length := len_take_drop r
theorem parT_size : ∀ (f : Nat) (r : List UInt8) (t : Tp) (r' : List UInt8), parT f r = some (t, r') → sizeP t + r'.length ≤ r.length
  | 0, r, t, r', h => by cases h
  | f + 1, r, t, r', h => by
    rw [parT_succ] at h
    have hl := len_take_drop r
    by_cases h0 : r.takeWhile plb = []
    · rw [if_pos h0] at h; cases h
    · have hp : 0 < (r.takeWhile plb).length := List.length_pos_iff.2 h0
      rw [if_neg h0] at h
      cases hd : r.dropWhile plb with
      | nil =>
        rw [hd] at h hl
        simp only [Option.some.injEq, Prod.mk.injEq] at h
        obtain ⟨rfl, rfl⟩ := h
        rw [sizeP_mk2]
        simp [sizesP] at hl ⊢
        omega
      | cons c q =>
        rw [hd] at h hl
        rw [List.length_cons] at hl
        simp only at h
        by_cases hc : c = 60
        · rw [if_pos hc] at h
          cases hL : parL (parT f) (q.length + 1) q with
          | none => rw [hL] at h; cases h
          | some x =>
            obtain ⟨l, r2⟩ := x
            have h1 := parL_size (parT_size f) _ q l r2 hL
            rw [hL] at h
            simp only [Option.map_some, Option.some.injEq, Prod.mk.injEq] at h
            obtain ⟨rfl, rfl⟩ := h
            rw [sizeP_mk2]
            omega
        · rw [if_neg hc] at h
          simp only [Option.some.injEq, Prod.mk.injEq] at h
          obtain ⟨rfl, rfl⟩ := h
          rw [sizeP_mk2, List.length_cons]
          simp [sizesP]
          omega
theorem parL_sound {P : List UInt8 → Option (Tp × List UInt8)} (hP : ∀ r t r', P r = some (t, r') → r = prL t ++ r') : ∀ (f : Nat) (q : List UInt8) (l : List Tp) (r : List UInt8), parL P f q = some (l, r) → ∃ t ts, l = t :: ts ∧ q = prL t ++ ((ts.map prL).flatMap (fun y => 44 :: y) ++ 62 :: r)
  | 0, q, l, r, h => by cases h
  | f + 1, q, l, r, h => by
    rw [parL_succ] at h
    cases hp : P q with
    | none => rw [hp] at h; cases h
    | some x =>
      obtain ⟨t, r2⟩ := x
      have h1 := hP q t r2 hp
      rw [hp] at h
      cases r2 with
      | nil => cases h
      | cons c r2 =>
        simp only at h
        by_cases hc : c = 44
        · rw [if_pos hc] at h
          cases hL : parL P f r2 with
          | none => rw [hL] at h; cases h
          | some y =>
            obtain ⟨l2, r3⟩ := y
            obtain ⟨u, us, rfl, e⟩ := parL_sound hP f r2 l2 r3 hL
            rw [hL] at h
            simp only [Option.map_some, Option.some.injEq, Prod.mk.injEq] at h
            obtain ⟨rfl, rfl⟩ := h
            refine ⟨t, u :: us, rfl, ?_⟩
            rw [h1, e, hc]
            simp
        · rw [if_neg hc] at h
          by_cases hc2 : c = 62
          · rw [if_pos hc2] at h
            simp only [Option.some.injEq, Prod.mk.injEq] at h
            obtain ⟨rfl, rfl⟩ := h
            refine ⟨t, [], rfl, ?_⟩
            rw [h1, hc2]
            simp
          · rw [if_neg hc2] at h
            cases h
theorem parT_sound : ∀ (f : Nat) (r : List UInt8) (t : Tp) (r' : List UInt8), parT f r = some (t, r') → r = prL t ++ r'
  | 0, r, t, r', h => by cases h
  | f + 1, r, t, r', h => by
    rw [parT_succ] at h
    have hl : r = r.takeWhile plb ++ r.dropWhile plb := (List.takeWhile_append_dropWhile).symm
    by_cases h0 : r.takeWhile plb = []
    · rw [if_pos h0] at h; cases h
    · rw [if_neg h0] at h
      cases hd : r.dropWhile plb with
      | nil =>
        rw [hd] at h hl
        simp only [Option.some.injEq, Prod.mk.injEq] at h
        obtain ⟨rfl, rfl⟩ := h
        rw [prL_mk]
        simpa [argsL] using hl
      | cons c q =>
        rw [hd] at h hl
        simp only at h
        by_cases hc : c = 60
        · rw [if_pos hc] at h
          cases hL : parL (parT f) (q.length + 1) q with
          | none => rw [hL] at h; cases h
          | some x =>
            obtain ⟨l, r2⟩ := x
            obtain ⟨u, us, rfl, e⟩ := parL_sound (parT_sound f) _ q l r2 hL
            rw [hL] at h
            simp only [Option.map_some, Option.some.injEq, Prod.mk.injEq] at h
            obtain ⟨rfl, rfl⟩ := h
            rw [prL_mk]
            refine hl.trans ?_
            rw [hc, e]
            simp [argsL]
        · rw [if_neg hc] at h
          simp only [Option.some.injEq, Prod.mk.injEq] at h
          obtain ⟨rfl, rfl⟩ := h
          rw [prL_mk]
          simpa [argsL] using hl
end Go.Proofs.Ytbnnokibjccdaaa

/-
  PLAIN: the type that is read of a text; what both Parse give.
-/
namespace Go.Proofs.Ytbnnokibjccdaaa
open Go Go.RowKit
set_option linter.unusedVariables false
set_option linter.unusedSimpArgs false

/-- the type that is read of a text -/
def parseV (s : ByteArray) : Option Tp := match parS s with
  | some t => if sizeP t ≤ 20000 then some t else none
  | none => none
/-- what Parse gives -/
def ParseRet (s : ByteArray) (w : World) (e : Ending) (w' : World) : Prop :=
  (∃ (q : Rw) (t : Tp), e = .returned (.tuple #[.agg #[.string q.name, .slice q.p q.n q.cap], .bool true]) ∧ parseV s = some t ∧ IsP (fun j => w.heap.size ≤ j) w' q t ∧ Below w.heap.size w w') ∨
  (e = .returned (.tuple #[.agg #[.string ⟨#[]⟩, .slice none 0 0], .bool false]) ∧ parseV s = none ∧ Below w.heap.size w w')
theorem parseV_yes {s s' : ByteArray} {t : Tp} (h : parT (s.size + 1) s.data.toList = some (t, s'.data.toList)) (hz : sizeP t ≤ 20000) (h0 : s'.data.toList = []) : parseV s = some t := by
  rw [h0] at h
  unfold parseV parS
  rw [h]
  exact if_pos hz
theorem parseV_rest {s s' : ByteArray} {t : Tp} (h : parT (s.size + 1) s.data.toList = some (t, s'.data.toList)) (h0 : s'.data.toList ≠ []) : parseV s = none := by
  unfold parseV parS
  rw [h]
  cases hd : s'.data.toList with
  | nil => exact absurd hd h0
  | cons c l => rfl
theorem parseV_no {s : ByteArray} (h : ∀ t r, parT (s.size + 1) s.data.toList = some (t, r) → 20000 < 0 + sizeP t) : parseV s = none := by
  unfold parseV parS
  cases hp : parT (s.size + 1) s.data.toList with
  | none => rfl
  | some x =>
    obtain ⟨t, r⟩ := x
    have := h t r hp
    cases r with
    | nil => exact if_neg (by omega)
    | cons c l => rfl
theorem parseV_nil {s : ByteArray} {t : Tp} (h : parT (s.size + 1) s.data.toList = some (t, [])) (hz : sizeP t ≤ 20000) : parseV s = some t := by
  unfold parseV parS
  rw [h]
  exact if_pos hz
theorem parseV_big {s : ByteArray} {t : Tp} (h : parT (s.size + 1) s.data.toList = some (t, [])) (hz : ¬ sizeP t ≤ 20000) : parseV s = none := by
  unfold parseV parS
  rw [h]
  exact if_neg hz
theorem parseV_more {s : ByteArray} {t : Tp} {r : List UInt8} (h : parT (s.size + 1) s.data.toList = some (t, r)) (h0 : r ≠ []) : parseV s = none := by
  unfold parseV parS
  rw [h]
  cases r with
  | nil => exact absurd rfl h0
  | cons c l => rfl
theorem parseV_sound {s : ByteArray} {t : Tp} (h : parseV s = some t) : prS t = s ∧ sizeP t ≤ 20000 := by
  unfold parseV parS at h
  cases hp : parT (s.size + 1) s.data.toList with
  | none => rw [hp] at h; cases h
  | some x =>
    obtain ⟨u, r⟩ := x
    rw [hp] at h
    cases r with
    | cons c l => cases h
    | nil =>
      simp only at h
      by_cases hz : sizeP u ≤ 20000
      · rw [if_pos hz] at h
        injection h with h
        subst h
        have := parT_sound _ _ _ _ hp
        rw [List.append_nil] at this
        exact ⟨bytes_eq this, hz⟩
      · rw [if_neg hz] at h; cases h
end Go.Proofs.Ytbnnokibjccdaaa

/-
  CONTRACT: types.Parse of any text.
-/
namespace Go.Proofs.Ytbnnokibjccdaaa
open Go Go.RowKit Go.Maps
set_option linter.unusedVariables false
set_option linter.unusedSimpArgs false
set_option maxRecDepth 100000

theorem node_any : ∀ f, NodeC f
  | 0 => fun s b k w h hs hf hk => absurd hf (Nat.not_lt_zero _)
  | f + 1 => node_step f (node_any f)
set_option maxHeartbeats 4000000 in
theorem parse_any (s : ByteArray) (w : World) (hs : s.size ≤ 1000000000) : Calls Try.prog 20 #[.string s] w (ParseRet s w) := by
  have hb1 := below_box w (.cells #[.string ⟨#[]⟩, .slice none 0 0] tpT)
  have hn1 := heap_alloc_new w (.cells #[.string ⟨#[]⟩, .slice none 0 0] tpT)
  have hs1 : (w.alloc (.cells #[.string ⟨#[]⟩, .slice none 0 0] tpT)).heap.size = w.heap.size + 1 := World.size_alloc _ _
  have hb2 := below_box (w.alloc (.cells #[.string ⟨#[]⟩, .slice none 0 0] tpT)) (.cells #[.string s, .int .i64 0] 69)
  have hn2 := heap_alloc_new (w.alloc (.cells #[.string ⟨#[]⟩, .slice none 0 0] tpT)) (.cells #[.string s, .int .i64 0] 69)
  have hs2 : ((w.alloc (.cells #[.string ⟨#[]⟩, .slice none 0 0] tpT)).alloc (.cells #[.string s, .int .i64 0] 69)).heap.size = w.heap.size + 2 := by rw [World.size_alloc, World.size_alloc]
  rw [hs1] at hn2
  have hx2 := (hb2.block w.heap.size (by omega)).trans hn1
  obtain ⟨w2, hw2⟩ : ∃ y, (w.alloc (.cells #[.string ⟨#[]⟩, .slice none 0 0] tpT)).alloc (.cells #[.string s, .int .i64 0] 69) = y := ⟨_, rfl⟩
  have hB2 := bnext hb1 hb2
  rw [hw2] at hn2 hs2 hx2 hB2
  have hrd : RdP w2 (w.heap.size + 1) s 0 := ⟨by rw [Lib.cell_of_heap hn2]; rfl, by rw [Lib.cell_of_heap hn2]; rfl, fun i => Lib.frozen_of_heap hn2 i⟩
  have HC := Lib.hid (node_any (s.size + 1) s (w.heap.size + 1) 0 w2 hrd hs (Nat.lt_succ_self _) (Nat.zero_le _))
  have HX2 := Lib.hid hx2
  have HB2 := Lib.hid hB2
  have HS2 := Lib.hid hs2
  clear hb1 hn1 hs1 hb2 hn2 hs2 hx2 hB2 hrd
  go_enter Try.func20, Try.ntmps20
  go_wp2_with fail
  clear hw2
  refine HC.out.mono ?_
  clear HC
  have key : ∀ {w3 : World}, But (inB (w.heap.size + 1)) w2 w3 → Below w.heap.size w w3 ∧ w3.heap[w.heap.size]? = some (.cells #[.string ⟨#[]⟩, .slice none 0 0] tpT (0, 0)) ∧ w.heap.size < w3.heap.size := fun {w3} hb => by
    have h1 := hb.size
    have h2 := HS2.out
    exact ⟨HB2.out.trans (hb.below (by omega) (fun a q => by have q' : a.block = w.heap.size + 1 := q; omega)), hb.block_ne (k := w.heap.size) (by omega) HX2.out, by omega⟩
  rintro e w3 (⟨⟨sq, pq, nq, cq⟩, t, s2, rfl, hp, hk6, hz6, hip, hrd6, hb6⟩ | ⟨⟨sq, pq, nq, cq⟩, s2, k2, rfl, hno, hrd6, hb6⟩)
  · obtain ⟨hB3, hx3, hl3⟩ := key hb6
    have hb4 := below_box w3 (.cells #[.string sq, .slice pq nq cq] tpT)
    have hn4 := heap_alloc_new w3 (.cells #[.string sq, .slice pq nq cq] tpT)
    have hx4 := (hb4.block _ hl3).trans hx3
    have hB4 := hB3.trans (hb4.mono (Nat.le_of_lt hl3))
    have hip4 := hip.later hb4
    have hr4 := (hrd6.below hb4).c0
    have k0 : (w3.alloc (.cells #[.string sq, .slice pq nq cq] tpT)).cell? ⟨w3.heap.size, 0, none⟩ = some (.string sq) := by rw [Lib.cell_of_heap hn4]; rfl
    have k1 : (w3.alloc (.cells #[.string sq, .slice pq nq cq] tpT)).cell? ⟨w3.heap.size, 1, none⟩ = some (.slice pq nq cq) := by rw [Lib.cell_of_heap hn4]; rfl
    by_cases h0 : s2.data.toList = []
    · have hq : (s2.toList != []) = false := by rw [Lib.toList_data, h0]; rfl
      have hq2 : s2.toList.isEmpty = true := by rw [Lib.toList_data, h0]; rfl
      obtain ⟨g0, g1, g2, g3, g4, g5⟩ := box_facts hx4 sq pq nq cq
      have HL := Lib.hid (load_tp _ _ _ _ _ _ (box_store hx4 sq pq nq cq))
      have HV := Lib.hid (parseV_yes hp (by omega) h0)
      have hBF : Below w.heap.size w (((w3.alloc (.cells #[.string sq, .slice pq nq cq] tpT)).setCell ⟨w.heap.size, 0, none⟩ (.string sq)).setCell ⟨w.heap.size, 1, none⟩ (.slice pq nq cq)) := (hB4.setCell (p := ⟨w.heap.size, 0, none⟩) (Nat.le_refl _) _).setCell (p := ⟨w.heap.size, 1, none⟩) (Nat.le_refl _) _
      have HBF := Lib.hid hBF
      have hbut : But (fun a => a.block = w.heap.size) (w3.alloc (.cells #[.string sq, .slice pq nq cq] tpT)) (((w3.alloc (.cells #[.string sq, .slice pq nq cq] tpT)).setCell ⟨w.heap.size, 0, none⟩ (.string sq)).setCell ⟨w.heap.size, 1, none⟩ (.slice pq nq cq)) := (But.setCell (M := fun a => a.block = w.heap.size) _ ⟨w.heap.size, 0, none⟩ _ rfl).trans (But.setCell (M := fun a => a.block = w.heap.size) _ ⟨w.heap.size, 1, none⟩ _ rfl)
      have HIF := Lib.hid ((hip4.but hbut (fun a e k => by have e' : a.block = w.heap.size := e; have := HS2.out; omega)).mono (A' := fun j => w.heap.size ≤ j) (fun j hj => by have := HS2.out; omega))
      clear hB3 hx3 hl3 hb4 hn4 hx4 hB4 hip4 hBF hbut hp hk6 hz6 hip hrd6 hb6 h0 key HX2
      go_wp2_with fail
      try simp only [Exit.inBlock, Exit.then]
      refine bodyPost_ret (results_cell2T rfl _ _ _ ⟨w.heap.size, 0, none⟩ _ rfl HL.out) rfl ?_
      exact .inl ⟨⟨sq, pq, nq, cq⟩, t, rfl, HV.out, HIF.out, HBF.out⟩
    · have hq : (s2.toList != []) = true := by rw [Lib.toList_data]; simpa using h0
      have hq2 : s2.toList.isEmpty = false := by rw [Lib.toList_data]; simpa using h0
      obtain ⟨g0, g1, g2, g3, g4, g5⟩ := box_facts hx4 ⟨#[]⟩ none 0 0
      have HL := Lib.hid (load_tp _ _ _ _ _ _ (box_store hx4 ⟨#[]⟩ none 0 0))
      have HV := Lib.hid (parseV_rest hp h0)
      have HBF : Hid (Below w.heap.size w (((w3.alloc (.cells #[.string sq, .slice pq nq cq] tpT)).setCell ⟨w.heap.size, 0, none⟩ (.string ⟨#[]⟩)).setCell ⟨w.heap.size, 1, none⟩ (.slice none 0 0))) := (hB4.setCell (p := ⟨w.heap.size, 0, none⟩) (Nat.le_refl _) _).setCell (p := ⟨w.heap.size, 1, none⟩) (Nat.le_refl _) _
      clear hB3 hx3 hl3 hb4 hn4 hx4 hB4 hip4 hp hk6 hz6 hip hrd6 hb6 h0 key HX2
      go_wp2_with fail
      try simp only [Exit.inBlock, Exit.then]
      refine bodyPost_ret (results_cell2T rfl _ _ _ ⟨w.heap.size, 0, none⟩ _ rfl HL.out) rfl ?_
      exact .inr ⟨rfl, HV.out, HBF.out⟩
  · obtain ⟨hB3, hx3, hl3⟩ := key hb6
    have hb4 := below_box w3 (.cells #[.string sq, .slice pq nq cq] tpT)
    have hx4 := (hb4.block _ hl3).trans hx3
    have hB4 := hB3.trans (hb4.mono (Nat.le_of_lt hl3))
    obtain ⟨g0, g1, g2, g3, g4, g5⟩ := box_facts hx4 ⟨#[]⟩ none 0 0
    have HL := Lib.hid (load_tp _ _ _ _ _ _ (box_store hx4 ⟨#[]⟩ none 0 0))
    have HV := Lib.hid (parseV_no hno)
    have HBF : Hid (Below w.heap.size w (((w3.alloc (.cells #[.string sq, .slice pq nq cq] tpT)).setCell ⟨w.heap.size, 0, none⟩ (.string ⟨#[]⟩)).setCell ⟨w.heap.size, 1, none⟩ (.slice none 0 0))) := (hB4.setCell (p := ⟨w.heap.size, 0, none⟩) (Nat.le_refl _) _).setCell (p := ⟨w.heap.size, 1, none⟩) (Nat.le_refl _) _
    clear hB3 hx3 hl3 hb4 hx4 hB4 hno hrd6 hb6 key HX2
    go_wp2_with fail
    try simp only [Exit.inBlock, Exit.then]
    refine bodyPost_ret (results_cell2T rfl _ _ _ ⟨w.heap.size, 0, none⟩ _ rfl HL.out) rfl ?_
    exact .inr ⟨rfl, HV.out, HBF.out⟩
end Go.Proofs.Ytbnnokibjccdaaa
