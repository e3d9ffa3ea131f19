/-
  CONTRACTS: fact.list: the pack of what a function writes of each element.
-/
import Derived.Test.YthikdkeanndidaaDoorCe
import Derived.Laws.MakeOwn
namespace Go.Proofs.YthikdkeanndidaaDoor
open Go Go.RowKit
set_option linter.unusedVariables false
set_option linter.unusedSimpArgs false
set_option maxRecDepth 100000

theorem made_str (n : Nat) : madeCells (Value.string ⟨#[]⟩).cells (n * encN.size) = (Array.replicate n (Value.string ⟨#[]⟩)) := by
  have hs : encN.size = 1 := rfl
  rw [hs, Nat.mul_one]
  apply Array.ext
  · simp [size_madeCells]
  · intro i h1 h2
    have hz : (Value.string ⟨#[]⟩).cells = #[.string ⟨#[]⟩] := rfl
    simp [madeCells, hz, Nat.mod_one]
theorem heap_setCell_s (w : World) (b i : Nat) (cs : Array Value) (T : TypeId) (v : Value) (h : w.heap[b]? = some (.cells cs T (0, 0))) : (w.setCell ⟨b, i, none⟩ v).heap[b]? = some (.cells (cs.setIfInBounds i v) T (0, 0)) := by
  simp [World.setCell, Array.getElem?_modify, h]
/-- a row of strings, of which the first ones are written -/
structure StrRow (w0 : World) (b : Nat) (xs : List ByteArray) (n : Nat) (w : World) : Prop where
  row : ∃ R : List ByteArray, R.length = n ∧ w.heap[b]? = some (.cells (R.map Value.string).toArray 9 (0, 0)) ∧ R.take xs.length = xs
  few : xs.length ≤ n
  old : w0.heap.size ≤ b
  be : Below w0.heap.size w0 w
theorem StrRow.lt {w0 : World} {b n : Nat} {xs : List ByteArray} {w : World} (h : StrRow w0 b xs n w) : b < w.heap.size := by
  obtain ⟨R, _, h2, _⟩ := h.row
  rcases Nat.lt_or_ge b w.heap.size with h' | h'
  · exact h'
  · rw [Array.getElem?_eq_none h'] at h2; cases h2
theorem StrRow.below {w0 : World} {b n : Nat} {xs : List ByteArray} {w w' : World} (h : StrRow w0 b xs n w) (hb : Below w.heap.size w w') : StrRow w0 b xs n w' := by
  obtain ⟨R, h1, h2, h3⟩ := h.row
  exact ⟨⟨R, h1, by rw [hb.block b h.lt]; exact h2, h3⟩, h.few, h.old, h.be.trans (hb.mono h.be.size)⟩
theorem StrRow.start (w0 : World) (n : Nat) : StrRow w0 w0.heap.size [] n (w0.alloc (.cells (Array.replicate n (Value.string ⟨#[]⟩)) 9)) :=
  ⟨⟨List.replicate n ⟨#[]⟩, by simp, by rw [List.map_replicate, List.toArray_replicate]; exact heap_alloc_new w0 _, rfl⟩, Nat.zero_le _, Nat.le_refl _, below_box w0 _⟩
theorem StrRow.store {w0 : World} {b n : Nat} {xs : List ByteArray} {w : World} (h : StrRow w0 b xs n w) {x : ByteArray} (hlt : xs.length < n) : StrRow w0 b (xs ++ [x]) n (w.setCell ⟨b, xs.length, none⟩ (.string x)) := by
  obtain ⟨R, h1, h2, h3⟩ := h.row
  have e1 := heap_setCell_s w b xs.length _ _ (.string x) h2
  have hbut : But (fun a => a.block = b) w (w.setCell ⟨b, xs.length, none⟩ (.string x)) := But.setCell w ⟨b, xs.length, none⟩ _ rfl
  refine ⟨⟨R.set xs.length x, by simp [h1], ?_, ?_⟩, by simp; omega, h.old, h.be.trans (But.below hbut h.be.size (fun a e => by have := h.old; have e' : a.block = b := e; omega))⟩
  · rw [e1]
    congr 2
    apply Array.ext'
    simp [List.map_set]
  · rw [List.length_append, List.length_singleton, List.take_succ_eq_append_getElem (by simp; omega), List.getElem_set_self, List.take_set_of_le (Nat.le_refl _), h3]
theorem StrRow.has {w0 : World} {b n : Nat} {xs : List ByteArray} {w : World} (h : StrRow w0 b xs n w) (k : Nat) (hk : k < n) : ∃ v, w.cell? ⟨b, k, none⟩ = some v := by
  obtain ⟨R, h1, h2, _⟩ := h.row
  exact ⟨.string (R[k]'(by omega)), by rw [Lib.cell_of_heap h2]; simp [h1, hk]⟩
theorem StrRow.warm {w0 : World} {b n : Nat} {xs : List ByteArray} {w : World} (h : StrRow w0 b xs n w) (k : Nat) : w.frozen? ⟨b, k, none⟩ = false := by
  obtain ⟨R, h1, h2, _⟩ := h.row
  exact Lib.frozen_of_heap h2 k
theorem encN_all (L : List ByteArray) : encN.all L = L.map Value.string := by
  induction L with
  | nil => rfl
  | cons x L ih => rw [Enc.all_cons, ih]; rfl
theorem StrRow.fin {w0 : World} {b n : Nat} {xs : List ByteArray} {w : World} (h : StrRow w0 b xs n w) (hn : xs.length = n) (hm : n ≤ maxLen) : SlIs encN w (.slice (some ⟨b, 0, none⟩) n n) xs := by
  obtain ⟨R, h1, h2, h3⟩ := h.row
  have e : R = xs := by rw [← h3, List.take_of_length_le (by omega)]
  subst e
  subst hn
  refine ⟨some ⟨b, 0, none⟩, R.length, rfl, Nat.le_refl _, hm, fun _ => ⟨b, 0, rfl, fun j v hv => ?_⟩⟩
  rw [encN_all] at hv
  rw [Lib.cell_of_heap h2]
  simpa using hv

set_option maxHeartbeats 2000000 in
/-- list, at int -/
theorem list_int (A : Nat → Prop) (l : List Int) (p : Option Addr) (n c : Nat) (w : World) (h : SlA encI A w (.slice p n c) l) (F : FuncId) (bs : Array Value) (f : Int → ByteArray)
    (hF : ∀ args w, (callFunc F args).run Tryd.prog w = .ok (.enter F args) w)
    (hC : ∀ x ∈ l, ∀ w1, Below w.heap.size w w1 → Calls Tryd.prog F (#[.int .i64 x] ++ bs) w1 fun e w2 => e = .returned (.string (f x)) ∧ Below w1.heap.size w1 w2)
    (hz : (Fa.packL (l.map f)).length ≤ 1000000000) (hn9 : l.length ≤ 1000000000) (hw : LaidW w) :
    Calls Tryd.prog 59 #[.slice p n c, .func (.func F) #[] bs] w fun e w' => e = .returned (.string (packS (l.map f))) ∧ Below w.heap.size w w' := by
  obtain ⟨e1, hm, hat⟩ := h.at_
  subst e1
  unfold maxLen at hm
  obtain ⟨i0, hi, hz0, hz1, hz2⟩ := info_parts info_s
  have hmk : (Instr.makeSlice 41 (.int .i64 (l.length : Int)) (.int .i64 (l.length : Int))).run Tryd.prog w = .ok (.slice (some ⟨w.heap.size, 0, none⟩) l.length l.length) (w.alloc (.cells (Array.replicate l.length (Value.string ⟨#[]⟩)) 9)) := by
    have h := run_make (P := Tryd.prog) w 41 9 i0 _ Tryd.underlying41 hi hz0 .i64 .i64 (l.length : Int) (l.length : Int) (by omega) (Int.le_refl _) (by rw [hz2]; omega) (by omega)
    rw [hz1, Int.toNat_natCast, made_str] at h
    exact h
  have HR0 := Lib.hid (StrRow.start w l.length)
  have HAT := Lib.hid hat
  have HC := Lib.hid hC
  have HW := Lib.hid hw
  have HZ := Lib.hid hz
  obtain ⟨ps, hps⟩ : ∃ s, s = packS (l.map f) := ⟨_, rfl⟩
  rw [← hps]
  have HPS := Lib.hid hps
  clear h hC hi hz0 hz1 hz2 hat hz hw hps
  go_enter Tryd.func59, Tryd.ntmps59
  go_wp2_with fail
  clear hmk
  generalize hW : w.alloc (.cells (Array.replicate l.length (Value.string ⟨#[]⟩)) 9) = w2 at *
  generalize hB : w.heap.size = Bx at *
  have HB' := Lib.hid hB
  go_loopw [13] (fun i wr => ∃ j : Nat, j ≤ l.length ∧ i = .int .i64 j ∧ Hid (StrRow w Bx ((l.take j).map f) l.length wr)) (fun i _ => l.length - (intOf i).toNat)
  case atStart => exact ⟨0, Nat.zero_le _, rfl, by rw [List.take_zero]; exact HR0⟩
  case round =>
    obtain ⟨j, hj, rfl, HR⟩ := hrel
    obtain ⟨wx, rfl⟩ : ∃ x, x = wr := ⟨wr, rfl⟩
    have HBE : Hid (Below w.heap.size w wx) := HR.out.be
    by_cases hlt : j < l.length
    · have hlti : (j : Int) < (l.length : Int) := by omega
      obtain ⟨b1, o1, rfl, hab, hcell⟩ := HAT.out j hlt
      obtain ⟨x, hx⟩ : ∃ x, x = l[j]'hlt := ⟨_, rfl⟩
      rw [← hx] at hcell
      have hxm : x ∈ l := by rw [hx]; exact List.getElem_mem hlt
      have x0 : wx.cell? ⟨b1, o1 + j, none⟩ = some (.int .i64 x) := by
        have h0 := hcell 0 _ (by decide) rfl
        have h1 : w.cell? ⟨b1, o1 + j, none⟩ = some (.int .i64 x) := by simpa [encI] using h0
        rw [HBE.out.cell (World.block_lt_of_cell? w _ h1)]
        exact h1
      have HBX : Hid (Below wx.heap.size wx wx) := Below.refl _ _
      have HCC := Lib.hid (HC.out x hxm wx (by rw [← HB'.out]; exact HBE.out))
      clear hcell hab
      have hlen : ((l.take j).map f).length = j := by rw [List.length_map, List.length_take]; omega
      have hst : (l.take (j + 1)).map f = (l.take j).map f ++ [f x] := by rw [List.take_succ_eq_append_getElem hlt, List.map_append, ← hx]; rfl
      have HX := Lib.hid hst
      have HLE := Lib.hid hlen
      clear hst hlen hx hxm HAT HR0 HC
      go_wp2_with fail
      refine HCC.out.mono ?_
      rintro e w5 ⟨rfl, hb5⟩
      have HR5 := Lib.hid (HR.out.below (HBX.out.trans (hb5.mono HBX.out.size)))
      have HR6 := Lib.hid (HR5.out.store (x := f x) (by rw [HLE.out]; exact hlt))
      obtain ⟨v0, hv0⟩ := HR5.out.has j hlt
      have f0 : w5.frozen? ⟨Bx, j, none⟩ = false := HR5.out.warm j
      rw [HLE.out, ← HX.out] at HR6
      obtain ⟨fx, hfx⟩ : ∃ y, y = f x := ⟨_, rfl⟩
      rw [← hfx] at HR6 ⊢
      clear hb5 HCC hfx HR5 HX HLE
      go_wp2_with fail
      go_roundw
      case rel => exact ⟨j + 1, by omega, by go_num, HR6⟩
      case measure => simp [intOf]; omega
    · obtain rfl : j = l.length := by omega
      have hsl := HR.out.fin (by rw [List.take_length, List.length_map]) (by unfold maxLen; omega)
      rw [List.take_length] at hsl
      have HSL := Lib.hid hsl
      have HWX := Lib.hid (HW.out.below HBE.out)
      have HP := Lib.hid (pack_any (l.map f) _ l.length _ wx HSL.out HZ.out HWX.out)
      rw [← HPS.out] at HP
      clear hsl HAT HR0 HC
      go_wp2_with fail
      refine HP.out.mono ?_
      rintro e w5 ⟨rfl, hb5⟩
      have HB5 := Lib.hid (HBE.out.trans (hb5.mono HBE.out.size))
      clear hb5
      go_wp2_with fail
      go_ret
      exact ⟨rfl, HB5.out⟩

set_option maxHeartbeats 2000000 in
/-- list, at recompile/api.Op -/
theorem list_op (A : Nat → Prop) (l : List Rop) (p : Option Addr) (n c : Nat) (w : World) (h : SlA encOp A w (.slice p n c) l) (F : FuncId) (bs : Array Value) (f : Rop → ByteArray)
    (hF : ∀ args w, (callFunc F args).run Tryd.prog w = .ok (.enter F args) w)
    (hC : ∀ x ∈ l, ∀ w1, Below w.heap.size w w1 → Calls Tryd.prog F (#[.agg #[.int .i64 x.1.kind, .int .i64 x.1.a, .int .i64 x.1.b, .int .i64 x.1.c, .slice x.2.1 x.1.list.length x.2.2, .string x.1.sym]] ++ bs) w1 fun e w2 => e = .returned (.string (f x)) ∧ Below w1.heap.size w1 w2)
    (hz : (Fa.packL (l.map f)).length ≤ 1000000000) (hn9 : l.length ≤ 1000000000) (hw : LaidW w) :
    Calls Tryd.prog 26 #[.slice p n c, .func (.func F) #[] bs] w fun e w' => e = .returned (.string (packS (l.map f))) ∧ Below w.heap.size w w' := by
  obtain ⟨e1, hm, hat⟩ := h.at_
  subst e1
  unfold maxLen at hm
  obtain ⟨i0, hi, hz0, hz1, hz2⟩ := info_parts info_s
  have hmk : (Instr.makeSlice 41 (.int .i64 (l.length : Int)) (.int .i64 (l.length : Int))).run Tryd.prog w = .ok (.slice (some ⟨w.heap.size, 0, none⟩) l.length l.length) (w.alloc (.cells (Array.replicate l.length (Value.string ⟨#[]⟩)) 9)) := by
    have h := run_make (P := Tryd.prog) w 41 9 i0 _ Tryd.underlying41 hi hz0 .i64 .i64 (l.length : Int) (l.length : Int) (by omega) (Int.le_refl _) (by rw [hz2]; omega) (by omega)
    rw [hz1, Int.toNat_natCast, made_str] at h
    exact h
  have HR0 := Lib.hid (StrRow.start w l.length)
  have HAT := Lib.hid hat
  have HC := Lib.hid hC
  have HW := Lib.hid hw
  have HZ := Lib.hid hz
  obtain ⟨ps, hps⟩ : ∃ s, s = packS (l.map f) := ⟨_, rfl⟩
  rw [← hps]
  have HPS := Lib.hid hps
  clear h hC hi hz0 hz1 hz2 hat hz hw hps
  go_enter Tryd.func26, Tryd.ntmps26
  go_wp2_with fail
  clear hmk
  generalize hW : w.alloc (.cells (Array.replicate l.length (Value.string ⟨#[]⟩)) 9) = w2 at *
  generalize hB : w.heap.size = Bx at *
  have HB' := Lib.hid hB
  go_loopw [13] (fun i wr => ∃ j : Nat, j ≤ l.length ∧ i = .int .i64 j ∧ Hid (StrRow w Bx ((l.take j).map f) l.length wr)) (fun i _ => l.length - (intOf i).toNat)
  case atStart => exact ⟨0, Nat.zero_le _, rfl, by rw [List.take_zero]; exact HR0⟩
  case round =>
    obtain ⟨j, hj, rfl, HR⟩ := hrel
    obtain ⟨wx, rfl⟩ : ∃ x, x = wr := ⟨wr, rfl⟩
    have HBE : Hid (Below w.heap.size w wx) := HR.out.be
    by_cases hlt : j < l.length
    · have hlti : (j : Int) < (l.length : Int) := by omega
      obtain ⟨b1, o1, rfl, hab, hcell⟩ := HAT.out j hlt
      obtain ⟨x, hx⟩ : ∃ x, x = l[j]'hlt := ⟨_, rfl⟩
      rw [← hx] at hcell
      have hxm : x ∈ l := by rw [hx]; exact List.getElem_mem hlt
      have hget : ∀ k v, k < 6 → (encOp.cells x)[k]? = some v → wx.cell? ⟨b1, o1 + j * 6 + k, none⟩ = some v := fun k v hk hv => by
        have h1 : w.cell? ⟨b1, o1 + j * 6 + k, none⟩ = some v := hcell k v hk hv
        rw [HBE.out.cell (World.block_lt_of_cell? w _ h1)]
        exact h1
      have x0 : wx.cell? ⟨b1, o1 + j * 6, none⟩ = some (.int .i64 x.1.kind) := hget 0 _ (by decide) rfl
      have x1 : wx.cell? ⟨b1, o1 + j * 6 + 1, none⟩ = some (.int .i64 x.1.a) := hget 1 _ (by decide) rfl
      have x2 : wx.cell? ⟨b1, o1 + j * 6 + 2, none⟩ = some (.int .i64 x.1.b) := hget 2 _ (by decide) rfl
      have x3 : wx.cell? ⟨b1, o1 + j * 6 + 3, none⟩ = some (.int .i64 x.1.c) := hget 3 _ (by decide) rfl
      have x4 : wx.cell? ⟨b1, o1 + j * 6 + 4, none⟩ = some (.slice x.2.1 x.1.list.length x.2.2) := hget 4 _ (by decide) rfl
      have x5 : wx.cell? ⟨b1, o1 + j * 6 + 5, none⟩ = some (.string x.1.sym) := hget 5 _ (by decide) rfl
      have HBX : Hid (Below wx.heap.size wx (wx.alloc (.cells #[.int .i64 x.1.kind, .int .i64 x.1.a, .int .i64 x.1.b, .int .i64 x.1.c, .slice x.2.1 x.1.list.length x.2.2, .string x.1.sym] 58))) := below_box wx _
      have hnew : (wx.alloc (.cells #[.int .i64 x.1.kind, .int .i64 x.1.a, .int .i64 x.1.b, .int .i64 x.1.c, .slice x.2.1 x.1.list.length x.2.2, .string x.1.sym] 58)).heap[wx.heap.size]? = some (.cells #[.int .i64 x.1.kind, .int .i64 x.1.a, .int .i64 x.1.b, .int .i64 x.1.c, .slice x.2.1 x.1.list.length x.2.2, .string x.1.sym] 58) := heap_alloc_new wx _
      have y0 : (wx.alloc (.cells #[.int .i64 x.1.kind, .int .i64 x.1.a, .int .i64 x.1.b, .int .i64 x.1.c, .slice x.2.1 x.1.list.length x.2.2, .string x.1.sym] 58)).cell? ⟨wx.heap.size, 0, none⟩ = some (.int .i64 x.1.kind) := by rw [Lib.cell_of_heap hnew]; rfl
      have y1 : (wx.alloc (.cells #[.int .i64 x.1.kind, .int .i64 x.1.a, .int .i64 x.1.b, .int .i64 x.1.c, .slice x.2.1 x.1.list.length x.2.2, .string x.1.sym] 58)).cell? ⟨wx.heap.size, 1, none⟩ = some (.int .i64 x.1.a) := by rw [Lib.cell_of_heap hnew]; rfl
      have y2 : (wx.alloc (.cells #[.int .i64 x.1.kind, .int .i64 x.1.a, .int .i64 x.1.b, .int .i64 x.1.c, .slice x.2.1 x.1.list.length x.2.2, .string x.1.sym] 58)).cell? ⟨wx.heap.size, 2, none⟩ = some (.int .i64 x.1.b) := by rw [Lib.cell_of_heap hnew]; rfl
      have y3 : (wx.alloc (.cells #[.int .i64 x.1.kind, .int .i64 x.1.a, .int .i64 x.1.b, .int .i64 x.1.c, .slice x.2.1 x.1.list.length x.2.2, .string x.1.sym] 58)).cell? ⟨wx.heap.size, 3, none⟩ = some (.int .i64 x.1.c) := by rw [Lib.cell_of_heap hnew]; rfl
      have y4 : (wx.alloc (.cells #[.int .i64 x.1.kind, .int .i64 x.1.a, .int .i64 x.1.b, .int .i64 x.1.c, .slice x.2.1 x.1.list.length x.2.2, .string x.1.sym] 58)).cell? ⟨wx.heap.size, 4, none⟩ = some (.slice x.2.1 x.1.list.length x.2.2) := by rw [Lib.cell_of_heap hnew]; rfl
      have y5 : (wx.alloc (.cells #[.int .i64 x.1.kind, .int .i64 x.1.a, .int .i64 x.1.b, .int .i64 x.1.c, .slice x.2.1 x.1.list.length x.2.2, .string x.1.sym] 58)).cell? ⟨wx.heap.size, 5, none⟩ = some (.string x.1.sym) := by rw [Lib.cell_of_heap hnew]; rfl
      have HCC := Lib.hid (HC.out x hxm (wx.alloc (.cells #[.int .i64 x.1.kind, .int .i64 x.1.a, .int .i64 x.1.b, .int .i64 x.1.c, .slice x.2.1 x.1.list.length x.2.2, .string x.1.sym] 58)) (by rw [← HB'.out]; exact bnext HBE.out HBX.out))
      clear hcell hab hget hnew
      have hlen : ((l.take j).map f).length = j := by rw [List.length_map, List.length_take]; omega
      have hst : (l.take (j + 1)).map f = (l.take j).map f ++ [f x] := by rw [List.take_succ_eq_append_getElem hlt, List.map_append, ← hx]; rfl
      have HX := Lib.hid hst
      have HLE := Lib.hid hlen
      clear hst hlen hx hxm HAT HR0 HC
      go_wp2_with fail
      refine HCC.out.mono ?_
      rintro e w5 ⟨rfl, hb5⟩
      have HR5 := Lib.hid (HR.out.below (HBX.out.trans (hb5.mono HBX.out.size)))
      have HR6 := Lib.hid (HR5.out.store (x := f x) (by rw [HLE.out]; exact hlt))
      obtain ⟨v0, hv0⟩ := HR5.out.has j hlt
      have f0 : w5.frozen? ⟨Bx, j, none⟩ = false := HR5.out.warm j
      rw [HLE.out, ← HX.out] at HR6
      obtain ⟨fx, hfx⟩ : ∃ y, y = f x := ⟨_, rfl⟩
      rw [← hfx] at HR6 ⊢
      clear hb5 HCC hfx HR5 HX HLE
      go_wp2_with fail
      go_roundw
      case rel => exact ⟨j + 1, by omega, by go_num, HR6⟩
      case measure => simp [intOf]; omega
    · obtain rfl : j = l.length := by omega
      have hsl := HR.out.fin (by rw [List.take_length, List.length_map]) (by unfold maxLen; omega)
      rw [List.take_length] at hsl
      have HSL := Lib.hid hsl
      have HWX := Lib.hid (HW.out.below HBE.out)
      have HP := Lib.hid (pack_any (l.map f) _ l.length _ wx HSL.out HZ.out HWX.out)
      rw [← HPS.out] at HP
      clear hsl HAT HR0 HC
      go_wp2_with fail
      refine HP.out.mono ?_
      rintro e w5 ⟨rfl, hb5⟩
      have HB5 := Lib.hid (HBE.out.trans (hb5.mono HBE.out.size))
      clear hb5
      go_wp2_with fail
      go_ret
      exact ⟨rfl, HB5.out⟩
end Go.Proofs.YthikdkeanndidaaDoor
