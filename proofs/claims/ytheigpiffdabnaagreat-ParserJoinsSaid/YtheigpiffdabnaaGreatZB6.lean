/-
  CONTRACTS: (*Dice).Sources: one to three modules, named a, b, c, each text of at most 12400 bytes.
-/
import Derived.Test.YtheigpiffdabnaaGreatZB5
import Derived.Test.YtheigpiffdabnaaGreatZB1
import Derived.Deep.CutRange
set_option linter.unusedSimpArgs false
set_option linter.unusedVariables false
namespace Go.Proofs.YtheigpiffdabnaaGreat
open Go Go.RowKit
attribute [local go_sem] tyIs_f tyNum_f tyStr_f tyTwo_f tyD_f
theorem dice_still {d : Dice} {w w' : World} (h : DiceAt d w) (hb : Below w.heap.size w w') : DiceAt d w' := (h.still (But.of_below (M := fun _ => False) hb) (fun _ _ _ _ q => q) (fun _ q => q)).1
def progCells (d : Dice) : Array Value := #[.pointer (some ⟨d.D, 0, none⟩), .slice none 0 0, .slice none 0 0, .slice none 0 0, .bool false, .bool false, .int .i64 0, .bool false]
def made0 (d : Dice) (P : Nat) (Φ : Gp) : Made := ⟨d, P, none, 0, 0, none, 0, 0, none, 0, 0, false, false, false, Φ⟩
theorem lst_nil (φ : ByteArray → Prop) (ob : Nat) (w : World) : Lst φ ob w none 0 0 := ⟨[], rfl, fun s h => by simp at h, OwnT.nil w ob⟩
theorem other_nil (v : Value) : other (.slice none 0 0) v := .inl rfl
theorem src_start (Φ : Gp) {d : Dice} {w w2 : World} {L : List ByteArray} {T : TypeId} (hd : DiceAt d w) (hrow : ∀ b o, d.p = some ⟨b, o, none⟩ → b < w.heap.size) (ht : Thrown d (w.alloc (.cells (progCells d) T)) w2) (hL : ∀ s ∈ L, Φ.T s) :
  SrcL Φ w d w2.heap.size 0 (made0 d w.heap.size Φ) L (w2.alloc (.cells (rowS L) 9)) := by
 have hD := World.block_lt_of_cell? w _ hd.at_
 simp only at hD
 have hsz : w.heap.size < w2.heap.size := by have := ht.but.size; simp at this; omega
 have nP : ∀ i, ¬ isAt d.D ⟨w.heap.size, i, none⟩ := fun i q => by unfold isAt at q; injection q with q _ _; omega
 have cc : ∀ i v, (progCells d)[i]? = some v → (w2.alloc (.cells (rowS L) 9)).cell? ⟨w.heap.size, i, none⟩ = some v := by
  intro i v hv
  have h1 : (w.alloc (.cells (progCells d) T)).cell? ⟨w.heap.size, i, none⟩ = some v := by rw [Lib.cell_of_heap (heap_alloc_new w _)]; exact hv
  have h2 := ht.but.keep h1 (nP i)
  rw [(below_box w2 _).cell (p := ⟨w.heap.size, i, none⟩) hsz]
  exact h2
 have ff : ∀ i, (w2.alloc (.cells (rowS L) 9)).frozen? ⟨w.heap.size, i, none⟩ = false := by
  intro i
  rw [(below_box w2 _).frozen (p := ⟨w.heap.size, i, none⟩) hsz, ht.but.frozen ⟨w.heap.size, i, none⟩ (by simp)]
  exact Lib.frozen_of_heap (heap_alloc_new w _) i
 have h6 := cc 6 _ rfl
 have dice := dice_still ht.good (below_box w2 (.cells (rowS L) 9))
 refine ⟨⟨⟨dice, by show w.heap.size ≠ d.D; omega, fun b o e => by have := hrow b o e; show b ≠ w.heap.size; omega, cc 0 _ rfl, cc 1 _ rfl, cc 2 _ rfl, cc 3 _ rfl, cc 4 _ rfl, cc 5 _ rfl, by rw [show varsOf (made0 d w.heap.size Φ).P (w2.alloc (.cells (rowS L) 9)) = 0 from varsOf_eq (k := 0) h6]; exact h6, cc 7 _ rfl, ff 6, vars_nil _ _, vars_nil _ _, vars_nil _ _, ⟨Nat.zero_le _, Nat.zero_le _, Nat.zero_le _⟩, by rw [show varsOf (made0 d w.heap.size Φ).P (w2.alloc (.cells (rowS L) 9)) = 0 from varsOf_eq (k := 0) h6]; omega⟩,
  hD, hrow, by show w.heap.size < w2.heap.size + 1; omega, ff, by simp, lst_nil _ _ _, lst_nil _ _ _, lst_nil _ _ _, other_nil _, other_nil _, other_nil _, other_nil _, other_nil _, other_nil _, Nat.le_refl 0, by omega⟩, heap_alloc_new w2 _, ?_, rfl, rfl, rfl, hsz, rfl, hL⟩
 have hb1 := (below_box w (.cells (progCells d) T))
 have hb2 := (below_box w2 (.cells (rowS L) 9))
 refine ⟨hb2.os.trans (ht.but.os.trans hb1.os), hb2.tape.trans (ht.but.tape.trans hb1.tape), hb2.output.trans (ht.but.output.trans hb1.output), by simp; omega, fun k h1 h2 h3 => ?_, fun a h1 h2 => ?_, fun a h1 => ?_⟩
 ·rw [hb2.block k (by omega), ht.but.block k (by simp; omega) (fun a ha q => by unfold isAt at q; subst q; exact h3 ha.symm), hb1.block k h1]
 ·rw [hb2.cell (by omega), ht.but.cell a (by simp; omega) h2, hb1.cell (by omega)]
 ·rw [hb2.frozen (by omega), ht.but.frozen a (by simp; omega), hb1.frozen (by omega)]
theorem made_rowS (k : Nat) : madeCells (Value.string ⟨#[]⟩).cells k = rowS (List.replicate k ByteArray.empty) := by
 apply Array.ext'
 simp [madeCells, rowS, Value.cells]
 apply List.ext_getElem
 ·simp
 ·intro i h1 h2
  simp [Nat.mod_one]
  rfl
def tyPt (g : Made) (b n : Nat) (h : 0 < n) : Ty (LeM g) := tyOf (LeM g) (α := {k : Nat // k < n}) ⟨⟨0, h⟩⟩ (fun k => .pointer (some ⟨b, k.1, none⟩))
theorem tyPt_f (g : Made) (b n : Nat) (h : 0 < n) (k : Nat) (hk : k < n) : (tyPt g b n h).f ⟨k, hk⟩ = .pointer (some ⟨b, k, none⟩) := rfl
def tyN2 (g : Made) : Ty (LeM g) := tyOf (LeM g) (α := {k : Nat // k < 2}) ⟨⟨0, by omega⟩⟩ (fun k => .int .i64 (2 + (k.1 : Int)))
theorem tyN2_f (g : Made) (k : Nat) (hk : k < 2) : (tyN2 g).f ⟨k, hk⟩ = .int .i64 (2 + (k : Int)) := rfl
attribute [local go_sem] tyPt_f tyN2_f
def letterOf (i : Nat) : ByteArray := ⟨#[UInt8.ofNat (97 + i)]⟩
/-- the first a modules -/
def mods (L : List ByteArray) (a : Nat) : List Src := (List.range a).map fun i => (letterOf i, L.getD i ByteArray.empty)
theorem mods_snoc (L : List ByteArray) (a : Nat) : mods L (a + 1) = mods L a ++ [(letterOf a, L.getD a ByteArray.empty)] := by simp [mods, List.range_succ]
theorem mods_length (L : List ByteArray) (a : Nat) : (mods L a).length = a := by simp [mods]
theorem letter_at (n : Nat) (w : World) (h : n < 26) : Calls Tryz.prog 14 #[.int .i64 (n : Int)] w fun e w' => e = .returned (.string (letterOf n)) ∧ Below w.heap.size w w' := letter_any n w h
theorem dice_belowB {d : Dice} {B : Nat} {w w' : World} (h : DiceAt d w) (hb : Below B w w') (hD : d.D < B) (hrow : ∀ b o, d.p = some ⟨b, o, none⟩ → b < B) : DiceAt d w' := by
 have tc : ∀ b i v, b < B → w.cell? ⟨b, i, none⟩ = some v → w'.cell? ⟨b, i, none⟩ = some v := fun b i v hlt hc => by rw [hb.cell (p := ⟨b, i, none⟩) hlt]; exact hc
 have kd := tc _ _ _ hD h.at_
 have ea : atOf d.D w' = atOf d.D w := atOf_eq kd
 refine ⟨h.few, tc _ 0 _ hD h.row, by rw [ea]; exact kd, by rw [ea]; exact h.le, fun i hi => ?_, h.away, by rw [hb.frozen (p := ⟨d.D, 1, none⟩) hD]; exact h.warm⟩
 obtain ⟨b, o, hp, x, h1, h2, hc⟩ := h.rolls i hi
 exact ⟨b, o, hp, x, h1, h2, tc _ _ _ (hrow b o hp) hc⟩
/-- at the end: the texts stand, and the dice -/
structure Fin0 (w0 : World) (d : Dice) (Tx : Nat) (L : List ByteArray) (w : World) : Prop where
 txt : w.heap[Tx]? = some (.cells (rowS L) 9 (0, 0))
 dice : DiceAt d w
 fr : Fr w0.heap.size d.D w0.heap.size w0 w
 D : d.D < w0.heap.size
 row : ∀ b o, d.p = some ⟨b, o, none⟩ → b < w0.heap.size
 PT : w0.heap.size < Tx
theorem Fin0.lt {w0 : World} {d : Dice} {Tx : Nat} {L : List ByteArray} {w : World} (h : Fin0 w0 d Tx L w) : Tx < w.heap.size := by
 rcases Nat.lt_or_ge Tx w.heap.size with h' | h'
 ·exact h'
 ·have := h.txt; simp [Array.getElem?_eq_none h'] at this
theorem Fin0.belowB {w0 : World} {d : Dice} {Tx : Nat} {L : List ByteArray} {w w' : World} (h : Fin0 w0 d Tx L w) (hb : Below (Tx + 1) w w') : Fin0 w0 d Tx L w' := by
 have h1 := h.D
 have h2 := h.PT
 refine ⟨by rw [hb.block Tx (by omega)]; exact h.txt, dice_belowB h.dice hb (by omega) (fun b o e => by have := h.row b o e; omega), h.fr.trans ⟨hb.os, hb.tape, hb.output, hb.size, fun k q _ _ => hb.block k (by omega), fun a q _ => hb.cell (by omega), fun a q => hb.frozen (by omega)⟩, h.D, h.row, h.PT⟩
theorem Fin0.below {w0 : World} {d : Dice} {Tx : Nat} {L : List ByteArray} {w w' : World} (h : Fin0 w0 d Tx L w) (hb : Below w.heap.size w w') : Fin0 w0 d Tx L w' := h.belowB (hb.mono h.lt)
theorem Fin0.at_ {w0 : World} {d : Dice} {Tx : Nat} {L : List ByteArray} {w : World} (h : Fin0 w0 d Tx L w) (i : Nat) (hi : i < L.length) : w.cell? ⟨Tx, i, none⟩ = some (.string (L.getD i ByteArray.empty)) := by
 rw [Lib.cell_of_heap h.txt, rowS_at L i hi, List.getD_eq_getElem?_getD, List.getElem?_eq_getElem hi]; rfl
theorem SrcL.fin {Φ : Gp} {w0 : World} {d : Dice} {Tx c : Nat} {g : Made} {L : List ByteArray} {w : World} (h : SrcL Φ w0 d Tx c g L w) : Fin0 w0 d Tx L w := by
 have e : g.d.D = d.D := by rw [h.d]
 have e1 := h.prog.low
 have e2 := h.P
 exact ⟨h.txt, h.d ▸ h.prog.made.dice, h.fr, by omega, fun b o q => by have := h.prog.row b o (by rw [h.d]; exact q); omega, h.PT⟩
theorem OwnS.mono {w : World} {B B' : Nat} {v : Value} {L : List Src} (h : OwnS w B v L) (hB : B' ≤ B) : OwnS w B' v L := by
 obtain ⟨h1, h2 | ⟨g, cap, cur, hv, hg, rest⟩⟩ := h
 ·exact ⟨h1, .inl h2⟩
 ·exact ⟨h1, .inr ⟨g, cap, cur, hv, by omega, rest⟩⟩
theorem OwnS.below {w w' : World} {B : Nat} {v : Value} {L : List Src} (h : OwnS w B v L) (hb : Below w.heap.size w w') : OwnS w' B v L := by
 obtain ⟨h1, h2 | ⟨g, cap, cur, hv, hg, hh, rest⟩⟩ := h
 ·exact ⟨h1, .inl h2⟩
 ·exact ⟨h1, .inr ⟨g, cap, cur, hv, hg, by rw [hb.block g (Array.getElem?_eq_some_iff.1 hh).1]; exact hh, rest⟩⟩
def LeW (w w' : World) : Prop := Below w.heap.size w w'
theorem LeW.refl (w : World) : LeW w w := Below.refl _ _
theorem LeW.trans (w1 w2 w3 : World) (a : LeW w1 w2) (b : LeW w2 w3) : LeW w1 w3 := bnext a b
theorem relW_is {P : Program} {v : Value} {w : World} : relUpon P LeW (tyIs LeW v) w (.ok (.value v) w) := ⟨LeW.refl w, (), rfl, trivial⟩
/-- a module in a block -/
def tyBox (nm tx : ByteArray) : Ty LeW := ⟨{b : Nat // True}, ⟨⟨0, trivial⟩⟩, fun b => .slice (some ⟨b.1, 0, none⟩) 1 1, fun b w => w.cell? ⟨b.1, 0, none⟩ = some (.string nm) ∧ w.cell? ⟨b.1, 1, none⟩ = some (.string tx), fun x w w' hl h =>
 ⟨by rw [Below.cell hl (World.block_lt_of_cell? w _ h.1)]; exact h.1, by rw [Below.cell hl (World.block_lt_of_cell? w _ h.2)]; exact h.2⟩⟩
theorem tyBox_f (nm tx : ByteArray) (b : Nat) (hb : True) : (tyBox nm tx).f ⟨b, hb⟩ = .slice (some ⟨b, 0, none⟩) 1 1 := rfl
theorem tyBox_p (nm tx : ByteArray) (b : Nat) (hb : True) (w : World) : (tyBox nm tx).φ ⟨b, hb⟩ w = (w.cell? ⟨b, 0, none⟩ = some (.string nm) ∧ w.cell? ⟨b, 1, none⟩ = some (.string tx)) := rfl
theorem madeItem_at {ob c P : Nat} {g : Made} {m : ByteArray} {k : Nat} {w : World} (hP : g.P = P) (hlt : IsLt m) (hm : m.size ≤ 1) (hk : k < 1000) (hc : c + 1 ≤ 90) (hg : ProgAt ob c g w) (hmac : g.macro_ = false) :
  Calls Tryz.prog 16 #[.pointer (some ⟨P, 0, none⟩), .string m, .int .i64 (k : Nat)] w (MadeItemPost ob c g w) := by subst hP; exact madeItem_any ob c g m k w hlt hm hk hc hg hmac
theorem SrcL.item {Φ : Gp} {w0 : World} {d : Dice} {Tx c : Nat} {g g' : Made} {L : List ByteArray} {w w' : World} (h : SrcL Φ w0 d Tx c g L w) (k : ItemAt (Tx + 1) (c + 1) g g' w w') : SrcL Φ w0 d Tx (c + 1) g' L w' := h.go k.at_ k.fr k.d k.P (k.mac.trans h.mac) k.phi
theorem blk_at {P : Nat} {g : Made} {k : Int} {w : World} (hP : g.P = P) (hk : k ≤ 3) (hk2 : 0 ≤ k) (hg : MadeAt g w) :
  Calls Tryz.prog 17 #[.pointer (some ⟨P, 0, none⟩), .int .i64 k, .slice none 0 0] w fun e w' => ∃ s : ByteArray, (s.size ≤ 1374 ∧ g.Φ.K 12 s) ∧ e = .returned (.string s) ∧ Went g w w' := by subst hP; exact blk_3 g k none 0 0 w hk hk2 hg (vars_nil g w) (by omega)
def SrcPost (Φ : Gp) (d : Dice) (w : World) (e : Ending) (w' : World) : Prop := ∃ (L : List ByteArray) (v : Value), e = .returned v ∧ OwnS w' w.heap.size v (mods L L.length) ∧ (∀ s ∈ L, s.size ≤ 12400 ∧ Φ.T s) ∧ 1 ≤ L.length ∧ L.length ≤ 3 ∧ DiceAt d w' ∧ Fr w.heap.size d.D w.heap.size w w'
theorem getD_le {L : List ByteArray} {B : Nat} (h : ∀ s ∈ L, s.size ≤ B) (i : Nat) : (L.getD i ByteArray.empty).size ≤ B := by
 by_cases hi : i < L.length
 ·rw [List.getD_eq_getElem?_getD, List.getElem?_eq_getElem hi]; exact h _ (List.getElem_mem hi)
 ·rw [List.getD_eq_getElem?_getD, List.getElem?_eq_none (by omega)]; exact Nat.zero_le _
theorem letter_lt {i : Nat} (h : i < 3) : IsLt (letterOf i) := by
 rcases (by omega : i = 0 ∨ i = 1 ∨ i = 2) with rfl | rfl | rfl
 ·exact .inl rfl
 ·exact .inr (.inl rfl)
 ·exact .inr (.inr rfl)
def SzT (Φ : Gp) (B : Nat) (s : ByteArray) : Prop := s.size ≤ B ∧ Φ.T s
theorem szt_0 (Φ : Gp) (B : Nat) : SzT Φ B ⟨#[]⟩ := ⟨Nat.zero_le _, Φ.t_nil⟩
def SzK (Φ : Gp) (B l : Nat) (s : ByteArray) : Prop := s.size ≤ B ∧ Φ.K l s
theorem szk_0 (Φ : Gp) : SzK Φ 1374 12 ((⟨#[123, 32]⟩ ++ ⟨#[97]⟩) ++ ⟨#[32, 125]⟩) := ⟨by decide, Φ.k_up (Φ.p_fin Φ.p_beg (Φ.s_a (Φ.a_n Φ.n_a))) (by omega)⟩
def BasP (s : ByteArray) : Prop := s.size ≤ 400 ∧ IsBase s
theorem bas_0 : BasP ⟨baseL.toArray⟩ := ⟨by unfold baseL; decide +kernel, rfl⟩
def qT (Φ : Gp) (B : Nat) : Qd := ⟨SzT Φ B, _, szt_0 Φ B, B, fun s h => h.1⟩
def qUse : Qd := ⟨UseP, _, use_1, 8, fun s h => h.1⟩
def qLt : Qd := ⟨IsLt, ⟨#[97]⟩, .inl rfl, 1, fun s h => by rcases h with rfl | rfl | rfl <;> exact Nat.le_refl 1⟩
def qBas : Qd := ⟨BasP, _, bas_0, 400, fun s h => h.1⟩
def qK (Φ : Gp) : Qd := ⟨SzK Φ 1374 12, _, szk_0 Φ, 1374, fun s h => h.1⟩
theorem qT_B (Φ : Gp) (B : Nat) : (qT Φ B).B = B := rfl
theorem qUse_B : qUse.B = 8 := rfl
theorem qLt_B : qLt.B = 1 := rfl
theorem qBas_B : qBas.B = 400 := rfl
theorem qK_B (Φ : Gp) : (qK Φ).B = 1374 := rfl
theorem SrcL.getT {Φ : Gp} {w0 : World} {d : Dice} {Tx c : Nat} {g : Made} {L : List ByteArray} {w : World} (h : SrcL Φ w0 d Tx c g L w) (i : Nat) : Φ.T (L.getD i ByteArray.empty) := by
 by_cases hi : i < L.length
 ·rw [List.getD_eq_getElem?_getD, List.getElem?_eq_getElem hi]; exact h.txs _ (List.getElem_mem hi)
 ·rw [List.getD_eq_getElem?_getD, List.getElem?_eq_none (by omega)]; exact Φ.t_nil
theorem SrcL.at_ {Φ : Gp} {w0 : World} {d : Dice} {Tx c : Nat} {g : Made} {L : List ByteArray} {w : World} (h : SrcL Φ w0 d Tx c g L w) (i : Nat) (hi : i < L.length) : w.cell? ⟨Tx, i, none⟩ = some (.string (L.getD i ByteArray.empty)) := by
 rw [h.cell i hi, List.getD_eq_getElem?_getD, List.getElem?_eq_getElem hi]; rfl
set_option maxRecDepth 1000000 in
set_option maxHeartbeats 40000000 in
theorem sources_any (Φ : Gp) (d : Dice) (w : World) (hd : DiceAt d w) (hrow : ∀ b o, d.p = some ⟨b, o, none⟩ → b < w.heap.size) :
  Calls Tryz.prog 7 #[.pointer (some ⟨d.D, 0, none⟩)] w (SrcPost Φ d w) := by
 have HD := Lib.hid hd
 have HROW := Lib.hid hrow
 have D1 := Lib.hid (dice_still hd (below_box w (.cells (progCells d) 45)))
 obtain ⟨i0, hi, hz0, hz1, hz2⟩ := info_parts infoString
 have HMK : Hid (∀ (u : World) (x : Nat), x < 3 → (Instr.makeSlice 34 (.int .i64 (1 + (x : Int))) (.int .i64 (1 + (x : Int)))).run Tryz.prog u = .ok (.slice (some ⟨u.heap.size, 0, none⟩) (1 + x) (1 + x)) (u.alloc (.cells (rowS (List.replicate (1 + x) ByteArray.empty)) 9))) := by
  intro u x hx
  have h := run_make (P := Tryz.prog) u 34 9 i0 (.string ⟨#[]⟩) Tryz.underlying34 hi hz0 .i64 .i64 ((1 + x : Nat) : Int) ((1 + x : Nat) : Int) (by omega) (Int.le_refl _) (by rw [hz2]; omega) (by omega)
  have e : ((1 + x : Nat) : Int).toNat = 1 + x := Int.toNat_natCast _
  have e2 : ((1 + x : Nat) : Int) = 1 + (x : Int) := by omega
  rw [e, hz1, Nat.mul_one, e2] at h
  rw [← made_rowS]
  exact h
 clear hd hrow hi hz0 hz1 hz2
 go_enter Tryz.func7, Tryz.ntmps7
 go_wp2_with fail
 refine (nextI_any d 3 _ D1.out (by omega) (by omega)).mono ?_
 rintro e w2 ⟨x, hx, rfl, ht, -⟩
 have S0 := Lib.hid (src_start Φ (L := List.replicate (1 + x) ByteArray.empty) HD.out HROW.out ht (fun s hs => by rw [(List.mem_replicate.1 hs).2]; exact Φ.t_nil))
 have hmk := HMK.out w2 x (by omega)
 go_wp2_with fail
 clear hmk
 have eN : (1 + (x : Int)) = ((1 + x : Nat) : Int) := by omega
 rw [eN]
 clear eN
 have HL0 : Hid ((List.replicate (1 + x) ByteArray.empty).length = 1 + x) := by show _ = _; simp
 have HB0 : Hid (∀ s ∈ List.replicate (1 + x) ByteArray.empty, s.size ≤ 33 * 0) := fun s hs => by rw [(List.mem_replicate.1 hs).2]; exact Nat.le_refl _
 have hN1 : 1 ≤ 1 + x := by omega
 have hN3 : 1 + x ≤ 3 := by omega
 generalize List.replicate (1 + x) ByteArray.empty = L0 at *
 generalize 1 + x = N at *
 generalize w2.heap.size = Tx at *
 have hN0 : 0 < N := hN1
 have hNi : (1 : Int) ≤ (N : Int) := by omega
 have hNi3 : (N : Int) ≤ 3 := by omega
 have G0 := Lib.hid (rfl : made0 d w.heap.size Φ = made0 d w.heap.size Φ)
 generalize made0 d w.heap.size Φ = g0 at S0
 clear G0
 have gP : Hid (g0.P = w.heap.size) := S0.out.P
 have gd : Hid (g0.d = d) := S0.out.d
 go_loopw [6, 7] (fun i _ wr => ∃ (a : Nat) (L : List ByteArray), a ≤ N ∧ i = .int .i64 a ∧ Hid (SrcL Φ w d Tx 0 g0 L wr) ∧ Hid (L.length = N) ∧ Hid (∀ s ∈ L, s.size ≤ 33 * a)) (fun i _ _ => N - (intOf i).toNat)
 case atStart => exact ⟨0, L0, Nat.zero_le _, rfl, S0.out, HL0.out, HB0.out⟩
 case round =>
  obtain ⟨a, L, ha, rfl, SL, HLN, HLB⟩ := hrel
  obtain ⟨wo, rfl⟩ : ∃ wo : World, wo = wr := ⟨_, rfl⟩
  by_cases hlt : a < N
  ·have hlti : (a : Int) < (N : Int) := by omega
   go_wp2_with fail
   have HLB0 : Hid (∀ s ∈ L, s.size ≤ 33 * a + 11 * 0) := HLB.out
   go_loopw [7] (fun k wr => ∃ (b : Nat) (L : List ByteArray), b ≤ N ∧ k = .int .i64 b ∧ Hid (SrcL Φ w d Tx 0 g0 L wr) ∧ Hid (L.length = N) ∧ Hid (∀ s ∈ L, s.size ≤ 33 * a + 11 * b)) (fun k _ => N - (intOf k).toNat)
   case atStart => exact ⟨0, L, Nat.zero_le _, rfl, SL.out, HLN.out, HLB0.out⟩
   case round =>
    clear SL HLN HLB HLB0
    obtain ⟨b, L, hb, rfl, SL, HLN, HLB⟩ := hrel
    by_cases hltb : b < N
    ·have hltbi : (b : Int) < (N : Int) := by omega
     by_cases hab : b = a
     ·have hab' : (((b : Nat) : Int) != ((a : Nat) : Int)) = false := by simp [hab]
      have HLB1 : Hid (∀ s ∈ L, s.size ≤ 33 * a + 11 * (b + 1)) := fun s hs => by have := HLB.out s hs; omega
      clear hab
      go_wp2_with fail
      go_roundw
      case rel => exact ⟨b + 1, L, by omega, by go_num, SL.out, HLN.out, HLB1.out⟩
      case measure => simp [intOf]; omega
     ·have hab' : (((b : Nat) : Int) != ((a : Nat) : Int)) = true := by rw [bne_iff_ne]; intro e; exact hab (by omega)
      have hh : a < N := hlt
      have gD : Hid (g0.d.D = d.D) := by show _ = _; rw [gd.out]
      clear hab
      go_wp2_with fail
      have GW := Lib.hid (went_drewN SL.out.prog.made 1).good
      apply wp_region_relT (LeM.refl g0) (LeM.trans g0) 13
      case hm => kernel_rfl
      case hB => kernel_rfl
      simp only [List.take_succ_cons, List.take_zero, List.drop_succ_cons, List.drop_zero]
      apply wpRel_cons (t := tyIs _ _)
      case h1 => (intro w' hl hd; clear hl hd; unfold relAt; go_simp; exact rel_is (LeM.refl g0))
      intro _
      rw [tyIs_f]
      go_simp
      apply wpRel_cons (t := tyIs _ _)
      case h1 => (intro w' hl hd; clear hl hd; unfold relAt; go_simp; exact rel_is (LeM.refl g0))
      intro _
      rw [tyIs_f]
      go_simp
      apply wpRel_cons (t := tyIs _ _)
      case h1 => (intro w' hl hd; clear hl hd; unfold relAt; go_simp; exact rel_is (LeM.refl g0))
      intro _
      rw [tyIs_f]
      go_simp
      apply wpRel_cons (t := tyD _ (qT Φ (33 * a + 11 * b)))
      case h1 => (intro w' hl hd; have SW := Lib.hid (SL.out.went ((went_drewN SL.out.prog.made 1).trans (hl GW.out))); clear hl; clear hd; have hc := SW.out.at_ a (by rw [HLN.out]; exact hh); unfold relAt; go_simp; exact ⟨LeM.refl _ _, ⟨_, getD_le HLB.out a, SW.out.getT a⟩, rfl, trivial⟩)
      rintro ⟨s0, qs0⟩
      rw [tyD_f]
      go_simp
      have zs0 := ((qT Φ (33 * a + 11 * b))).le s0 qs0; simp only [Qd.cat_B, Qd.lit_B, qT_B, qUse_B, qLt_B, qBas_B, qK_B, lit_size, List.size_toArray, List.length_cons, List.length_nil] at zs0
      apply wpRel_cons (t := tyIs _ _)
      case h1 => (intro w' hl hd; clear hl hd; unfold relAt; go_simp; exact rel_is (LeM.refl g0))
      intro _
      rw [tyIs_f]
      go_simp
      apply wpRel_cons (t := tyTwo g0)
      case h1 => (intro w' hl hd; have SW := Lib.hid (SL.out.went ((went_drewN SL.out.prog.made 1).trans (hl GW.out))); clear hl; clear hd; unfold relAt; go_simp; exact ⟨fun h => went_alloc h _, ⟨_, trivial⟩, rfl, two_new SW.out.prog.made _ _ use_1 use_2 _⟩)
      rintro ⟨bx, -⟩
      rw [tyTwo_f]
      go_simp
      apply wpRel_cons (t := tyD _ qUse)
      case h1 => (intro w' hl hd; have SW := Lib.hid (SL.out.went ((went_drewN SL.out.prog.made 1).trans (hl GW.out))); clear hl; have hx := fact_in hd (j := 5) (by kernel_rfl); clear hd; simp [upd, tyTwo_p] at hx; unfold relAt; go_simp; refine ⟨LeM.refl _ _, ?_⟩; rw [← gd.out]; refine (ofS_any UseP g0.d 2 2 bx 0 _ hx.1.dice (by omega) (by omega) hx.2.1 hx.2.2.1).mono ?_; rintro e w2 ⟨s, hs, rfl, ht⟩; exact ⟨⟨s, hs⟩, rfl, fun h => went_thrown h ht, trivial⟩)
      rintro ⟨s1, qs1⟩
      rw [tyD_f]
      go_simp
      have zs1 := (qUse).le s1 qs1; simp only [Qd.cat_B, Qd.lit_B, qT_B, qUse_B, qLt_B, qBas_B, qK_B, lit_size, List.size_toArray, List.length_cons, List.length_nil] at zs1
      apply wpRel_cons (t := tyIs _ _)
      case h1 => (intro w' hl hd; clear hl hd; unfold relAt; go_simp; exact rel_is (LeM.refl g0))
      intro _
      rw [tyIs_f]
      go_simp
      apply wpRel_cons (t := tyD _ qLt)
      case h1 => (intro w' hl hd; have SW := Lib.hid (SL.out.went ((went_drewN SL.out.prog.made 1).trans (hl GW.out))); clear hl; clear hd; unfold relAt; go_simp; refine ⟨LeM.refl _ _, ?_⟩; refine (letter_at b _ (by omega)).mono ?_; rintro e w2 ⟨rfl, hb2⟩; exact ⟨⟨_, letter_lt (by omega)⟩, rfl, fun h => went_below h hb2, trivial⟩)
      rintro ⟨s2, qs2⟩
      rw [tyD_f]
      go_simp
      have zs2 := (qLt).le s2 qs2; simp only [Qd.cat_B, Qd.lit_B, qT_B, qUse_B, qLt_B, qBas_B, qK_B, lit_size, List.size_toArray, List.length_cons, List.length_nil] at zs2
      apply wpRel_cons (t := tyD _ (Qd.cat qUse qLt))
      case h1 => (intro w' hl hd; have SW := Lib.hid (SL.out.went ((went_drewN SL.out.prog.made 1).trans (hl GW.out))); clear hl; clear hd; unfold relAt; go_simp; rw [if_neg (by first | omega | (simp only [lit_size, List.size_toArray, List.length_cons, List.length_nil]; omega))]; exact ⟨LeM.refl _ _, ⟨_, Qd.cat_mk qs1 qs2⟩, rfl, trivial⟩)
      rintro ⟨s3, qs3⟩
      rw [tyD_f]
      go_simp
      have zs3 := ((Qd.cat qUse qLt)).le s3 qs3; simp only [Qd.cat_B, Qd.lit_B, qT_B, qUse_B, qLt_B, qBas_B, qK_B, lit_size, List.size_toArray, List.length_cons, List.length_nil] at zs3
      apply wpRel_cons (t := tyD _ (Qd.cat (Qd.cat qUse qLt) (Qd.lit ⟨#[59, 10]⟩)))
      case h1 => (intro w' hl hd; have SW := Lib.hid (SL.out.went ((went_drewN SL.out.prog.made 1).trans (hl GW.out))); clear hl; clear hd; unfold relAt; go_simp; rw [if_neg (by first | omega | (simp only [lit_size, List.size_toArray, List.length_cons, List.length_nil]; omega))]; exact ⟨LeM.refl _ _, ⟨_, Qd.cat_mk qs3 (Qd.lit_mk _)⟩, rfl, trivial⟩)
      rintro ⟨s4, qs4⟩
      rw [tyD_f]
      go_simp
      have zs4 := ((Qd.cat (Qd.cat qUse qLt) (Qd.lit ⟨#[59, 10]⟩))).le s4 qs4; simp only [Qd.cat_B, Qd.lit_B, qT_B, qUse_B, qLt_B, qBas_B, qK_B, lit_size, List.size_toArray, List.length_cons, List.length_nil] at zs4
      apply wpRel_cons (t := tyD _ (Qd.cat (qT Φ (33 * a + 11 * b)) (Qd.cat (Qd.cat qUse qLt) (Qd.lit ⟨#[59, 10]⟩))))
      case h1 => (intro w' hl hd; have SW := Lib.hid (SL.out.went ((went_drewN SL.out.prog.made 1).trans (hl GW.out))); clear hl; clear hd; unfold relAt; go_simp; rw [if_neg (by first | omega | (simp only [lit_size, List.size_toArray, List.length_cons, List.length_nil]; omega))]; exact ⟨LeM.refl _ _, ⟨_, Qd.cat_mk qs0 qs4⟩, rfl, trivial⟩)
      rintro ⟨s5, qs5⟩
      rw [tyD_f]
      go_simp
      have zs5 := ((Qd.cat (qT Φ (33 * a + 11 * b)) (Qd.cat (Qd.cat qUse qLt) (Qd.lit ⟨#[59, 10]⟩)))).le s5 qs5; simp only [Qd.cat_B, Qd.lit_B, qT_B, qUse_B, qLt_B, qBas_B, qK_B, lit_size, List.size_toArray, List.length_cons, List.length_nil] at zs5
      apply wpRel_cons (t := tyIs _ _)
      case h1 => (intro w' hl hd; clear hl hd; unfold relAt; go_simp; exact rel_is (LeM.refl g0))
      intro _
      rw [tyIs_f]
      go_simp
      apply wpRel_nil (Ts := [])
      intro w9 hl _
      have Q5 : Hid (Φ.T s5) := by obtain ⟨_, _, h0, ⟨_, _, ⟨_, _, h1, h2, rfl⟩, rfl, rfl⟩, rfl⟩ := qs5; exact Φ.t_use h0.2 h1.2 h2
      have SE := Lib.hid (SL.out.went ((went_drewN SL.out.prog.made 1).trans (hl GW.out)))
      clear hl
      have hcl := SE.out.at_ a (by rw [HLN.out]; exact hh)
      have hfz := SE.out.warm a
      have SN := Lib.hid (SE.out.store a s5 Q5.out)
      have HBN : Hid (∀ x ∈ L.set a s5, x.size ≤ 33 * a + 11 * (b + 1)) := set_le HLB.out (by omega) (by omega)
      go_wp2_with fail
      go_roundw
      case rel => exact ⟨b + 1, _, by omega, by go_num, SN.out, (List.length_set ..).trans HLN.out, HBN.out⟩
      case measure => simp [intOf]; omega
    ·have hbe : b = N := by omega
     have HLB1 : Hid (∀ s ∈ L, s.size ≤ 33 * (a + 1)) := fun s hs => by have := HLB.out s hs; omega
     clear hbe
     go_wp2_with fail
     go_roundw
     case rel => exact ⟨a + 1, L, by omega, by go_num, SL.out, HLN.out, HLB1.out⟩
     case measure => simp [intOf]; omega
  ·have HLB1 : Hid (∀ s ∈ L, s.size ≤ 99) := fun s hs => by have := HLB.out s hs; omega
   have HLB := HLB1
   clear HLB1
   go_wp2_with fail
   refine (nextI_any d 3 _ (gd.out ▸ SL.out.prog.made.dice) (by omega) (by omega)).mono ?_
   rintro e w3 ⟨y, hy, rfl, ht, -⟩
   have S3 := Lib.hid (SL.out.thrown (gd.out.symm ▸ ht))
   clear ht SL
   have key : ∀ u : World, True := fun _ => trivial
   clear key
   by_cases hy0 : 0 < y
   ·have hyi : (0 : Int) < (y : Int) := by omega
    go_wp2_with fail
    have GW := Lib.hid (went_drewN S3.out.prog.made 1).good
    apply wp_region_relT (LeM.refl g0) (LeM.trans g0) 9
    case hm => kernel_rfl
    case hB => kernel_rfl
    simp only [List.take_succ_cons, List.take_zero, List.drop_succ_cons, List.drop_zero]
    apply wpRel_cons (t := tyIs _ _)
    case h1 => (intro w' hl hd; clear hl hd; unfold relAt; go_simp; exact rel_is (LeM.refl g0))
    intro _
    rw [tyIs_f]
    go_simp
    apply wpRel_cons (t := tyIs _ _)
    case h1 => (intro w' hl hd; clear hl hd; unfold relAt; go_simp; exact rel_is (LeM.refl g0))
    intro _
    rw [tyIs_f]
    go_simp
    apply wpRel_cons (t := tyIs _ _)
    case h1 => (intro w' hl hd; clear hl hd; unfold relAt; go_simp; exact rel_is (LeM.refl g0))
    intro _
    rw [tyIs_f]
    go_simp
    apply wpRel_cons (t := tyNum _ N hN0)
    case h1 => (intro w' hl hd; have SW := Lib.hid (S3.out.went ((went_drewN S3.out.prog.made 1).trans (hl GW.out))); clear hl; clear hd; unfold relAt; go_simp; refine ⟨LeM.refl _ _, ?_⟩; rw [← gd.out]; refine (nextI_any g0.d N _ SW.out.prog.made.dice (by omega) (by omega)).mono ?_; rintro e w2 ⟨z1, hz1, rfl, ht, -⟩; exact ⟨⟨z1, by omega⟩, rfl, fun h => went_thrown h ht, trivial⟩)
    rintro ⟨z1, hz1⟩
    rw [tyNum_f]
    go_simp
    apply wpRel_cons (t := tyPt _ Tx N hN0)
    case h1 => (intro w' hl hd; have SW := Lib.hid (S3.out.went ((went_drewN S3.out.prog.made 1).trans (hl GW.out))); clear hl; clear hd; unfold relAt; go_simp; exact ⟨LeM.refl _ _, ⟨z1, hz1⟩, rfl, trivial⟩)
    rintro ⟨z2, hz2⟩
    rw [tyPt_f]
    go_simp
    apply wpRel_cons (t := tyD _ (qT Φ (99)))
    case h1 => (intro w' hl hd; have SW := Lib.hid (S3.out.went ((went_drewN S3.out.prog.made 1).trans (hl GW.out))); clear hl; clear hd; have hc := SW.out.at_ z2 (by rw [HLN.out]; exact hz2); unfold relAt; go_simp; exact ⟨LeM.refl _ _, ⟨_, getD_le HLB.out z2, SW.out.getT z2⟩, rfl, trivial⟩)
    rintro ⟨s1, qs1⟩
    rw [tyD_f]
    go_simp
    have zs1 := ((qT Φ (99))).le s1 qs1; simp only [Qd.cat_B, Qd.lit_B, qT_B, qUse_B, qLt_B, qBas_B, qK_B, lit_size, List.size_toArray, List.length_cons, List.length_nil] at zs1
    apply wpRel_cons (t := tyD _ qBas)
    case h1 => (intro w' hl hd; have SW := Lib.hid (S3.out.went ((went_drewN S3.out.prog.made 1).trans (hl GW.out))); clear hl; clear hd; unfold relAt; go_simp; refine ⟨LeM.refl _ _, ?_⟩; refine (base_any _).mono ?_; rintro e w2 ⟨s, hs, rfl, rfl⟩; exact ⟨⟨s, hs⟩, rfl, LeM.refl _ _, trivial⟩)
    rintro ⟨s2, qs2⟩
    rw [tyD_f]
    go_simp
    have zs2 := (qBas).le s2 qs2; simp only [Qd.cat_B, Qd.lit_B, qT_B, qUse_B, qLt_B, qBas_B, qK_B, lit_size, List.size_toArray, List.length_cons, List.length_nil] at zs2
    apply wpRel_cons (t := tyD _ (Qd.cat (qT Φ (99)) qBas))
    case h1 => (intro w' hl hd; have SW := Lib.hid (S3.out.went ((went_drewN S3.out.prog.made 1).trans (hl GW.out))); clear hl; clear hd; unfold relAt; go_simp; rw [if_neg (by first | omega | (simp only [lit_size, List.size_toArray, List.length_cons, List.length_nil]; omega))]; exact ⟨LeM.refl _ _, ⟨_, Qd.cat_mk qs1 qs2⟩, rfl, trivial⟩)
    rintro ⟨s5, qs5⟩
    rw [tyD_f]
    go_simp
    have zs5 := ((Qd.cat (qT Φ (99)) qBas)).le s5 qs5; simp only [Qd.cat_B, Qd.lit_B, qT_B, qUse_B, qLt_B, qBas_B, qK_B, lit_size, List.size_toArray, List.length_cons, List.length_nil] at zs5
    apply wpRel_cons (t := tyPt _ Tx N hN0)
    case h1 => (intro w' hl hd; have SW := Lib.hid (S3.out.went ((went_drewN S3.out.prog.made 1).trans (hl GW.out))); clear hl; clear hd; unfold relAt; go_simp; exact ⟨LeM.refl _ _, ⟨z1, hz1⟩, rfl, trivial⟩)
    rintro ⟨z5, hz5⟩
    rw [tyPt_f]
    go_simp
    apply wpRel_nil (Ts := [])
    intro w9 hl _
    have Q5 : Hid (Φ.T s5) := by obtain ⟨_, _, h1, h2, rfl⟩ := qs5; exact Φ.t_base h1.2 h2.2
    have SE := Lib.hid (S3.out.went ((went_drewN S3.out.prog.made 1).trans (hl GW.out)))
    clear hl
    have hcl := SE.out.at_ z5 (by rw [HLN.out]; exact hz5)
    have hfz := SE.out.warm z5
    have SN := Lib.hid (SE.out.store z5 s5 Q5.out)
    have HB4 : Hid (∀ x ∈ L.set z5 s5, x.size ≤ 499) := set_le HLB.out (by omega) (by omega)
    go_upto_region 14 with (fail)
    generalize w9.setCell ⟨Tx, z5, none⟩ (.string s5) = w10 at *
    have hgP := gP.out
    obtain ⟨g1, e1, e2, e3, e4, p1, f1⟩ := SN.out.prog.flags
    have S4 := Lib.hid (SN.out.go p1 f1 e1 e2 (e3.trans SN.out.mac) e4)
    rw [hgP] at S4
    have HLN4 : Hid ((L.set z5 s5).length = N) := (List.length_set ..).trans HLN.out
    have c4 := SN.out.prog.made.c4
    have c5 := SN.out.prog.made.c5
    have f4 := SN.out.prog.warm 4
    have f5 := SN.out.prog.warm 5
    rw [hgP] at c4 c5 f4 f5
    clear hgP e1 e2 e3 e4 p1 f1 hcl hfz
    go_wp2_with fail
    clear c4 c5 f4 f5
    have TOK := S4
    have TOK2 := HLN4
    have TOK3 := HB4
    go_loopw [8, 9] (fun k _ wr => ∃ (b : Nat) (g : Made) (L : List ByteArray), b ≤ 7 ∧ k = .int .i64 b ∧ Hid (SrcL Φ w d Tx b g L wr) ∧ Hid (L.length = N) ∧ Hid (∀ s ∈ L, s.size ≤ 499 + 1501 * b)) (fun k _ _ => 7 - (intOf k).toNat)
    case atStart => exact ⟨0, _, _, Nat.zero_le _, rfl, TOK.out, TOK2.out, TOK3.out⟩
    case round =>
     clear TOK TOK2 TOK3 HLN HLB gP gd
     obtain ⟨b, g, L, hb, rfl, SL, HLN, HLB⟩ := hrel
     have gP : Hid (g.P = w.heap.size) := SL.out.P
     have gd : Hid (g.d = d) := SL.out.d
     go_wp2_with fail
     refine (nextI_any d 6 _ (gd.out ▸ SL.out.prog.made.dice) (by omega) (by omega)).mono ?_
     rintro e w4 ⟨q, hq, rfl, ht, -⟩
     have S5 := Lib.hid (SL.out.thrown (gd.out.symm ▸ ht))
     clear ht SL
     by_cases hbq : b < 2 + q
     ·have hbqi : (b : Int) < 2 + (q : Int) := by omega
      have hb6 : b ≤ 6 := by omega
      go_wp2_with fail
      refine (nextI_any d N _ (gd.out ▸ S5.out.prog.made.dice) (by omega) (by omega)).mono ?_
      rintro e w5 ⟨z, hz, rfl, ht, -⟩
      have S6 := Lib.hid (S5.out.thrown (gd.out.symm ▸ ht))
      clear ht S5
      have hzN : z < N := by omega
      have hzi : (z : Int) < (N : Int) := by omega
      have hc0 := S6.out.at_ z (by rw [HLN.out]; exact hzN)
      have htz := getD_le HLB.out z
      have HAT : Hid (∀ (g : Made) (u : World), SrcL Φ w d Tx b g L u → u.cell? ⟨Tx, z, none⟩ = some (.string (L.getD z ByteArray.empty))) := fun g u h => h.at_ z (by rw [HLN.out]; exact hzN)
      have HAT2 : Hid (∀ (g : Made) (u : World), SrcL Φ w d Tx (b + 1) g L u → u.cell? ⟨Tx, z, none⟩ = some (.string (L.getD z ByteArray.empty)) ∧ u.frozen? ⟨Tx, z, none⟩ = false ∧ ∀ s : ByteArray, s.size ≤ 1501 → Φ.T (L.getD z ByteArray.empty ++ s) → ∃ L2 : List ByteArray, SrcL Φ w d Tx (b + 1) g L2 (u.setCell ⟨Tx, z, none⟩ (.string (L.getD z ByteArray.empty ++ s))) ∧ L2.length = N ∧ ∀ x ∈ L2, x.size ≤ 499 + 1501 * (b + 1)) := fun g u h => ⟨h.at_ z (by rw [HLN.out]; exact hzN), h.warm z, fun s hs hT => ⟨_, h.store z _ hT, (List.length_set ..).trans HLN.out, set_le HLB.out (by rw [ByteArray.size_append]; omega) (by omega)⟩⟩
      have HTZ := Lib.hid (S6.out.getT z)
      generalize L.getD z ByteArray.empty = tz at *
      go_wp2_with fail
      go_region_law (first | (go_simp; go_at_call 14; refine (letter_at z _ (by omega)).mono ?_; rintro e w6 ⟨rfl, hb6⟩; have S7 := Lib.hid (S6.out.drew.below hb6); have hc1 := HAT.out g w6 S7.out; clear hb6; go_simp) | (go_simp; go_at_call 16; refine (madeItem_at (c := b) (m := letterOf z) gP.out (letter_lt (by omega)) (Nat.le_refl 1) (by omega) (by omega) S7.out.prog S7.out.mac).mono ?_; rintro e w7 ⟨s, g7, ⟨hs, hsT⟩, rfl, hit⟩; have HST2 : Hid (Φ.T s) := (by have q := hsT; rw [S7.out.phi] at q; exact q); clear hsT; have S8 := Lib.hid (S7.out.item hit); clear hit; obtain ⟨hc2, hf2, hst⟩ := HAT2.out g7 w7 S8.out; have HST := Lib.hid hst; clear hst; have hno1 : ¬ 9223372036854775807 < s.size + 1 := (by omega); have hno2 : ¬ 9223372036854775807 < tz.size + (s.size + 1) := (by omega); go_simp))
      all_goals
       obtain ⟨L9, S9, N9, B9⟩ := HST.out (s ++ ⟨#[10]⟩) (by simp [ByteArray.size_append, lit_size]; omega) (Φ.t_item HTZ.out HST2.out)
       have S9 := Lib.hid S9
       have N9 := Lib.hid N9
       have B9 := Lib.hid B9
       clear hc0 hc1 hc2 hf2
       go_wp2_with fail
       go_roundw
       case rel => exact ⟨b + 1, g7, L9, by omega, by go_num, S9.out, N9.out, B9.out⟩
       case measure => simp [intOf]; omega
     ·have hbqi : 2 + (q : Int) ≤ (b : Int) := by omega
      have HLB7 : Hid (∀ s ∈ L, s.size ≤ 11006) := fun s hs => by have := HLB.out s hs; omega
      clear HLB
      have HLB := HLB7
      clear HLB7
      go_wp2_with fail
      have GW := Lib.hid (went_drewN S5.out.prog.made 1).good
      apply wp_region_relT (LeM.refl g) (LeM.trans g) 15
      case hm => kernel_rfl
      case hB => kernel_rfl
      simp only [List.take_succ_cons, List.take_zero, List.drop_succ_cons, List.drop_zero]
      apply wpRel_cons (t := tyIs _ _)
      case h1 => (intro w' hl hd; clear hl hd; unfold relAt; go_simp; exact rel_is (LeM.refl g))
      intro _
      rw [tyIs_f]
      go_simp
      apply wpRel_cons (t := tyIs _ _)
      case h1 => (intro w' hl hd; clear hl hd; unfold relAt; go_simp; exact rel_is (LeM.refl g))
      intro _
      rw [tyIs_f]
      go_simp
      apply wpRel_cons (t := tyIs _ _)
      case h1 => (intro w' hl hd; clear hl hd; unfold relAt; go_simp; exact rel_is (LeM.refl g))
      intro _
      rw [tyIs_f]
      go_simp
      apply wpRel_cons (t := tyNum _ N hN0)
      case h1 => (intro w' hl hd; have SW := Lib.hid (S5.out.went ((went_drewN S5.out.prog.made 1).trans (hl GW.out))); clear hl; clear hd; unfold relAt; go_simp; refine ⟨LeM.refl _ _, ?_⟩; rw [← gd.out]; refine (nextI_any g.d N _ SW.out.prog.made.dice (by omega) (by omega)).mono ?_; rintro e w2 ⟨z1, hz1, rfl, ht, -⟩; exact ⟨⟨z1, by omega⟩, rfl, fun h => went_thrown h ht, trivial⟩)
      rintro ⟨z1, hz1⟩
      rw [tyNum_f]
      go_simp
      apply wpRel_cons (t := tyPt _ Tx N hN0)
      case h1 => (intro w' hl hd; have SW := Lib.hid (S5.out.went ((went_drewN S5.out.prog.made 1).trans (hl GW.out))); clear hl; clear hd; unfold relAt; go_simp; exact ⟨LeM.refl _ _, ⟨z1, hz1⟩, rfl, trivial⟩)
      rintro ⟨z2, hz2⟩
      rw [tyPt_f]
      go_simp
      apply wpRel_cons (t := tyD _ (qT Φ (11006)))
      case h1 => (intro w' hl hd; have SW := Lib.hid (S5.out.went ((went_drewN S5.out.prog.made 1).trans (hl GW.out))); clear hl; clear hd; have hc := SW.out.at_ z2 (by rw [HLN.out]; exact hz2); unfold relAt; go_simp; exact ⟨LeM.refl _ _, ⟨_, getD_le HLB.out z2, SW.out.getT z2⟩, rfl, trivial⟩)
      rintro ⟨s1, qs1⟩
      rw [tyD_f]
      go_simp
      have zs1 := ((qT Φ (11006))).le s1 qs1; simp only [Qd.cat_B, Qd.lit_B, qT_B, qUse_B, qLt_B, qBas_B, qK_B, lit_size, List.size_toArray, List.length_cons, List.length_nil] at zs1
      apply wpRel_cons (t := tyIs _ _)
      case h1 => (intro w' hl hd; clear hl hd; unfold relAt; go_simp; exact rel_is (LeM.refl g))
      intro _
      rw [tyIs_f]
      go_simp
      apply wpRel_cons (t := tyIs _ _)
      case h1 => (intro w' hl hd; clear hl hd; unfold relAt; go_simp; exact rel_is (LeM.refl g))
      intro _
      rw [tyIs_f]
      go_simp
      apply wpRel_cons (t := tyNum _ 2 (Nat.zero_lt_succ 1))
      case h1 => (intro w' hl hd; have SW := Lib.hid (S5.out.went ((went_drewN S5.out.prog.made 1).trans (hl GW.out))); clear hl; clear hd; unfold relAt; go_simp; refine ⟨LeM.refl _ _, ?_⟩; rw [← gd.out]; refine (nextI_any g.d 2 _ SW.out.prog.made.dice (by omega) (by omega)).mono ?_; rintro e w2 ⟨v1, hv1, rfl, ht, -⟩; exact ⟨⟨v1, by omega⟩, rfl, fun h => went_thrown h ht, trivial⟩)
      rintro ⟨v1, hv1⟩
      rw [tyNum_f]
      go_simp
      apply wpRel_cons (t := tyN2 g)
      case h1 => (intro w' hl hd; have SW := Lib.hid (S5.out.went ((went_drewN S5.out.prog.made 1).trans (hl GW.out))); clear hl; clear hd; have ew : IntKind.i64.wrap (2 + (v1 : Int)) = 2 + (v1 : Int) := IntWalk.i64_in _ (by omega); unfold relAt; go_simp; exact ⟨LeM.refl _ _, ⟨v1, hv1⟩, rfl, trivial⟩)
      rintro ⟨v2, hv2⟩
      rw [tyN2_f]
      go_simp
      apply wpRel_cons (t := tyD _ (qK Φ))
      case h1 => (intro w' hl hd; have SW := Lib.hid (S5.out.went ((went_drewN S5.out.prog.made 1).trans (hl GW.out))); clear hl; clear hd; unfold relAt; go_simp; refine ⟨LeM.refl _ _, ?_⟩; refine (blk_at gP.out (by omega) (by omega) SW.out.prog.made).mono ?_; rintro e w2 ⟨s, hs, rfl, ht⟩; exact ⟨⟨s, hs.1, SW.out.phi ▸ hs.2⟩, rfl, fun _ => ht, trivial⟩)
      rintro ⟨s2, qs2⟩
      rw [tyD_f]
      go_simp
      have zs2 := ((qK Φ)).le s2 qs2; simp only [Qd.cat_B, Qd.lit_B, qT_B, qUse_B, qLt_B, qBas_B, qK_B, lit_size, List.size_toArray, List.length_cons, List.length_nil] at zs2
      apply wpRel_cons (t := tyD _ (Qd.cat (Qd.lit ⟨#[102, 110, 32, 109, 97, 105, 110, 40, 41, 32, 45, 62, 32, 105, 110, 116, 32]⟩) (qK Φ)))
      case h1 => (intro w' hl hd; have SW := Lib.hid (S5.out.went ((went_drewN S5.out.prog.made 1).trans (hl GW.out))); clear hl; clear hd; unfold relAt; go_simp; rw [if_neg (by first | omega | (simp only [lit_size, List.size_toArray, List.length_cons, List.length_nil]; omega))]; exact ⟨LeM.refl _ _, ⟨_, Qd.cat_mk (Qd.lit_mk _) qs2⟩, rfl, trivial⟩)
      rintro ⟨s3, qs3⟩
      rw [tyD_f]
      go_simp
      have zs3 := ((Qd.cat (Qd.lit ⟨#[102, 110, 32, 109, 97, 105, 110, 40, 41, 32, 45, 62, 32, 105, 110, 116, 32]⟩) (qK Φ))).le s3 qs3; simp only [Qd.cat_B, Qd.lit_B, qT_B, qUse_B, qLt_B, qBas_B, qK_B, lit_size, List.size_toArray, List.length_cons, List.length_nil] at zs3
      apply wpRel_cons (t := tyD _ (Qd.cat (Qd.cat (Qd.lit ⟨#[102, 110, 32, 109, 97, 105, 110, 40, 41, 32, 45, 62, 32, 105, 110, 116, 32]⟩) (qK Φ)) (Qd.lit ⟨#[10]⟩)))
      case h1 => (intro w' hl hd; have SW := Lib.hid (S5.out.went ((went_drewN S5.out.prog.made 1).trans (hl GW.out))); clear hl; clear hd; unfold relAt; go_simp; rw [if_neg (by first | omega | (simp only [lit_size, List.size_toArray, List.length_cons, List.length_nil]; omega))]; exact ⟨LeM.refl _ _, ⟨_, Qd.cat_mk qs3 (Qd.lit_mk _)⟩, rfl, trivial⟩)
      rintro ⟨s4, qs4⟩
      rw [tyD_f]
      go_simp
      have zs4 := ((Qd.cat (Qd.cat (Qd.lit ⟨#[102, 110, 32, 109, 97, 105, 110, 40, 41, 32, 45, 62, 32, 105, 110, 116, 32]⟩) (qK Φ)) (Qd.lit ⟨#[10]⟩))).le s4 qs4; simp only [Qd.cat_B, Qd.lit_B, qT_B, qUse_B, qLt_B, qBas_B, qK_B, lit_size, List.size_toArray, List.length_cons, List.length_nil] at zs4
      apply wpRel_cons (t := tyD _ (Qd.cat (qT Φ (11006)) (Qd.cat (Qd.cat (Qd.lit ⟨#[102, 110, 32, 109, 97, 105, 110, 40, 41, 32, 45, 62, 32, 105, 110, 116, 32]⟩) (qK Φ)) (Qd.lit ⟨#[10]⟩))))
      case h1 => (intro w' hl hd; have SW := Lib.hid (S5.out.went ((went_drewN S5.out.prog.made 1).trans (hl GW.out))); clear hl; clear hd; unfold relAt; go_simp; rw [if_neg (by first | omega | (simp only [lit_size, List.size_toArray, List.length_cons, List.length_nil]; omega))]; exact ⟨LeM.refl _ _, ⟨_, Qd.cat_mk qs1 qs4⟩, rfl, trivial⟩)
      rintro ⟨s5, qs5⟩
      rw [tyD_f]
      go_simp
      have zs5 := ((Qd.cat (qT Φ (11006)) (Qd.cat (Qd.cat (Qd.lit ⟨#[102, 110, 32, 109, 97, 105, 110, 40, 41, 32, 45, 62, 32, 105, 110, 116, 32]⟩) (qK Φ)) (Qd.lit ⟨#[10]⟩)))).le s5 qs5; simp only [Qd.cat_B, Qd.lit_B, qT_B, qUse_B, qLt_B, qBas_B, qK_B, lit_size, List.size_toArray, List.length_cons, List.length_nil] at zs5
      apply wpRel_cons (t := tyPt _ Tx N hN0)
      case h1 => (intro w' hl hd; have SW := Lib.hid (S5.out.went ((went_drewN S5.out.prog.made 1).trans (hl GW.out))); clear hl; clear hd; unfold relAt; go_simp; exact ⟨LeM.refl _ _, ⟨z1, hz1⟩, rfl, trivial⟩)
      rintro ⟨z5, hz5⟩
      rw [tyPt_f]
      go_simp
      apply wpRel_nil (Ts := [])
      intro w9 hl _
      have Q5 : Hid (Φ.T s5) := by obtain ⟨_, _, h1, ⟨_, _, ⟨_, _, rfl, h2, rfl⟩, rfl, rfl⟩, rfl⟩ := qs5; exact Φ.t_main (by omega) h1.2 h2.2
      have SE := Lib.hid (S5.out.went ((went_drewN S5.out.prog.made 1).trans (hl GW.out)))
      clear hl
      have hcl := SE.out.at_ z5 (by rw [HLN.out]; exact hz5)
      have hfz := SE.out.warm z5
      have FN := Lib.hid (SE.out.store z5 s5 Q5.out).fin
      have HBF : Hid (∀ x ∈ L.set z5 s5, x.size ≤ 12400) := set_le HLB.out (by omega) (by omega)
      have HTF : Hid (∀ x ∈ L.set z5 s5, x.size ≤ 12400 ∧ Φ.T x) := fun x hx => ⟨HBF.out x hx, (SE.out.store z5 s5 Q5.out).txs x hx⟩
      have HLF : Hid ((L.set z5 s5).length = N) := (List.length_set ..).trans HLN.out
      generalize L.set z5 s5 = LF at *
      go_wp2_with fail
      clear hcl hfz
      go_loopw [10, 11] (fun out i wr => ∃ a : Nat, a ≤ N ∧ i = .int .i64 a ∧ Hid (OwnS wr (Tx + 1) out (mods LF a)) ∧ Hid (Fin0 w d Tx LF wr)) (fun _ i _ => N - (intOf i).toNat)
      case atStart => exact ⟨0, Nat.zero_le _, rfl, OwnS.isNil _ _, FN.out⟩
      case round =>
       clear FN
       obtain ⟨a9, ha9, rfl, OW, FN⟩ := hrel
       by_cases hlt9 : a9 < N
       ·have hlti9 : (a9 : Int) < (N : Int) := by omega
        have HAT : Hid (∀ u : World, Fin0 w d Tx LF u → u.cell? ⟨Tx, a9, none⟩ = some (.string (LF.getD a9 ByteArray.empty))) := fun u h => h.at_ a9 (by rw [HLF.out]; exact hlt9)
        have HSN := Lib.hid (mods_snoc LF a9)
        have HLE : Hid ((mods LF a9).length + 1 ≤ 1800000000) := by show _ ≤ _; rw [mods_length]; omega
        generalize LF.getD a9 ByteArray.empty = tz at *
        go_wp2_with fail
        have FW := Lib.hid (FN.out.below (Below.refl _ _).drew)
        apply wp_region_relT LeW.refl LeW.trans 9
        case hm => kernel_rfl
        case hB => kernel_rfl
        simp only [List.take_succ_cons, List.take_zero, List.drop_succ_cons, List.drop_zero]
        apply wpRel_cons (t := tyIs LeW _)
        case h1 => (intro w' hl hd; clear hl hd; unfold relAt; go_simp; exact relW_is)
        intro _
        rw [tyIs_f]
        go_simp
        apply wpRel_cons (t := tyIs LeW _)
        case h1 => (intro w' hl hd; clear hl hd; unfold relAt; go_simp; exact relW_is)
        intro _
        rw [tyIs_f]
        go_simp
        apply wpRel_cons (t := tyIs LeW (.string (letterOf a9)))
        case h1 => (intro w' hl hd; clear hl hd; unfold relAt; go_simp; refine ⟨LeW.refl _, ?_⟩; refine (letter_any a9 _ (by omega)).mono ?_; rintro e w2 ⟨rfl, hb2⟩; exact ⟨(), rfl, hb2, trivial⟩)
        intro _
        rw [tyIs_f]
        go_simp
        apply wpRel_cons (t := tyIs LeW _)
        case h1 => (intro w' hl hd; clear hl hd; unfold relAt; go_simp; exact relW_is)
        intro _
        rw [tyIs_f]
        go_simp
        apply wpRel_cons (t := tyIs LeW _)
        case h1 => (intro w' hl hd; clear hl hd; unfold relAt; go_simp; exact relW_is)
        intro _
        rw [tyIs_f]
        go_simp
        apply wpRel_cons (t := tyIs LeW _)
        case h1 => (intro w' hl hd; clear hl hd; unfold relAt; go_simp; exact relW_is)
        intro _
        rw [tyIs_f]
        go_simp
        apply wpRel_cons (t := tyIs LeW (.string tz))
        case h1 => (intro w' hl hd; have hc := HAT.out w' (FW.out.below hl); clear hl hd; unfold relAt; go_simp; exact relW_is)
        intro _
        rw [tyIs_f]
        go_simp
        apply wpRel_cons (t := tyIs LeW _)
        case h1 => (intro w' hl hd; clear hl hd; unfold relAt; go_simp; exact relW_is)
        intro _
        rw [tyIs_f]
        go_simp
        apply wpRel_cons (t := tyBox (letterOf a9) tz)
        case h1 => (intro w' hl hd; clear hl hd; unfold relAt; go_simp; exact ⟨below_box _ _, ⟨_, trivial⟩, rfl, by rw [tyBox_p]; exact ⟨by simp [go_sem], by simp [go_sem]⟩⟩)
        rintro ⟨bx, -⟩
        rw [tyBox_f]
        go_simp
        apply wpRel_nil (Ts := [])
        intro w9 hl hF
        have hx := hF 8
        simp [upd, tyBox_p] at hx
        have F9 := Lib.hid (FW.out.below hl)
        have O9 := Lib.hid (OwnS.below OW.out (bnext (Below.refl _ _).drew hl))
        have HX := Lib.hid hx
        clear hl hF hx
        go_wp2_with (at_builtin; go_must (refine wpList_appendS (o := ⟨some 115, _, _, _, _, _⟩) rfl (.tmp 106) (.tmp 114) rfl (Tx + 1) _ _ rfl O9.out _ _ _ [(letterOf a9, tz)] rfl rfl (lies_one HX.out.1 HX.out.2) (fun h => by cases h) HLE.out F9.out.lt ?_; intro out2 w10 hown2 hb2))
        have O10 : Hid (OwnS w10 (Tx + 1) out2 (mods LF (a9 + 1))) := by show OwnS _ _ _ _; rw [HSN.out]; exact hown2
        have F10 := Lib.hid (F9.out.belowB hb2)
        clear hown2 hb2
        go_wp2_with fail
        go_roundw
        case rel => exact ⟨a9 + 1, by omega, by go_num, O10.out, F10.out⟩
        case measure => simp [intOf]; omega
       ·have hae : a9 = N := by omega
        have HAE := Lib.hid hae
        clear hae
        go_wp2_with fail
        go_ret
        exact ⟨LF, _, rfl, by rw [HLF.out, ← HAE.out]; exact OwnS.mono OW.out (by have := FN.out.PT; omega), HTF.out, by have := HLF.out; omega, by have := HLF.out; omega, FN.out.dice, FN.out.fr⟩
   ·have hyi : (y : Int) ≤ 0 := by omega
    have TOK := S3
    have TOK2 := HLN
    have TOK3 : Hid (∀ x ∈ L, x.size ≤ 499) := fun s hs => by have := HLB.out s hs; omega
    go_wp2_with fail
    go_loopw [8, 9] (fun k _ wr => ∃ (b : Nat) (g : Made) (L : List ByteArray), b ≤ 7 ∧ k = .int .i64 b ∧ Hid (SrcL Φ w d Tx b g L wr) ∧ Hid (L.length = N) ∧ Hid (∀ s ∈ L, s.size ≤ 499 + 1501 * b)) (fun k _ _ => 7 - (intOf k).toNat)
    case atStart => exact ⟨0, _, _, Nat.zero_le _, rfl, TOK.out, TOK2.out, TOK3.out⟩
    case round =>
     clear TOK TOK2 TOK3 HLN HLB gP gd
     obtain ⟨b, g, L, hb, rfl, SL, HLN, HLB⟩ := hrel
     have gP : Hid (g.P = w.heap.size) := SL.out.P
     have gd : Hid (g.d = d) := SL.out.d
     go_wp2_with fail
     refine (nextI_any d 6 _ (gd.out ▸ SL.out.prog.made.dice) (by omega) (by omega)).mono ?_
     rintro e w4 ⟨q, hq, rfl, ht, -⟩
     have S5 := Lib.hid (SL.out.thrown (gd.out.symm ▸ ht))
     clear ht SL
     by_cases hbq : b < 2 + q
     ·have hbqi : (b : Int) < 2 + (q : Int) := by omega
      have hb6 : b ≤ 6 := by omega
      go_wp2_with fail
      refine (nextI_any d N _ (gd.out ▸ S5.out.prog.made.dice) (by omega) (by omega)).mono ?_
      rintro e w5 ⟨z, hz, rfl, ht, -⟩
      have S6 := Lib.hid (S5.out.thrown (gd.out.symm ▸ ht))
      clear ht S5
      have hzN : z < N := by omega
      have hzi : (z : Int) < (N : Int) := by omega
      have hc0 := S6.out.at_ z (by rw [HLN.out]; exact hzN)
      have htz := getD_le HLB.out z
      have HAT : Hid (∀ (g : Made) (u : World), SrcL Φ w d Tx b g L u → u.cell? ⟨Tx, z, none⟩ = some (.string (L.getD z ByteArray.empty))) := fun g u h => h.at_ z (by rw [HLN.out]; exact hzN)
      have HAT2 : Hid (∀ (g : Made) (u : World), SrcL Φ w d Tx (b + 1) g L u → u.cell? ⟨Tx, z, none⟩ = some (.string (L.getD z ByteArray.empty)) ∧ u.frozen? ⟨Tx, z, none⟩ = false ∧ ∀ s : ByteArray, s.size ≤ 1501 → Φ.T (L.getD z ByteArray.empty ++ s) → ∃ L2 : List ByteArray, SrcL Φ w d Tx (b + 1) g L2 (u.setCell ⟨Tx, z, none⟩ (.string (L.getD z ByteArray.empty ++ s))) ∧ L2.length = N ∧ ∀ x ∈ L2, x.size ≤ 499 + 1501 * (b + 1)) := fun g u h => ⟨h.at_ z (by rw [HLN.out]; exact hzN), h.warm z, fun s hs hT => ⟨_, h.store z _ hT, (List.length_set ..).trans HLN.out, set_le HLB.out (by rw [ByteArray.size_append]; omega) (by omega)⟩⟩
      have HTZ := Lib.hid (S6.out.getT z)
      generalize L.getD z ByteArray.empty = tz at *
      go_wp2_with fail
      go_region_law (first | (go_simp; go_at_call 14; refine (letter_at z _ (by omega)).mono ?_; rintro e w6 ⟨rfl, hb6⟩; have S7 := Lib.hid (S6.out.drew.below hb6); have hc1 := HAT.out g w6 S7.out; clear hb6; go_simp) | (go_simp; go_at_call 16; refine (madeItem_at (c := b) (m := letterOf z) gP.out (letter_lt (by omega)) (Nat.le_refl 1) (by omega) (by omega) S7.out.prog S7.out.mac).mono ?_; rintro e w7 ⟨s, g7, ⟨hs, hsT⟩, rfl, hit⟩; have HST2 : Hid (Φ.T s) := (by have q := hsT; rw [S7.out.phi] at q; exact q); clear hsT; have S8 := Lib.hid (S7.out.item hit); clear hit; obtain ⟨hc2, hf2, hst⟩ := HAT2.out g7 w7 S8.out; have HST := Lib.hid hst; clear hst; have hno1 : ¬ 9223372036854775807 < s.size + 1 := (by omega); have hno2 : ¬ 9223372036854775807 < tz.size + (s.size + 1) := (by omega); go_simp))
      all_goals
       obtain ⟨L9, S9, N9, B9⟩ := HST.out (s ++ ⟨#[10]⟩) (by simp [ByteArray.size_append, lit_size]; omega) (Φ.t_item HTZ.out HST2.out)
       have S9 := Lib.hid S9
       have N9 := Lib.hid N9
       have B9 := Lib.hid B9
       clear hc0 hc1 hc2 hf2
       go_wp2_with fail
       go_roundw
       case rel => exact ⟨b + 1, g7, L9, by omega, by go_num, S9.out, N9.out, B9.out⟩
       case measure => simp [intOf]; omega
     ·have hbqi : 2 + (q : Int) ≤ (b : Int) := by omega
      have HLB7 : Hid (∀ s ∈ L, s.size ≤ 11006) := fun s hs => by have := HLB.out s hs; omega
      clear HLB
      have HLB := HLB7
      clear HLB7
      go_wp2_with fail
      have GW := Lib.hid (went_drewN S5.out.prog.made 1).good
      apply wp_region_relT (LeM.refl g) (LeM.trans g) 15
      case hm => kernel_rfl
      case hB => kernel_rfl
      simp only [List.take_succ_cons, List.take_zero, List.drop_succ_cons, List.drop_zero]
      apply wpRel_cons (t := tyIs _ _)
      case h1 => (intro w' hl hd; clear hl hd; unfold relAt; go_simp; exact rel_is (LeM.refl g))
      intro _
      rw [tyIs_f]
      go_simp
      apply wpRel_cons (t := tyIs _ _)
      case h1 => (intro w' hl hd; clear hl hd; unfold relAt; go_simp; exact rel_is (LeM.refl g))
      intro _
      rw [tyIs_f]
      go_simp
      apply wpRel_cons (t := tyIs _ _)
      case h1 => (intro w' hl hd; clear hl hd; unfold relAt; go_simp; exact rel_is (LeM.refl g))
      intro _
      rw [tyIs_f]
      go_simp
      apply wpRel_cons (t := tyNum _ N hN0)
      case h1 => (intro w' hl hd; have SW := Lib.hid (S5.out.went ((went_drewN S5.out.prog.made 1).trans (hl GW.out))); clear hl; clear hd; unfold relAt; go_simp; refine ⟨LeM.refl _ _, ?_⟩; rw [← gd.out]; refine (nextI_any g.d N _ SW.out.prog.made.dice (by omega) (by omega)).mono ?_; rintro e w2 ⟨z1, hz1, rfl, ht, -⟩; exact ⟨⟨z1, by omega⟩, rfl, fun h => went_thrown h ht, trivial⟩)
      rintro ⟨z1, hz1⟩
      rw [tyNum_f]
      go_simp
      apply wpRel_cons (t := tyPt _ Tx N hN0)
      case h1 => (intro w' hl hd; have SW := Lib.hid (S5.out.went ((went_drewN S5.out.prog.made 1).trans (hl GW.out))); clear hl; clear hd; unfold relAt; go_simp; exact ⟨LeM.refl _ _, ⟨z1, hz1⟩, rfl, trivial⟩)
      rintro ⟨z2, hz2⟩
      rw [tyPt_f]
      go_simp
      apply wpRel_cons (t := tyD _ (qT Φ (11006)))
      case h1 => (intro w' hl hd; have SW := Lib.hid (S5.out.went ((went_drewN S5.out.prog.made 1).trans (hl GW.out))); clear hl; clear hd; have hc := SW.out.at_ z2 (by rw [HLN.out]; exact hz2); unfold relAt; go_simp; exact ⟨LeM.refl _ _, ⟨_, getD_le HLB.out z2, SW.out.getT z2⟩, rfl, trivial⟩)
      rintro ⟨s1, qs1⟩
      rw [tyD_f]
      go_simp
      have zs1 := ((qT Φ (11006))).le s1 qs1; simp only [Qd.cat_B, Qd.lit_B, qT_B, qUse_B, qLt_B, qBas_B, qK_B, lit_size, List.size_toArray, List.length_cons, List.length_nil] at zs1
      apply wpRel_cons (t := tyIs _ _)
      case h1 => (intro w' hl hd; clear hl hd; unfold relAt; go_simp; exact rel_is (LeM.refl g))
      intro _
      rw [tyIs_f]
      go_simp
      apply wpRel_cons (t := tyIs _ _)
      case h1 => (intro w' hl hd; clear hl hd; unfold relAt; go_simp; exact rel_is (LeM.refl g))
      intro _
      rw [tyIs_f]
      go_simp
      apply wpRel_cons (t := tyNum _ 2 (Nat.zero_lt_succ 1))
      case h1 => (intro w' hl hd; have SW := Lib.hid (S5.out.went ((went_drewN S5.out.prog.made 1).trans (hl GW.out))); clear hl; clear hd; unfold relAt; go_simp; refine ⟨LeM.refl _ _, ?_⟩; rw [← gd.out]; refine (nextI_any g.d 2 _ SW.out.prog.made.dice (by omega) (by omega)).mono ?_; rintro e w2 ⟨v1, hv1, rfl, ht, -⟩; exact ⟨⟨v1, by omega⟩, rfl, fun h => went_thrown h ht, trivial⟩)
      rintro ⟨v1, hv1⟩
      rw [tyNum_f]
      go_simp
      apply wpRel_cons (t := tyN2 g)
      case h1 => (intro w' hl hd; have SW := Lib.hid (S5.out.went ((went_drewN S5.out.prog.made 1).trans (hl GW.out))); clear hl; clear hd; have ew : IntKind.i64.wrap (2 + (v1 : Int)) = 2 + (v1 : Int) := IntWalk.i64_in _ (by omega); unfold relAt; go_simp; exact ⟨LeM.refl _ _, ⟨v1, hv1⟩, rfl, trivial⟩)
      rintro ⟨v2, hv2⟩
      rw [tyN2_f]
      go_simp
      apply wpRel_cons (t := tyD _ (qK Φ))
      case h1 => (intro w' hl hd; have SW := Lib.hid (S5.out.went ((went_drewN S5.out.prog.made 1).trans (hl GW.out))); clear hl; clear hd; unfold relAt; go_simp; refine ⟨LeM.refl _ _, ?_⟩; refine (blk_at gP.out (by omega) (by omega) SW.out.prog.made).mono ?_; rintro e w2 ⟨s, hs, rfl, ht⟩; exact ⟨⟨s, hs.1, SW.out.phi ▸ hs.2⟩, rfl, fun _ => ht, trivial⟩)
      rintro ⟨s2, qs2⟩
      rw [tyD_f]
      go_simp
      have zs2 := ((qK Φ)).le s2 qs2; simp only [Qd.cat_B, Qd.lit_B, qT_B, qUse_B, qLt_B, qBas_B, qK_B, lit_size, List.size_toArray, List.length_cons, List.length_nil] at zs2
      apply wpRel_cons (t := tyD _ (Qd.cat (Qd.lit ⟨#[102, 110, 32, 109, 97, 105, 110, 40, 41, 32, 45, 62, 32, 105, 110, 116, 32]⟩) (qK Φ)))
      case h1 => (intro w' hl hd; have SW := Lib.hid (S5.out.went ((went_drewN S5.out.prog.made 1).trans (hl GW.out))); clear hl; clear hd; unfold relAt; go_simp; rw [if_neg (by first | omega | (simp only [lit_size, List.size_toArray, List.length_cons, List.length_nil]; omega))]; exact ⟨LeM.refl _ _, ⟨_, Qd.cat_mk (Qd.lit_mk _) qs2⟩, rfl, trivial⟩)
      rintro ⟨s3, qs3⟩
      rw [tyD_f]
      go_simp
      have zs3 := ((Qd.cat (Qd.lit ⟨#[102, 110, 32, 109, 97, 105, 110, 40, 41, 32, 45, 62, 32, 105, 110, 116, 32]⟩) (qK Φ))).le s3 qs3; simp only [Qd.cat_B, Qd.lit_B, qT_B, qUse_B, qLt_B, qBas_B, qK_B, lit_size, List.size_toArray, List.length_cons, List.length_nil] at zs3
      apply wpRel_cons (t := tyD _ (Qd.cat (Qd.cat (Qd.lit ⟨#[102, 110, 32, 109, 97, 105, 110, 40, 41, 32, 45, 62, 32, 105, 110, 116, 32]⟩) (qK Φ)) (Qd.lit ⟨#[10]⟩)))
      case h1 => (intro w' hl hd; have SW := Lib.hid (S5.out.went ((went_drewN S5.out.prog.made 1).trans (hl GW.out))); clear hl; clear hd; unfold relAt; go_simp; rw [if_neg (by first | omega | (simp only [lit_size, List.size_toArray, List.length_cons, List.length_nil]; omega))]; exact ⟨LeM.refl _ _, ⟨_, Qd.cat_mk qs3 (Qd.lit_mk _)⟩, rfl, trivial⟩)
      rintro ⟨s4, qs4⟩
      rw [tyD_f]
      go_simp
      have zs4 := ((Qd.cat (Qd.cat (Qd.lit ⟨#[102, 110, 32, 109, 97, 105, 110, 40, 41, 32, 45, 62, 32, 105, 110, 116, 32]⟩) (qK Φ)) (Qd.lit ⟨#[10]⟩))).le s4 qs4; simp only [Qd.cat_B, Qd.lit_B, qT_B, qUse_B, qLt_B, qBas_B, qK_B, lit_size, List.size_toArray, List.length_cons, List.length_nil] at zs4
      apply wpRel_cons (t := tyD _ (Qd.cat (qT Φ (11006)) (Qd.cat (Qd.cat (Qd.lit ⟨#[102, 110, 32, 109, 97, 105, 110, 40, 41, 32, 45, 62, 32, 105, 110, 116, 32]⟩) (qK Φ)) (Qd.lit ⟨#[10]⟩))))
      case h1 => (intro w' hl hd; have SW := Lib.hid (S5.out.went ((went_drewN S5.out.prog.made 1).trans (hl GW.out))); clear hl; clear hd; unfold relAt; go_simp; rw [if_neg (by first | omega | (simp only [lit_size, List.size_toArray, List.length_cons, List.length_nil]; omega))]; exact ⟨LeM.refl _ _, ⟨_, Qd.cat_mk qs1 qs4⟩, rfl, trivial⟩)
      rintro ⟨s5, qs5⟩
      rw [tyD_f]
      go_simp
      have zs5 := ((Qd.cat (qT Φ (11006)) (Qd.cat (Qd.cat (Qd.lit ⟨#[102, 110, 32, 109, 97, 105, 110, 40, 41, 32, 45, 62, 32, 105, 110, 116, 32]⟩) (qK Φ)) (Qd.lit ⟨#[10]⟩)))).le s5 qs5; simp only [Qd.cat_B, Qd.lit_B, qT_B, qUse_B, qLt_B, qBas_B, qK_B, lit_size, List.size_toArray, List.length_cons, List.length_nil] at zs5
      apply wpRel_cons (t := tyPt _ Tx N hN0)
      case h1 => (intro w' hl hd; have SW := Lib.hid (S5.out.went ((went_drewN S5.out.prog.made 1).trans (hl GW.out))); clear hl; clear hd; unfold relAt; go_simp; exact ⟨LeM.refl _ _, ⟨z1, hz1⟩, rfl, trivial⟩)
      rintro ⟨z5, hz5⟩
      rw [tyPt_f]
      go_simp
      apply wpRel_nil (Ts := [])
      intro w9 hl _
      have Q5 : Hid (Φ.T s5) := by obtain ⟨_, _, h1, ⟨_, _, ⟨_, _, rfl, h2, rfl⟩, rfl, rfl⟩, rfl⟩ := qs5; exact Φ.t_main (by omega) h1.2 h2.2
      have SE := Lib.hid (S5.out.went ((went_drewN S5.out.prog.made 1).trans (hl GW.out)))
      clear hl
      have hcl := SE.out.at_ z5 (by rw [HLN.out]; exact hz5)
      have hfz := SE.out.warm z5
      have FN := Lib.hid (SE.out.store z5 s5 Q5.out).fin
      have HBF : Hid (∀ x ∈ L.set z5 s5, x.size ≤ 12400) := set_le HLB.out (by omega) (by omega)
      have HTF : Hid (∀ x ∈ L.set z5 s5, x.size ≤ 12400 ∧ Φ.T x) := fun x hx => ⟨HBF.out x hx, (SE.out.store z5 s5 Q5.out).txs x hx⟩
      have HLF : Hid ((L.set z5 s5).length = N) := (List.length_set ..).trans HLN.out
      generalize L.set z5 s5 = LF at *
      go_wp2_with fail
      clear hcl hfz
      go_loopw [10, 11] (fun out i wr => ∃ a : Nat, a ≤ N ∧ i = .int .i64 a ∧ Hid (OwnS wr (Tx + 1) out (mods LF a)) ∧ Hid (Fin0 w d Tx LF wr)) (fun _ i _ => N - (intOf i).toNat)
      case atStart => exact ⟨0, Nat.zero_le _, rfl, OwnS.isNil _ _, FN.out⟩
      case round =>
       clear FN
       obtain ⟨a9, ha9, rfl, OW, FN⟩ := hrel
       by_cases hlt9 : a9 < N
       ·have hlti9 : (a9 : Int) < (N : Int) := by omega
        have HAT : Hid (∀ u : World, Fin0 w d Tx LF u → u.cell? ⟨Tx, a9, none⟩ = some (.string (LF.getD a9 ByteArray.empty))) := fun u h => h.at_ a9 (by rw [HLF.out]; exact hlt9)
        have HSN := Lib.hid (mods_snoc LF a9)
        have HLE : Hid ((mods LF a9).length + 1 ≤ 1800000000) := by show _ ≤ _; rw [mods_length]; omega
        generalize LF.getD a9 ByteArray.empty = tz at *
        go_wp2_with fail
        have FW := Lib.hid (FN.out.below (Below.refl _ _).drew)
        apply wp_region_relT LeW.refl LeW.trans 9
        case hm => kernel_rfl
        case hB => kernel_rfl
        simp only [List.take_succ_cons, List.take_zero, List.drop_succ_cons, List.drop_zero]
        apply wpRel_cons (t := tyIs LeW _)
        case h1 => (intro w' hl hd; clear hl hd; unfold relAt; go_simp; exact relW_is)
        intro _
        rw [tyIs_f]
        go_simp
        apply wpRel_cons (t := tyIs LeW _)
        case h1 => (intro w' hl hd; clear hl hd; unfold relAt; go_simp; exact relW_is)
        intro _
        rw [tyIs_f]
        go_simp
        apply wpRel_cons (t := tyIs LeW (.string (letterOf a9)))
        case h1 => (intro w' hl hd; clear hl hd; unfold relAt; go_simp; refine ⟨LeW.refl _, ?_⟩; refine (letter_any a9 _ (by omega)).mono ?_; rintro e w2 ⟨rfl, hb2⟩; exact ⟨(), rfl, hb2, trivial⟩)
        intro _
        rw [tyIs_f]
        go_simp
        apply wpRel_cons (t := tyIs LeW _)
        case h1 => (intro w' hl hd; clear hl hd; unfold relAt; go_simp; exact relW_is)
        intro _
        rw [tyIs_f]
        go_simp
        apply wpRel_cons (t := tyIs LeW _)
        case h1 => (intro w' hl hd; clear hl hd; unfold relAt; go_simp; exact relW_is)
        intro _
        rw [tyIs_f]
        go_simp
        apply wpRel_cons (t := tyIs LeW _)
        case h1 => (intro w' hl hd; clear hl hd; unfold relAt; go_simp; exact relW_is)
        intro _
        rw [tyIs_f]
        go_simp
        apply wpRel_cons (t := tyIs LeW (.string tz))
        case h1 => (intro w' hl hd; have hc := HAT.out w' (FW.out.below hl); clear hl hd; unfold relAt; go_simp; exact relW_is)
        intro _
        rw [tyIs_f]
        go_simp
        apply wpRel_cons (t := tyIs LeW _)
        case h1 => (intro w' hl hd; clear hl hd; unfold relAt; go_simp; exact relW_is)
        intro _
        rw [tyIs_f]
        go_simp
        apply wpRel_cons (t := tyBox (letterOf a9) tz)
        case h1 => (intro w' hl hd; clear hl hd; unfold relAt; go_simp; exact ⟨below_box _ _, ⟨_, trivial⟩, rfl, by rw [tyBox_p]; exact ⟨by simp [go_sem], by simp [go_sem]⟩⟩)
        rintro ⟨bx, -⟩
        rw [tyBox_f]
        go_simp
        apply wpRel_nil (Ts := [])
        intro w9 hl hF
        have hx := hF 8
        simp [upd, tyBox_p] at hx
        have F9 := Lib.hid (FW.out.below hl)
        have O9 := Lib.hid (OwnS.below OW.out (bnext (Below.refl _ _).drew hl))
        have HX := Lib.hid hx
        clear hl hF hx
        go_wp2_with (at_builtin; go_must (refine wpList_appendS (o := ⟨some 115, _, _, _, _, _⟩) rfl (.tmp 106) (.tmp 114) rfl (Tx + 1) _ _ rfl O9.out _ _ _ [(letterOf a9, tz)] rfl rfl (lies_one HX.out.1 HX.out.2) (fun h => by cases h) HLE.out F9.out.lt ?_; intro out2 w10 hown2 hb2))
        have O10 : Hid (OwnS w10 (Tx + 1) out2 (mods LF (a9 + 1))) := by show OwnS _ _ _ _; rw [HSN.out]; exact hown2
        have F10 := Lib.hid (F9.out.belowB hb2)
        clear hown2 hb2
        go_wp2_with fail
        go_roundw
        case rel => exact ⟨a9 + 1, by omega, by go_num, O10.out, F10.out⟩
        case measure => simp [intOf]; omega
       ·have hae : a9 = N := by omega
        have HAE := Lib.hid hae
        clear hae
        go_wp2_with fail
        go_ret
        exact ⟨LF, _, rfl, by rw [HLF.out, ← HAE.out]; exact OwnS.mono OW.out (by have := FN.out.PT; omega), HTF.out, by have := HLF.out; omega, by have := HLF.out; omega, FN.out.dice, FN.out.fr⟩
end Go.Proofs.YtheigpiffdabnaaGreat
