/-
  CONTRACTS: the making of an item: a text of at most 1500 bytes, and a name more in a list.
-/
import Derived.Test.YtheigpiffdabnaaGreatZB4
import Derived.Test.YtheigpiffdabnaaGreatZA1
set_option linter.unusedSimpArgs false
set_option linter.unusedVariables false
namespace Go.Proofs.YtheigpiffdabnaaGreat
open Go Go.RowKit
/-- a flag or a list of the program has been set, or nothing: the program goes on -/
structure ItemAt (ob c : Nat) (g0 g : Made) (w0 w : World) : Prop where
 at_ : ProgAt ob c g w
 fr : Fr ob g0.d.D g0.P w0 w
 d : g.d = g0.d
 P : g.P = g0.P
 mac : g.macro_ = g0.macro_
 phi : g.Φ = g0.Φ
theorem ItemAt.start {ob c : Nat} {g : Made} {w : World} (h : ProgAt ob c g w) : ItemAt ob c g g w w := ⟨h, Fr.refl _ _ _ _, rfl, rfl, rfl, rfl⟩
theorem ItemAt.went {ob c : Nat} {g0 g : Made} {w0 w w' : World} (h : ItemAt ob c g0 g w0 w) (k : Went g w w') : ItemAt ob c g0 g w0 w' :=
 ⟨h.at_.went k, h.fr.trans ((Fr.went h.at_ k).cast (by rw [h.d]) h.P), h.d, h.P, h.mac, h.phi⟩
theorem ItemAt.thrown {ob c : Nat} {g0 g : Made} {w0 w w' : World} (h : ItemAt ob c g0 g w0 w) (k : Thrown g.d w w') : ItemAt ob c g0 g w0 w' := h.went (went_thrown h.at_.made k)
theorem ItemAt.below {ob c : Nat} {g0 g : Made} {w0 w w' : World} (h : ItemAt ob c g0 g w0 w) (k : Below w.heap.size w w') : ItemAt ob c g0 g w0 w' := h.went (went_below h.at_.made k)
theorem ItemAt.alloc {ob c : Nat} {g0 g : Made} {w0 w : World} (h : ItemAt ob c g0 g w0 w) (o : Obj) : ItemAt ob c g0 g w0 (w.alloc o) := h.went (went_alloc h.at_.made o)
theorem ItemAt.push1 {ob c : Nat} {g0 g : Made} {w0 w w1 : World} {v : Value} (h : ItemAt ob c g0 g w0 w) (k : Pushed g.nm ob w g.fp g.fn g.fc v w1) (hc : c + 1 ≤ 90) : (∃ g', ItemAt ob (c + 1) g0 g' w0 (w1.setCell ⟨g.P, 1, none⟩ v)) ∧ (∃ u, w1.cell? ⟨g.P, 1, none⟩ = some u) ∧ w1.frozen? ⟨g.P, 1, none⟩ = false := by
 obtain ⟨⟨p', c', rfl, hl⟩, hg, ho⟩ := k
 have k : Pushed g.nm ob w g.fp g.fn g.fc (.slice p' (g.fn + 1) c') w1 := ⟨⟨p', c', rfl, hl⟩, hg, ho⟩
 obtain ⟨a1, a2, a3⟩ := k.stands h.at_.l2 h.at_.o21 h.at_.o12
 obtain ⟨b1, b2, b3⟩ := k.stands h.at_.l3 h.at_.o31 h.at_.o13
 have hb := k.below h.at_.l1 h.at_.siz
 have hcnt := h.at_.cnt
 refine ⟨⟨{ g with fp := p', fn := g.fn + 1, fc := c' }, ?_⟩, ⟨_, (hb.cell (p := ⟨g.P, 1, none⟩) h.at_.pob).trans h.at_.made.c1⟩, (hb.frozen (p := ⟨g.P, 1, none⟩) h.at_.pob).trans (h.at_.warm 1)⟩
 have := h.at_.put (g' := { g with fp := p', fn := g.fn + 1, fc := c' }) (c2 := c + 1) hb (j := 1) (by omega) rfl rfl (fun i hi hi2 => by rcases hi2 with rfl | rfl | rfl | rfl | rfl | rfl <;> first | rfl | exact absurd rfl hi) hl a1 b1 a3 b3 a2 h.at_.o23 b2 h.at_.o32 (by simp only; omega) hc
 exact ⟨this.1, h.fr.trans (this.2.cast (by rw [h.d]) h.P), h.d, h.P, h.mac, h.phi⟩
theorem ItemAt.push2 {ob c : Nat} {g0 g : Made} {w0 w w1 : World} {v : Value} (h : ItemAt ob c g0 g w0 w) (k : Pushed g.nm ob w g.cp g.cn g.cc v w1) (hc : c + 1 ≤ 90) : (∃ g', ItemAt ob (c + 1) g0 g' w0 (w1.setCell ⟨g.P, 2, none⟩ v)) ∧ (∃ u, w1.cell? ⟨g.P, 2, none⟩ = some u) ∧ w1.frozen? ⟨g.P, 2, none⟩ = false := by
 obtain ⟨⟨p', c', rfl, hl⟩, hg, ho⟩ := k
 have k : Pushed g.nm ob w g.cp g.cn g.cc (.slice p' (g.cn + 1) c') w1 := ⟨⟨p', c', rfl, hl⟩, hg, ho⟩
 obtain ⟨a1, a2, a3⟩ := k.stands h.at_.l1 h.at_.o12 h.at_.o21
 obtain ⟨b1, b2, b3⟩ := k.stands h.at_.l3 h.at_.o32 h.at_.o23
 have hb := k.below h.at_.l2 h.at_.siz
 have hcnt := h.at_.cnt
 refine ⟨⟨{ g with cp := p', cn := g.cn + 1, cc := c' }, ?_⟩, ⟨_, (hb.cell (p := ⟨g.P, 2, none⟩) h.at_.pob).trans h.at_.made.c2⟩, (hb.frozen (p := ⟨g.P, 2, none⟩) h.at_.pob).trans (h.at_.warm 2)⟩
 have := h.at_.put (g' := { g with cp := p', cn := g.cn + 1, cc := c' }) (c2 := c + 1) hb (j := 2) (by omega) rfl rfl (fun i hi hi2 => by rcases hi2 with rfl | rfl | rfl | rfl | rfl | rfl <;> first | rfl | exact absurd rfl hi) a1 hl b1 a2 h.at_.o13 a3 b3 h.at_.o31 b2 (by simp only; omega) hc
 exact ⟨this.1, h.fr.trans (this.2.cast (by rw [h.d]) h.P), h.d, h.P, h.mac, h.phi⟩
theorem ItemAt.push3 {ob c : Nat} {g0 g : Made} {w0 w w1 : World} {v : Value} (h : ItemAt ob c g0 g w0 w) (k : Pushed g.nm ob w g.mp g.mn g.mc v w1) (hc : c + 1 ≤ 90) : (∃ g', ItemAt ob (c + 1) g0 g' w0 (w1.setCell ⟨g.P, 3, none⟩ v)) ∧ (∃ u, w1.cell? ⟨g.P, 3, none⟩ = some u) ∧ w1.frozen? ⟨g.P, 3, none⟩ = false := by
 obtain ⟨⟨p', c', rfl, hl⟩, hg, ho⟩ := k
 have k : Pushed g.nm ob w g.mp g.mn g.mc (.slice p' (g.mn + 1) c') w1 := ⟨⟨p', c', rfl, hl⟩, hg, ho⟩
 obtain ⟨a1, a2, a3⟩ := k.stands h.at_.l1 h.at_.o13 h.at_.o31
 obtain ⟨b1, b2, b3⟩ := k.stands h.at_.l2 h.at_.o23 h.at_.o32
 have hb := k.below h.at_.l3 h.at_.siz
 have hcnt := h.at_.cnt
 refine ⟨⟨{ g with mp := p', mn := g.mn + 1, mc := c' }, ?_⟩, ⟨_, (hb.cell (p := ⟨g.P, 3, none⟩) h.at_.pob).trans h.at_.made.c3⟩, (hb.frozen (p := ⟨g.P, 3, none⟩) h.at_.pob).trans (h.at_.warm 3)⟩
 have := h.at_.put (g' := { g with mp := p', mn := g.mn + 1, mc := c' }) (c2 := c + 1) hb (j := 3) (by omega) rfl rfl (fun i hi hi2 => by rcases hi2 with rfl | rfl | rfl | rfl | rfl | rfl <;> first | rfl | exact absurd rfl hi) a1 b1 hl h.at_.o12 a2 h.at_.o21 b2 a3 b3 (by simp only; omega) hc
 exact ⟨this.1, h.fr.trans (this.2.cast (by rw [h.d]) h.P), h.d, h.P, h.mac, h.phi⟩
/-- the flag of macros -/
theorem ItemAt.flag {ob c : Nat} {g0 g : Made} {w0 w : World} (h : ItemAt ob c g0 g w0 w) (b : Bool) : ProgAt ob c { g with macro_ := b } (w.setCell ⟨g.P, 7, none⟩ (.bool b)) ∧ Fr ob g0.d.D g0.P w0 (w.setCell ⟨g.P, 7, none⟩ (.bool b)) := by
 have := h.at_.put (g' := { g with macro_ := b }) (c2 := c) (Below.refl ob w) (j := 7) (by omega) rfl rfl (fun i hi hi2 => by rcases hi2 with rfl | rfl | rfl | rfl | rfl | rfl <;> first | rfl | exact absurd rfl hi) h.at_.l1 h.at_.l2 h.at_.l3 h.at_.o12 h.at_.o13 h.at_.o21 h.at_.o23 h.at_.o31 h.at_.o32 h.at_.cnt h.at_.few
 exact ⟨this.1, h.fr.trans (this.2.cast (by rw [h.d]) h.P)⟩
/-- the flags of records -/
theorem ProgAt.flags {ob c : Nat} {g : Made} {w : World} (h : ProgAt ob c g w) : ∃ g', g'.d = g.d ∧ g'.P = g.P ∧ g'.macro_ = g.macro_ ∧ g'.Φ = g.Φ ∧ ProgAt ob c g' ((w.setCell ⟨g.P, 4, none⟩ (.bool true)).setCell ⟨g.P, 5, none⟩ (.bool true)) ∧ Fr ob g.d.D g.P w ((w.setCell ⟨g.P, 4, none⟩ (.bool true)).setCell ⟨g.P, 5, none⟩ (.bool true)) := by
 have h1 := h.put (g' := { g with records := true }) (c2 := c) (Below.refl ob w) (j := 4) (by omega) rfl rfl (fun i hi hi2 => by rcases hi2 with rfl | rfl | rfl | rfl | rfl | rfl <;> first | rfl | exact absurd rfl hi) h.l1 h.l2 h.l3 h.o12 h.o13 h.o21 h.o23 h.o31 h.o32 h.cnt h.few
 have k := h1.1
 have h2 := k.put (g' := { g with records := true, shows := true }) (c2 := c) (Below.refl ob _) (j := 5) (by omega) rfl rfl (fun i hi hi2 => by rcases hi2 with rfl | rfl | rfl | rfl | rfl | rfl <;> first | rfl | exact absurd rfl hi) k.l1 k.l2 k.l3 k.o12 k.o13 k.o21 k.o23 k.o31 k.o32 k.cnt k.few
 exact ⟨{ g with records := true, shows := true }, rfl, rfl, rfl, rfl, h2.1, h1.2.trans h2.2⟩
def MadeItemPost (ob c : Nat) (g : Made) (w : World) (e : Ending) (w' : World) : Prop := ∃ (s : ByteArray) (g' : Made), (s.size ≤ 1500 ∧ g.Φ.T s) ∧ e = .returned (.string s) ∧ ItemAt ob (c + 1) g g' w w'
theorem vars_nil (g : Made) (w : World) : Vars g w none 0 := ⟨fun i hi => absurd hi (by omega), fun b o e => by cases e⟩
theorem vars_one {g : Made} {w : World} (h : MadeAt g w) (s : ByteArray) (hs : g.nm s) (t : TypeId) : Vars g (w.alloc (.cells #[.string s] t)) (some ⟨w.heap.size, 0, none⟩) 1 := by
 have hD := World.block_lt_of_cell? w _ h.dice.at_
 have hP := World.block_lt_of_cell? w _ h.c6
 simp only at hD hP
 refine ⟨fun i hi => ?_, fun b o e => ?_⟩
 ·have e : i = 0 := by omega
  subst e
  exact ⟨_, 0, s, rfl, by simp [go_sem], hs⟩
 ·injection e with e; injection e with e _ _; omega
theorem vars_two {g : Made} {w : World} (h : MadeAt g w) (a b : ByteArray) (ha : g.nm a) (hb : g.nm b) (t : TypeId) : Vars g (w.alloc (.cells #[.string a, .string b] t)) (some ⟨w.heap.size, 0, none⟩) 2 := by
 have hD := World.block_lt_of_cell? w _ h.dice.at_
 have hP := World.block_lt_of_cell? w _ h.c6
 simp only at hD hP
 refine ⟨strs_two ha hb t w, fun x o e => ?_⟩
 injection e with e; injection e with e _ _; omega
theorem size_set (w : World) (a : Addr) (u : Value) : (w.setCell a u).heap.size = w.heap.size := by simp [World.setCell]
theorem size_box {g : Made} {w W : World} {a : Addr} {u : Value} {n : Nat} (h : Vars g W (some ⟨(w.setCell a u).heap.size, 0, none⟩) n) : Vars g W (some ⟨w.heap.size, 0, none⟩) n := by rwa [size_set] at h
theorem size_boxQ {φ : ByteArray → Prop} {w W : World} {a : Addr} {u : Value} {n : Nat} (h : Strs φ W (some ⟨(w.setCell a u).heap.size, 0, none⟩) n) : Strs φ W (some ⟨w.heap.size, 0, none⟩) n := by rwa [size_set] at h
theorem away_set {d : Dice} {w : World} {a : Addr} {u : Value} (h : DiceAt d (w.setCell a u)) : w.heap.size ≠ d.D := by have := away_new h; rwa [size_set] at this
theorem int_flag (g : Made) (b : Bool) (p : Option Addr) (n cap : Nat) (w : World) (hg : MadeAt { g with macro_ := b } w) (hv : Vars { g with macro_ := b } w p n) (hn : n ≤ 10) :
  Calls Tryz.prog 24 #[.pointer (some ⟨g.P, 0, none⟩), .int .i64 1, .slice p n cap] w fun e w' => ∃ s : ByteArray, (s.size ≤ 174 ∧ g.Φ.S 6 s) ∧ e = .returned (.string s) ∧ Went { g with macro_ := b } w w' :=
 int_1 { g with macro_ := b } 1 p n cap w (by omega) (by omega) hg hv (by omega)
theorem flag_fr {ob c : Nat} {g0 g : Made} {w0 w : World} (h : ItemAt ob c g0 g w0 w) (b : Bool) : Fr ob g0.d.D g0.P w (w.setCell ⟨g.P, 7, none⟩ (.bool b)) := by
 have := h.at_.put (g' := { g with macro_ := b }) (c2 := c) (Below.refl ob w) (j := 7) (by omega) rfl rfl (fun i hi hi2 => by rcases hi2 with rfl | rfl | rfl | rfl | rfl | rfl <;> first | rfl | exact absurd rfl hi) h.at_.l1 h.at_.l2 h.at_.l3 h.at_.o12 h.at_.o13 h.at_.o21 h.at_.o23 h.at_.o31 h.at_.o32 h.at_.cnt h.at_.few
 exact this.2.cast (by rw [h.d]) h.P
set_option maxRecDepth 1000000 in
set_option maxHeartbeats 20000000 in
theorem madeItem_any (ob c : Nat) (g : Made) (m : ByteArray) (k : Nat) (w : World) (hlt : IsLt m) (hm : m.size ≤ 1) (hk : k < 1000) (hc : c + 1 ≤ 90) (hg : ProgAt ob c g w) (hmac : g.macro_ = false) :
  Calls Tryz.prog 16 #[.pointer (some ⟨g.P, 0, none⟩), .string m, .int .i64 (k : Nat)] w (MadeItemPost ob c g w) := by
 have K0 := Lib.hid (ItemAt.start hg)
 have c0 := hg.made.c0
 have HM := Lib.hid hmac
 have HLT := Lib.hid hlt
 clear hg hmac hlt
 go_enter Tryz.func16, Tryz.ntmps16
 go_wp2_with fail
 refine (digits_any k _ (by omega)).mono ?_
 rintro e w1 ⟨dg, ⟨hdg, hdD⟩, rfl, hb⟩
 have HDG := Lib.hid hdD
 clear hdD
 have K1 := Lib.hid (K0.out.below hb)
 clear hb c0
 go_wp2_with fail
 refine (nextI_any g.d 6 _ K1.out.at_.made.dice (by omega) (by omega)).mono ?_
 rintro e w2 ⟨x, hx, rfl, ht, -⟩
 have K2 := Lib.hid (K1.out.thrown ht)
 clear ht
 rcases (by omega : x = 0 ∨ x = 1 ∨ x = 2 ∨ x = 3 ∨ x = 4 ∨ x = 5) with rfl | rfl | rfl | rfl | rfl | rfl
 ·go_wp2_with fail
  refine (nextI_any g.d 2 _ K2.out.at_.made.dice (by omega) (by omega)).mono ?_
  rintro e w3 ⟨y, hy, rfl, ht, -⟩
  have K3 := Lib.hid (K2.out.thrown ht)
  clear ht
  go_wp2_with fail
  refine (int_2 g (1 + (y : Int)) none 0 0 _ (by omega) (by omega) K3.out.at_.made (vars_nil g _) (by omega)).mono ?_
  rintro e w4 ⟨t, ⟨zt, qt⟩, rfl, ht⟩
  have Qt := Lib.hid qt
  clear qt
  have K4 := Lib.hid (K3.out.went ht)
  clear ht
  have c2 := K4.out.at_.made.c2
  go_wp2_with (at_builtin; go_must (refine wpList_push (o := ⟨some 45, _, _, _, _, _⟩) rfl (.tmp 41) (.tmp 44) rfl ob g.cp g.cn g.cc rfl (K4.out.alloc _).at_.l2 _ (⟨#[99]⟩ ++ (m ++ dg)) rfl (by simp [go_sem]) (show g.nm _ from ⟨by simp [ByteArray.size_append, lit_size]; omega, g.Φ.n_c HLT.out HDG.out⟩) (by have h1 : g.fn + g.cn + g.mn ≤ c := K4.out.at_.cnt; have := K4.out.at_.few; omega) (K4.out.alloc _).at_.siz ?_; intro v' d' w7 hp7; obtain ⟨⟨g7, hk7⟩, ⟨u7, hcl⟩, hfz⟩ := (K4.out.alloc _).push2 hp7 (by omega); have K7 := Lib.hid hk7; clear hp7 hk7 c2))
  go_ret
  exact ⟨_, g7, ⟨by simp [ByteArray.size_append, lit_size]; omega, g.Φ.t_const (by omega) HLT.out HDG.out Qt.out⟩, rfl, K7.out⟩
 ·have c7 := K2.out.at_.made.c7
  have hf := K2.out.at_.warm 7
  have K3 := Lib.hid (K2.out.flag true)
  have K4 := Lib.hid (ItemAt.start K3.out.1)
  have V4 := Lib.hid (size_box (vars_one K4.out.at_.made ⟨#[101]⟩ ⟨by decide, g.Φ.n_e⟩ 9))
  go_wp2_with fail
  clear c7 hf
  refine (int_flag g true _ 1 1 _ (K4.out.alloc _).at_.made V4.out (by omega)).mono ?_
  rintro e w5 ⟨t, ⟨zt, qt⟩, rfl, ht⟩
  have Qt := Lib.hid qt
  clear qt
  have K5 := Lib.hid ((K4.out.alloc _).went ht)
  clear ht
  have c7 := K5.out.at_.made.c7
  have hf := K5.out.at_.warm 7
  simp only at c7 hf
  have K6 : Hid (ItemAt ob c g { g with macro_ := false } w (w5.setCell ⟨g.P, 7, none⟩ (.bool false))) := by
   have h := K5.out.flag false
   exact ⟨h.1, (K2.out.fr.trans ((Fr.refl _ _ _ _).trans (flag_fr K2.out true))).trans h.2, rfl, rfl, HM.out.symm, rfl⟩
  have S6 := Lib.hid (size_boxQ (strs_four (φ := fun s => s.size ≤ 174 ∧ g.Φ.S 6 s) ⟨by decide, g.Φ.s_up g.Φ.m_1 (by omega)⟩ ⟨by decide, g.Φ.s_up g.Φ.m_2 (by omega)⟩ ⟨by decide, g.Φ.s_up g.Φ.m_3 (by omega)⟩ ⟨zt, Qt.out⟩ 9 (w5.setCell ⟨g.P, 7, none⟩ (.bool false))))
  go_wp2_with fail
  clear c7 hf
  refine (ofS_any (fun s => s.size ≤ 174 ∧ g.Φ.S 6 s) g.d 4 _ _ _ _ (K6.out.alloc _).at_.made.dice (by omega) (by omega) S6.out (away_set K6.out.at_.made.dice)).mono ?_
  rintro e w7 ⟨u, ⟨zu, qu⟩, rfl, ht⟩
  have Qu := Lib.hid qu
  clear qu
  have K8 := Lib.hid ((K6.out.alloc _).thrown ht)
  clear ht
  have c3 := K8.out.at_.made.c3
  go_wp2_with (at_builtin; go_must (refine wpList_push (o := ⟨some 77, _, _, _, _, _⟩) rfl (.tmp 73) (.tmp 76) rfl ob g.mp g.mn g.mc rfl (K8.out.alloc _).at_.l3 _ (⟨#[109]⟩ ++ (m ++ dg)) rfl (by simp [go_sem]) (show g.nm _ from ⟨by simp [ByteArray.size_append, lit_size]; omega, g.Φ.n_m HLT.out HDG.out⟩) (by have h1 : g.fn + g.cn + g.mn ≤ c := K8.out.at_.cnt; have := K8.out.at_.few; omega) (K8.out.alloc _).at_.siz ?_; intro v' d' w7 hp7; obtain ⟨⟨g7, hk7⟩, ⟨u7, hcl⟩, hfz⟩ := (K8.out.alloc _).push3 hp7 (by omega); have K7 := Lib.hid hk7; clear hp7 hk7 c3))
  go_ret
  exact ⟨_, g7, ⟨by simp [ByteArray.size_append, lit_size]; omega, g.Φ.t_mac (by omega) HLT.out HDG.out Qu.out⟩, rfl, K7.out⟩
 ·go_wp2_with fail
  refine (int_1 g 1 _ 2 2 _ (by omega) (by omega) (K2.out.alloc _).at_.made (vars_two K2.out.at_.made ⟨#[97]⟩ ⟨#[98]⟩ ⟨by decide, g.Φ.n_a⟩ ⟨by decide, g.Φ.n_b⟩ _) (by omega)).mono ?_
  rintro e w4 ⟨t, ⟨zt, qt⟩, rfl, ht⟩
  have Qt := Lib.hid qt
  clear qt
  have K4 := Lib.hid ((K2.out.alloc _).went ht)
  clear ht
  have c1 := K4.out.at_.made.c1
  go_wp2_with (at_builtin; go_must (refine wpList_push (o := ⟨some 102, _, _, _, _, _⟩) rfl (.tmp 98) (.tmp 101) rfl ob g.fp g.fn g.fc rfl (K4.out.alloc _).at_.l1 _ (⟨#[102]⟩ ++ (m ++ dg)) rfl (by simp [go_sem]) (show g.nm _ from ⟨by simp [ByteArray.size_append, lit_size]; omega, g.Φ.n_f HLT.out HDG.out⟩) (by have h1 : g.fn + g.cn + g.mn ≤ c := K4.out.at_.cnt; have := K4.out.at_.few; omega) (K4.out.alloc _).at_.siz ?_; intro v' d' w7 hp7; obtain ⟨⟨g7, hk7⟩, ⟨u7, hcl⟩, hfz⟩ := (K4.out.alloc _).push1 hp7 (by omega); have K7 := Lib.hid hk7; clear hp7 hk7 c1))
  go_ret
  exact ⟨_, g7, ⟨by simp [ByteArray.size_append, lit_size]; omega, g.Φ.t_rec (by omega) HLT.out HDG.out Qt.out⟩, rfl, K7.out⟩
 ·have _ := hk
  have c1 := K2.out.at_.made.c1
  go_wp2_with (at_builtin; go_must (refine wpList_push (o := ⟨some 128, _, _, _, _, _⟩) rfl (.tmp 124) (.tmp 127) rfl ob g.fp g.fn g.fc rfl (K2.out.alloc _).at_.l1 _ (⟨#[102]⟩ ++ (m ++ dg)) rfl (by simp [go_sem]) (show g.nm _ from ⟨by simp [ByteArray.size_append, lit_size]; omega, g.Φ.n_f HLT.out HDG.out⟩) (by have h1 : g.fn + g.cn + g.mn ≤ c := K2.out.at_.cnt; have := K2.out.at_.few; omega) (K2.out.alloc _).at_.siz ?_; intro v' d' w7 hp7; obtain ⟨⟨g7, hk7⟩, ⟨u7, hcl⟩, hfz⟩ := (K2.out.alloc _).push1 hp7 (by omega); have K7 := Lib.hid hk7; clear hp7 hk7 c1))
  go_ret
  exact ⟨_, g7, ⟨by simp [ByteArray.size_append, lit_size]; omega, g.Φ.t_gen HLT.out HDG.out⟩, rfl, K7.out⟩
 ·go_wp2_with fail
  refine (nextI_any g.d 3 _ K2.out.at_.made.dice (by omega) (by omega)).mono ?_
  rintro e w3 ⟨y, hy, rfl, ht, -⟩
  have K3 := Lib.hid (K2.out.thrown ht)
  clear ht
  go_wp2_with fail
  refine (blk_3 g (1 + (y : Int)) _ 2 2 _ (by omega) (by omega) (K3.out.alloc _).at_.made (vars_two K3.out.at_.made ⟨#[97]⟩ ⟨#[98]⟩ ⟨by decide, g.Φ.n_a⟩ ⟨by decide, g.Φ.n_b⟩ _) (by omega)).mono ?_
  rintro e w4 ⟨t, ⟨zt, qt⟩, rfl, ht⟩
  have Qt := Lib.hid qt
  clear qt
  have K4 := Lib.hid ((K3.out.alloc _).went ht)
  clear ht
  have c1 := K4.out.at_.made.c1
  go_wp2_with (at_builtin; go_must (refine wpList_push (o := ⟨some 150, _, _, _, _, _⟩) rfl (.tmp 146) (.tmp 149) rfl ob g.fp g.fn g.fc rfl (K4.out.alloc _).at_.l1 _ (⟨#[102]⟩ ++ (m ++ dg)) rfl (by simp [go_sem]) (show g.nm _ from ⟨by simp [ByteArray.size_append, lit_size]; omega, g.Φ.n_f HLT.out HDG.out⟩) (by have h1 : g.fn + g.cn + g.mn ≤ c := K4.out.at_.cnt; have := K4.out.at_.few; omega) (K4.out.alloc _).at_.siz ?_; intro v' d' w7 hp7; obtain ⟨⟨g7, hk7⟩, ⟨u7, hcl⟩, hfz⟩ := (K4.out.alloc _).push1 hp7 (by omega); have K7 := Lib.hid hk7; clear hp7 hk7 c1))
  go_ret
  exact ⟨_, g7, ⟨by simp [ByteArray.size_append, lit_size]; omega, g.Φ.t_fn (by omega) HLT.out HDG.out Qt.out⟩, rfl, K7.out⟩
 ·go_wp2_with fail
  refine (nextI_any g.d 3 _ K2.out.at_.made.dice (by omega) (by omega)).mono ?_
  rintro e w3 ⟨y, hy, rfl, ht, -⟩
  have K3 := Lib.hid (K2.out.thrown ht)
  clear ht
  go_wp2_with fail
  refine (blk_3 g (1 + (y : Int)) _ 2 2 _ (by omega) (by omega) (K3.out.alloc _).at_.made (vars_two K3.out.at_.made ⟨#[97]⟩ ⟨#[98]⟩ ⟨by decide, g.Φ.n_a⟩ ⟨by decide, g.Φ.n_b⟩ _) (by omega)).mono ?_
  rintro e w4 ⟨t, ⟨zt, qt⟩, rfl, ht⟩
  have Qt := Lib.hid qt
  clear qt
  have K4 := Lib.hid ((K3.out.alloc _).went ht)
  clear ht
  have c1 := K4.out.at_.made.c1
  go_wp2_with (at_builtin; go_must (refine wpList_push (o := ⟨some 150, _, _, _, _, _⟩) rfl (.tmp 146) (.tmp 149) rfl ob g.fp g.fn g.fc rfl (K4.out.alloc _).at_.l1 _ (⟨#[102]⟩ ++ (m ++ dg)) rfl (by simp [go_sem]) (show g.nm _ from ⟨by simp [ByteArray.size_append, lit_size]; omega, g.Φ.n_f HLT.out HDG.out⟩) (by have h1 : g.fn + g.cn + g.mn ≤ c := K4.out.at_.cnt; have := K4.out.at_.few; omega) (K4.out.alloc _).at_.siz ?_; intro v' d' w7 hp7; obtain ⟨⟨g7, hk7⟩, ⟨u7, hcl⟩, hfz⟩ := (K4.out.alloc _).push1 hp7 (by omega); have K7 := Lib.hid hk7; clear hp7 hk7 c1))
  go_ret
  exact ⟨_, g7, ⟨by simp [ByteArray.size_append, lit_size]; omega, g.Φ.t_fn (by omega) HLT.out HDG.out Qt.out⟩, rfl, K7.out⟩
end Go.Proofs.YtheigpiffdabnaaGreat
namespace Go.Proofs.YtheigpiffdabnaaGreat
open Go Go.RowKit
def rowS (L : List ByteArray) : Array Value := (L.map Value.string).toArray
theorem rowS_set (L : List ByteArray) (i : Nat) (s : ByteArray) : rowS (L.set i s) = (rowS L).setIfInBounds i (.string s) := by unfold rowS; rw [List.map_set]; simp
theorem rowS_at (L : List ByteArray) (i : Nat) (h : i < L.length) : (rowS L)[i]? = some (.string L[i]) := by simp [rowS, h]
/-- the program, and the texts -/
structure SrcL (Φ : Gp) (w0 : World) (d : Dice) (Tx c : Nat) (g : Made) (L : List ByteArray) (w : World) : Prop where
 prog : ProgAt (Tx + 1) c g w
 txt : w.heap[Tx]? = some (.cells (rowS L) 9 (0, 0))
 fr : Fr w0.heap.size d.D w0.heap.size w0 w
 d : g.d = d
 P : g.P = w0.heap.size
 mac : g.macro_ = false
 PT : w0.heap.size < Tx
 phi : g.Φ = Φ
 txs : ∀ s ∈ L, Φ.T s
theorem SrcL.go {Φ : Gp} {w0 : World} {d : Dice} {Tx c c' : Nat} {g g' : Made} {L : List ByteArray} {w w' : World} (h : SrcL Φ w0 d Tx c g L w) (k : ProgAt (Tx + 1) c' g' w') (f : Fr (Tx + 1) g.d.D g.P w w') (e1 : g'.d = g.d) (e2 : g'.P = g.P) (e3 : g'.macro_ = false) (e4 : g'.Φ = g.Φ) : SrcL Φ w0 d Tx c' g' L w' := by
 have hlow := h.prog.low
 have hP := h.P
 have hPT := h.PT
 have hd : g.d.D = d.D := by rw [h.d]
 refine ⟨k, by rw [f.block Tx (by omega) (by omega) (by omega)]; exact h.txt, h.fr.trans ⟨f.os, f.tape, f.output, f.size, fun x h1 h2 h3 => f.block x (by omega) (by omega) (by omega), fun a h1 h2 => f.dcell a (by omega) (by rw [hd]; exact h2), fun a h1 => f.dfrozen a (by omega)⟩, e1.trans h.d, e2.trans h.P, e3, h.PT, e4.trans h.phi, h.txs⟩
theorem SrcL.went {Φ : Gp} {w0 : World} {d : Dice} {Tx c : Nat} {g : Made} {L : List ByteArray} {w w' : World} (h : SrcL Φ w0 d Tx c g L w) (k : Went g w w') : SrcL Φ w0 d Tx c g L w' := h.go (h.prog.went k) (Fr.went h.prog k) rfl rfl h.mac rfl
theorem SrcL.thrown {Φ : Gp} {w0 : World} {d : Dice} {Tx c : Nat} {g : Made} {L : List ByteArray} {w w' : World} (h : SrcL Φ w0 d Tx c g L w) (k : Thrown g.d w w') : SrcL Φ w0 d Tx c g L w' := h.went (went_thrown h.prog.made k)
theorem SrcL.below {Φ : Gp} {w0 : World} {d : Dice} {Tx c : Nat} {g : Made} {L : List ByteArray} {w w' : World} (h : SrcL Φ w0 d Tx c g L w) (k : Below w.heap.size w w') : SrcL Φ w0 d Tx c g L w' := h.went (went_below h.prog.made k)
theorem SrcL.alloc {Φ : Gp} {w0 : World} {d : Dice} {Tx c : Nat} {g : Made} {L : List ByteArray} {w : World} (h : SrcL Φ w0 d Tx c g L w) (o : Obj) : SrcL Φ w0 d Tx c g L (w.alloc o) := h.went (went_alloc h.prog.made o)
theorem SrcL.drew {Φ : Gp} {w0 : World} {d : Dice} {Tx c : Nat} {g : Made} {L : List ByteArray} {w : World} (h : SrcL Φ w0 d Tx c g L w) : SrcL Φ w0 d Tx c g L w.drew := h.went (went_drewN h.prog.made 1)
theorem SrcL.cell {Φ : Gp} {w0 : World} {d : Dice} {Tx c : Nat} {g : Made} {L : List ByteArray} {w : World} (h : SrcL Φ w0 d Tx c g L w) (i : Nat) (hi : i < L.length) : w.cell? ⟨Tx, i, none⟩ = some (.string L[i]) := by rw [Lib.cell_of_heap h.txt, rowS_at L i hi]
theorem SrcL.warm {Φ : Gp} {w0 : World} {d : Dice} {Tx c : Nat} {g : Made} {L : List ByteArray} {w : World} (h : SrcL Φ w0 d Tx c g L w) (i : Nat) : w.frozen? ⟨Tx, i, none⟩ = false := Lib.frozen_of_heap h.txt i
/-- a store into a block apart -/
theorem ProgAt.apart {ob c : Nat} {g : Made} {w w' : World} {Tx : Nat} (h : ProgAt ob c g w) (hb : But (fun a => a.block = Tx) w w') (h1 : g.P < Tx) (h2 : Tx < ob) : ProgAt ob c g w' := by
 have hlow := h.low
 have nP : ∀ i, ¬ ((⟨g.P, i, none⟩ : Addr).block = Tx) := fun i => by show ¬ g.P = Tx; omega
 have nD : ∀ i, ¬ ((⟨g.d.D, i, none⟩ : Addr).block = Tx) := fun i => by show ¬ g.d.D = Tx; omega
 have nR : ∀ b o i, g.d.p = some ⟨b, o, none⟩ → ¬ ((⟨b, i, none⟩ : Addr).block = Tx) := fun b o i e => by have := h.row b o e; show ¬ b = Tx; omega
 have hm : ∀ a : Addr, a.block = Tx → a.block < ob := fun a e => by omega
 have kd := hb.keep h.made.dice.at_ (nD 1)
 have k6 := hb.keep h.made.c6 (nP 6)
 have ev : varsOf g.P w' = varsOf g.P w := varsOf_eq k6
 have ea : atOf g.d.D w' = atOf g.d.D w := atOf_eq kd
 have l1 := h.l1.keep hb hm
 have l2 := h.l2.keep hb hm
 have l3 := h.l3.keep hb hm
 have hD : g.d.D < ob := by omega
 have hP : g.P < ob := by omega
 refine ⟨⟨h.made.dice.keep hb (nD 0) nR kd h.made.dice.le, h.made.apart, h.made.rowP, hb.keep h.made.c0 (nP 0), hb.keep h.made.c1 (nP 1), hb.keep h.made.c2 (nP 2), hb.keep h.made.c3 (nP 3), hb.keep h.made.c4 (nP 4), hb.keep h.made.c5 (nP 5), by rw [ev]; exact k6, hb.keep h.made.c7 (nP 7),
  by rw [hb.frozen _ (World.block_lt_of_cell? w _ h.made.c6)]; exact h.made.warm, l1.vars hD hP, l2.vars hD hP, l3.vars hD hP, h.made.few, by rw [ev, ea]; exact h.made.credit⟩, h.low, h.row, h.pob,
  fun i => (hb.frozen ⟨g.P, i, none⟩ (World.block_lt_of_cell? w _ h.made.c6 : g.P < w.heap.size)).trans (h.warm i), Nat.le_trans h.siz hb.size, l1, l2, l3, h.o12, h.o13, h.o21, h.o23, h.o31, h.o32, h.cnt, h.few⟩
theorem SrcL.store {Φ : Gp} {w0 : World} {d : Dice} {Tx c : Nat} {g : Made} {L : List ByteArray} {w : World} (h : SrcL Φ w0 d Tx c g L w) (i : Nat) (s : ByteArray) (hs : Φ.T s) : SrcL Φ w0 d Tx c g (L.set i s) (w.setCell ⟨Tx, i, none⟩ (.string s)) := by
 have hb : But (fun a => a.block = Tx) w (w.setCell ⟨Tx, i, none⟩ (.string s)) := But.setCell w _ _ rfl
 have hP := h.P
 have hPT := h.PT
 have hlow := h.prog.low
 have hd : g.d.D = d.D := by rw [h.d]
 refine ⟨h.prog.apart hb (by omega) (by omega), by rw [rowS_set]; exact heap_setCell_same _ _ _ _ _ _ h.txt, h.fr.trans (Fr.of_blocks hb.os hb.tape hb.output hb.size (fun k h1 h2 => Below.heap_setCell _ _ _ _ (by show k ≠ Tx; omega)) (by omega) (by omega)), h.d, h.P, h.mac, h.PT, h.phi, fun x hx => (List.mem_or_eq_of_mem_set hx).elim (h.txs x) (fun e => e ▸ hs)⟩
/-- the program and the texts stay as they are -/
def LeS (Φ : Gp) (w0 : World) (d : Dice) (Tx c : Nat) (g : Made) (L : List ByteArray) (w w' : World) : Prop := SrcL Φ w0 d Tx c g L w → SrcL Φ w0 d Tx c g L w'
theorem LeS.refl (Φ : Gp) (w0 : World) (d : Dice) (Tx c : Nat) (g : Made) (L : List ByteArray) (w : World) : LeS Φ w0 d Tx c g L w w := fun h => h
theorem LeS.trans (Φ : Gp) (w0 : World) (d : Dice) (Tx c : Nat) (g : Made) (L : List ByteArray) (a b e : World) (h : LeS Φ w0 d Tx c g L a b) (k : LeS Φ w0 d Tx c g L b e) : LeS Φ w0 d Tx c g L a e := fun x => k (h x)
theorem base_any (w : World) : Calls Tryz.prog 15 #[] w fun e w' => ∃ s : ByteArray, (s.size ≤ 400 ∧ IsBase s) ∧ e = .returned (.string s) ∧ w' = w := by
 go_enter Tryz.func15, Tryz.ntmps15
 go_wp2
 go_ret
 exact ⟨_, ⟨by decide +kernel, by unfold IsBase baseL; decide +kernel⟩, rfl, rfl⟩
/-- two short strings in a block -/
def UseP (s : ByteArray) : Prop := s.size ≤ 8 ∧ IsUse s
theorem use_1 : UseP ⟨#[117, 115, 101, 32]⟩ := ⟨by decide, .inl rfl⟩
theorem use_2 : UseP ⟨#[112, 117, 98, 32, 117, 115, 101, 32]⟩ := ⟨by decide, .inr rfl⟩
def tyTwo (g : Made) : Ty (LeM g) := ⟨{b : Nat // True}, ⟨⟨0, trivial⟩⟩, fun b => .slice (some ⟨b.1, 0, none⟩) 2 2, fun b w => MadeAt g w ∧ Strs UseP w (some ⟨b.1, 0, none⟩) 2 ∧ b.1 ≠ g.d.D ∧ b.1 ≠ g.P, fun x w w' hl h =>
 ⟨(hl h.1).good, h.2.1.keep (hl h.1).but (fun b o i e q => by
  injection e with e; injection e with e _ _
  rcases q with q | q
  ·injection q with q _ _; exact h.2.2.1 (e.trans q)
  ·injection q with q _ _; exact h.2.2.2 (e.trans q)), h.2.2⟩⟩
theorem tyTwo_f (g : Made) (b : Nat) (hb : True) : (tyTwo g).f ⟨b, hb⟩ = .slice (some ⟨b, 0, none⟩) 2 2 := rfl
theorem tyTwo_p (g : Made) (b : Nat) (hb : True) (w : World) : (tyTwo g).φ ⟨b, hb⟩ w = (MadeAt g w ∧ Strs UseP w (some ⟨b, 0, none⟩) 2 ∧ b ≠ g.d.D ∧ b ≠ g.P) := rfl
theorem two_new {g : Made} {w : World} (h : MadeAt g w) (a b : ByteArray) (ha : UseP a) (hb : UseP b) (t : TypeId) : MadeAt g (w.alloc (.cells #[.string a, .string b] t)) ∧ Strs UseP (w.alloc (.cells #[.string a, .string b] t)) (some ⟨w.heap.size, 0, none⟩) 2 ∧ w.heap.size ≠ g.d.D ∧ w.heap.size ≠ g.P := by
 have hP := World.block_lt_of_cell? w _ h.c6
 simp only at hP
 exact ⟨(went_alloc h _).good, strs_two ha hb t w, away_new h.dice, by omega⟩
theorem fact_in {md : Region.Mode} {o : Oper} {F : Facts} {w : World} (h : leans md o F w) {j : Nat} (hj : (o.after.any fun e => Region.binds md e && (e.on == j)) = true) : F j w := by
 obtain ⟨e, he, h2⟩ := Array.any_eq_true'.1 hj
 simp only [Bool.and_eq_true, beq_iff_eq] at h2
 rw [← h2.2]
 exact h e he h2.1
theorem set_le {L : List ByteArray} {B B2 i : Nat} {s : ByteArray} (h : ∀ x ∈ L, x.size ≤ B) (hs : s.size ≤ B2) (hB : B ≤ B2) : ∀ x ∈ L.set i s, x.size ≤ B2 := by
 intro x hx
 rcases List.mem_or_eq_of_mem_set hx with hx | rfl
 ·have := h x hx; omega
 ·exact hs
end Go.Proofs.YtheigpiffdabnaaGreat
