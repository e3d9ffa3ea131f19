/-
  CONTRACTS: the making of an item: a text of at most 1500 bytes, and a name more in a list.
-/
import Derived.Test.YtnkojbnkdihbkaaGreatZB4
import Derived.Test.YtnkojbnkdihbkaaGreatZA1
import Derived.Test.YtnkojbnkdihbkaaGreatZB1
import Derived.Deep.CutRange
namespace Go.Proofs.YtnkojbnkdihbkaaGreat
open Go Go.RowKit
set_option linter.unusedVariables false
set_option linter.unusedSimpArgs false

/-- a flag or a list of the program has been set, or nothing: the program goes on -/
structure ItemAt (ob c : Nat) (g0 g : Made) (w0 w : World) : Prop where
  at_ : ProgAt ob c g w
  fr : Fr ob g0.d.D g0.P w0 w
  d : g.d = g0.d
  P : g.P = g0.P
  mac : g.macro_ = g0.macro_
theorem ItemAt.start {ob c : Nat} {g : Made} {w : World} (h : ProgAt ob c g w) : ItemAt ob c g g w w := ⟨h, Fr.refl _ _ _ _, rfl, rfl, rfl⟩
theorem ItemAt.went {ob c : Nat} {g0 g : Made} {w0 w w' : World} (h : ItemAt ob c g0 g w0 w) (k : Went g w w') : ItemAt ob c g0 g w0 w' :=
  ⟨h.at_.went k, h.fr.trans ((Fr.went h.at_ k).cast (by rw [h.d]) h.P), h.d, h.P, h.mac⟩
theorem ItemAt.thrown {ob c : Nat} {g0 g : Made} {w0 w w' : World} (h : ItemAt ob c g0 g w0 w) (k : Thrown g.d w w') : ItemAt ob c g0 g w0 w' := h.went (went_thrown h.at_.made k)
theorem ItemAt.below {ob c : Nat} {g0 g : Made} {w0 w w' : World} (h : ItemAt ob c g0 g w0 w) (k : Below w.heap.size w w') : ItemAt ob c g0 g w0 w' := h.went (went_below h.at_.made k)
theorem ItemAt.alloc {ob c : Nat} {g0 g : Made} {w0 w : World} (h : ItemAt ob c g0 g w0 w) (o : Obj) : ItemAt ob c g0 g w0 (w.alloc o) := h.went (went_alloc h.at_.made o)

theorem ItemAt.push1 {ob c : Nat} {g0 g : Made} {w0 w w1 : World} {v : Value} (h : ItemAt ob c g0 g w0 w) (k : Pushed ob w g.fp g.fn g.fc v w1) (hc : c + 1 ≤ 90) : (∃ g', ItemAt ob (c + 1) g0 g' w0 (w1.setCell ⟨g.P, 1, none⟩ v)) ∧ (∃ u, w1.cell? ⟨g.P, 1, none⟩ = some u) ∧ w1.frozen? ⟨g.P, 1, none⟩ = false := by
  obtain ⟨⟨p', c', rfl, hl⟩, hg, ho⟩ := k
  have k : Pushed ob w g.fp g.fn g.fc (.slice p' (g.fn + 1) c') w1 := ⟨⟨p', c', rfl, hl⟩, hg, ho⟩
  obtain ⟨a1, a2, a3⟩ := k.stands h.at_.l2 h.at_.o21 h.at_.o12
  obtain ⟨b1, b2, b3⟩ := k.stands h.at_.l3 h.at_.o31 h.at_.o13
  have hb := k.below h.at_.l1 h.at_.siz
  have hcnt := h.at_.cnt
  refine ⟨⟨{ g with fp := p', fn := g.fn + 1, fc := c' }, ?_⟩, ⟨_, (hb.cell (p := ⟨g.P, 1, none⟩) h.at_.pob).trans h.at_.made.c1⟩, (hb.frozen (p := ⟨g.P, 1, none⟩) h.at_.pob).trans (h.at_.warm 1)⟩
  have := h.at_.put (g' := { g with fp := p', fn := g.fn + 1, fc := c' }) (c2 := c + 1) hb (j := 1) (by omega) rfl rfl (fun i hi hi2 => by rcases hi2 with rfl | rfl | rfl | rfl | rfl | rfl <;> first | rfl | exact absurd rfl hi) hl a1 b1 a3 b3 a2 h.at_.o23 b2 h.at_.o32 (by simp only; omega) hc
  exact ⟨this.1, h.fr.trans (this.2.cast (by rw [h.d]) h.P), h.d, h.P, h.mac⟩
theorem ItemAt.push2 {ob c : Nat} {g0 g : Made} {w0 w w1 : World} {v : Value} (h : ItemAt ob c g0 g w0 w) (k : Pushed ob w g.cp g.cn g.cc v w1) (hc : c + 1 ≤ 90) : (∃ g', ItemAt ob (c + 1) g0 g' w0 (w1.setCell ⟨g.P, 2, none⟩ v)) ∧ (∃ u, w1.cell? ⟨g.P, 2, none⟩ = some u) ∧ w1.frozen? ⟨g.P, 2, none⟩ = false := by
  obtain ⟨⟨p', c', rfl, hl⟩, hg, ho⟩ := k
  have k : Pushed ob w g.cp g.cn g.cc (.slice p' (g.cn + 1) c') w1 := ⟨⟨p', c', rfl, hl⟩, hg, ho⟩
  obtain ⟨a1, a2, a3⟩ := k.stands h.at_.l1 h.at_.o12 h.at_.o21
  obtain ⟨b1, b2, b3⟩ := k.stands h.at_.l3 h.at_.o32 h.at_.o23
  have hb := k.below h.at_.l2 h.at_.siz
  have hcnt := h.at_.cnt
  refine ⟨⟨{ g with cp := p', cn := g.cn + 1, cc := c' }, ?_⟩, ⟨_, (hb.cell (p := ⟨g.P, 2, none⟩) h.at_.pob).trans h.at_.made.c2⟩, (hb.frozen (p := ⟨g.P, 2, none⟩) h.at_.pob).trans (h.at_.warm 2)⟩
  have := h.at_.put (g' := { g with cp := p', cn := g.cn + 1, cc := c' }) (c2 := c + 1) hb (j := 2) (by omega) rfl rfl (fun i hi hi2 => by rcases hi2 with rfl | rfl | rfl | rfl | rfl | rfl <;> first | rfl | exact absurd rfl hi) a1 hl b1 a2 h.at_.o13 a3 b3 h.at_.o31 b2 (by simp only; omega) hc
  exact ⟨this.1, h.fr.trans (this.2.cast (by rw [h.d]) h.P), h.d, h.P, h.mac⟩
theorem ItemAt.push3 {ob c : Nat} {g0 g : Made} {w0 w w1 : World} {v : Value} (h : ItemAt ob c g0 g w0 w) (k : Pushed ob w g.mp g.mn g.mc v w1) (hc : c + 1 ≤ 90) : (∃ g', ItemAt ob (c + 1) g0 g' w0 (w1.setCell ⟨g.P, 3, none⟩ v)) ∧ (∃ u, w1.cell? ⟨g.P, 3, none⟩ = some u) ∧ w1.frozen? ⟨g.P, 3, none⟩ = false := by
  obtain ⟨⟨p', c', rfl, hl⟩, hg, ho⟩ := k
  have k : Pushed ob w g.mp g.mn g.mc (.slice p' (g.mn + 1) c') w1 := ⟨⟨p', c', rfl, hl⟩, hg, ho⟩
  obtain ⟨a1, a2, a3⟩ := k.stands h.at_.l1 h.at_.o13 h.at_.o31
  obtain ⟨b1, b2, b3⟩ := k.stands h.at_.l2 h.at_.o23 h.at_.o32
  have hb := k.below h.at_.l3 h.at_.siz
  have hcnt := h.at_.cnt
  refine ⟨⟨{ g with mp := p', mn := g.mn + 1, mc := c' }, ?_⟩, ⟨_, (hb.cell (p := ⟨g.P, 3, none⟩) h.at_.pob).trans h.at_.made.c3⟩, (hb.frozen (p := ⟨g.P, 3, none⟩) h.at_.pob).trans (h.at_.warm 3)⟩
  have := h.at_.put (g' := { g with mp := p', mn := g.mn + 1, mc := c' }) (c2 := c + 1) hb (j := 3) (by omega) rfl rfl (fun i hi hi2 => by rcases hi2 with rfl | rfl | rfl | rfl | rfl | rfl <;> first | rfl | exact absurd rfl hi) a1 b1 hl h.at_.o12 a2 h.at_.o21 b2 a3 b3 (by simp only; omega) hc
  exact ⟨this.1, h.fr.trans (this.2.cast (by rw [h.d]) h.P), h.d, h.P, h.mac⟩

/-- the flag of macros -/
theorem ItemAt.flag {ob c : Nat} {g0 g : Made} {w0 w : World} (h : ItemAt ob c g0 g w0 w) (b : Bool) : ProgAt ob c { g with macro_ := b } (w.setCell ⟨g.P, 7, none⟩ (.bool b)) ∧ Fr ob g0.d.D g0.P w0 (w.setCell ⟨g.P, 7, none⟩ (.bool b)) := by
  have := h.at_.put (g' := { g with macro_ := b }) (c2 := c) (Below.refl ob w) (j := 7) (by omega) rfl rfl (fun i hi hi2 => by rcases hi2 with rfl | rfl | rfl | rfl | rfl | rfl <;> first | rfl | exact absurd rfl hi) h.at_.l1 h.at_.l2 h.at_.l3 h.at_.o12 h.at_.o13 h.at_.o21 h.at_.o23 h.at_.o31 h.at_.o32 h.at_.cnt h.at_.few
  exact ⟨this.1, h.fr.trans (this.2.cast (by rw [h.d]) h.P)⟩
/-- the flags of records -/
theorem ProgAt.flags {ob c : Nat} {g : Made} {w : World} (h : ProgAt ob c g w) : ∃ g', g'.d = g.d ∧ g'.P = g.P ∧ g'.macro_ = g.macro_ ∧ ProgAt ob c g' ((w.setCell ⟨g.P, 4, none⟩ (.bool true)).setCell ⟨g.P, 5, none⟩ (.bool true)) ∧ Fr ob g.d.D g.P w ((w.setCell ⟨g.P, 4, none⟩ (.bool true)).setCell ⟨g.P, 5, none⟩ (.bool true)) := by
  have h1 := h.put (g' := { g with records := true }) (c2 := c) (Below.refl ob w) (j := 4) (by omega) rfl rfl (fun i hi hi2 => by rcases hi2 with rfl | rfl | rfl | rfl | rfl | rfl <;> first | rfl | exact absurd rfl hi) h.l1 h.l2 h.l3 h.o12 h.o13 h.o21 h.o23 h.o31 h.o32 h.cnt h.few
  have k := h1.1
  have h2 := k.put (g' := { g with records := true, shows := true }) (c2 := c) (Below.refl ob _) (j := 5) (by omega) rfl rfl (fun i hi hi2 => by rcases hi2 with rfl | rfl | rfl | rfl | rfl | rfl <;> first | rfl | exact absurd rfl hi) k.l1 k.l2 k.l3 k.o12 k.o13 k.o21 k.o23 k.o31 k.o32 k.cnt k.few
  exact ⟨{ g with records := true, shows := true }, rfl, rfl, rfl, h2.1, h1.2.trans h2.2⟩

def MadeItemPost (ob c : Nat) (g : Made) (w : World) (e : Ending) (w' : World) : Prop := ∃ (s : ByteArray) (g' : Made), s.size ≤ 1500 ∧ e = .returned (.string s) ∧ ItemAt ob (c + 1) g g' w w'

theorem vars_nil (g : Made) (w : World) : Vars g w none 0 := ⟨fun i hi => absurd hi (by omega), fun b o e => by cases e⟩
theorem vars_one {g : Made} {w : World} (h : MadeAt g w) (s : ByteArray) (hs : s.size ≤ 8) (t : TypeId) : Vars g (w.alloc (.cells #[.string s] t)) (some ⟨w.heap.size, 0, none⟩) 1 := by
  have hD := World.block_lt_of_cell? w _ h.dice.at_
  have hP := World.block_lt_of_cell? w _ h.c6
  simp only at hD hP
  refine ⟨fun i hi => ?_, fun b o e => ?_⟩
  · have e : i = 0 := by omega
    subst e
    exact ⟨_, 0, s, rfl, by simp [go_sem], hs⟩
  · injection e with e; injection e with e _ _; omega
theorem vars_two {g : Made} {w : World} (h : MadeAt g w) (a b : ByteArray) (ha : a.size ≤ 8) (hb : b.size ≤ 8) (t : TypeId) : Vars g (w.alloc (.cells #[.string a, .string b] t)) (some ⟨w.heap.size, 0, none⟩) 2 := by
  have hD := World.block_lt_of_cell? w _ h.dice.at_
  have hP := World.block_lt_of_cell? w _ h.c6
  simp only at hD hP
  refine ⟨shorts_two a b ha hb t w, fun x o e => ?_⟩
  injection e with e; injection e with e _ _; omega

theorem size_set (w : World) (a : Addr) (u : Value) : (w.setCell a u).heap.size = w.heap.size := by simp [World.setCell]
theorem size_box {g : Made} {w W : World} {a : Addr} {u : Value} {n : Nat} (h : Vars g W (some ⟨(w.setCell a u).heap.size, 0, none⟩) n) : Vars g W (some ⟨w.heap.size, 0, none⟩) n := by rwa [size_set] at h
theorem size_boxS {N : Nat} {w W : World} {a : Addr} {u : Value} {n : Nat} (h : Shorts N W (some ⟨(w.setCell a u).heap.size, 0, none⟩) n) : Shorts N W (some ⟨w.heap.size, 0, none⟩) n := by rwa [size_set] at h
theorem away_set {d : Dice} {w : World} {a : Addr} {u : Value} (h : DiceAt d (w.setCell a u)) : w.heap.size ≠ d.D := by have := away_new h; rwa [size_set] at this
theorem int_flag (g : Made) (b : Bool) (p : Option Addr) (n cap : Nat) (w : World) (hg : MadeAt { g with macro_ := b } w) (hv : Vars { g with macro_ := b } w p n) (hn : n ≤ 10) :
    Calls Tryz.prog 62 #[.pointer (some ⟨g.P, 0, none⟩), .int .i64 1, .slice p n cap] w fun e w' => ∃ s : ByteArray, s.size ≤ 174 ∧ e = .returned (.string s) ∧ Went { g with macro_ := b } w w' :=
  int_1 { g with macro_ := b } 1 p n cap w (by omega) (by omega) hg hv (by omega)
theorem flag_fr {ob c : Nat} {g0 g : Made} {w0 w : World} (h : ItemAt ob c g0 g w0 w) (b : Bool) : Fr ob g0.d.D g0.P w (w.setCell ⟨g.P, 7, none⟩ (.bool b)) := by
  have := h.at_.put (g' := { g with macro_ := b }) (c2 := c) (Below.refl ob w) (j := 7) (by omega) rfl rfl (fun i hi hi2 => by rcases hi2 with rfl | rfl | rfl | rfl | rfl | rfl <;> first | rfl | exact absurd rfl hi) h.at_.l1 h.at_.l2 h.at_.l3 h.at_.o12 h.at_.o13 h.at_.o21 h.at_.o23 h.at_.o31 h.at_.o32 h.at_.cnt h.at_.few
  exact this.2.cast (by rw [h.d]) h.P
theorem shortsN_four (N : Nat) (a b c d : ByteArray) (ha : a.size ≤ N) (hb : b.size ≤ N) (hc : c.size ≤ N) (hd : d.size ≤ N) (t : TypeId) (w : World) : Shorts N (w.alloc (.cells #[.string a, .string b, .string c, .string d] t)) (some ⟨w.heap.size, 0, none⟩) 4 := by
  intro i hi
  rcases (by omega : i = 0 ∨ i = 1 ∨ i = 2 ∨ i = 3) with rfl | rfl | rfl | rfl
  · exact ⟨_, 0, a, rfl, by simp, ha⟩
  · exact ⟨_, 0, b, rfl, by simp, hb⟩
  · exact ⟨_, 0, c, rfl, by simp, hc⟩
  · exact ⟨_, 0, d, rfl, by simp, hd⟩

set_option maxRecDepth 1000000 in
set_option maxHeartbeats 20000000 in
theorem madeItem_any (ob c : Nat) (g : Made) (m : ByteArray) (k : Nat) (w : World) (hm : m.size ≤ 1) (hk : k < 1000) (hc : c + 1 ≤ 90) (hg : ProgAt ob c g w) (hmac : g.macro_ = false) :
    Calls Tryz.prog 37 #[.pointer (some ⟨g.P, 0, none⟩), .string m, .int .i64 (k : Nat)] w (MadeItemPost ob c g w) := by
  have K0 := Lib.hid (ItemAt.start hg)
  have c0 := hg.made.c0
  have HM := Lib.hid hmac
  clear hg hmac
  go_enter Tryz.func37, Tryz.ntmps37
  go_wp2_with fail
  refine (digits_any k _ (by omega)).mono ?_
  rintro e w1 ⟨dg, hdg, rfl, hb⟩
  have K1 := Lib.hid (K0.out.below hb)
  clear hb c0
  go_wp2_with fail
  refine (nextI_any g.d 6 _ K1.out.at_.made.dice (by omega) (by omega)).mono ?_
  rintro e w2 ⟨x, hx, rfl, ht, -⟩
  have K2 := Lib.hid (K1.out.thrown ht)
  clear ht
  rcases (by omega : x = 0 ∨ x = 1 ∨ x = 2 ∨ x = 3 ∨ x = 4 ∨ x = 5) with rfl | rfl | rfl | rfl | rfl | rfl
  · go_wp2_with fail
    refine (nextI_any g.d 2 _ K2.out.at_.made.dice (by omega) (by omega)).mono ?_
    rintro e w3 ⟨y, hy, rfl, ht, -⟩
    have K3 := Lib.hid (K2.out.thrown ht)
    clear ht
    go_wp2_with fail
    refine (int_2 g (1 + (y : Int)) none 0 0 _ (by omega) (by omega) K3.out.at_.made (vars_nil g _) (by omega)).mono ?_
    rintro e w4 ⟨t, zt, rfl, ht⟩
    have K4 := Lib.hid (K3.out.went ht)
    clear ht
    have c2 := K4.out.at_.made.c2
    go_wp2_with (at_builtin; go_must (refine wpList_push (o := ⟨some 45, _, _, _, _, _⟩) rfl (.tmp 41) (.tmp 44) rfl ob g.cp g.cn g.cc rfl (K4.out.alloc _).at_.l2 _ (⟨#[99]⟩ ++ (m ++ dg)) rfl (by simp [go_sem]) (by simp [ByteArray.size_append, lit_size]; omega) (by have h1 : g.fn + g.cn + g.mn ≤ c := K4.out.at_.cnt; have := K4.out.at_.few; omega) (K4.out.alloc _).at_.siz ?_; intro v' d' w7 hp7; obtain ⟨⟨g7, hk7⟩, ⟨u7, hcl⟩, hfz⟩ := (K4.out.alloc _).push2 hp7 (by omega); have K7 := Lib.hid hk7; clear hp7 hk7 c2))
    go_ret
    exact ⟨_, g7, by simp [ByteArray.size_append, lit_size]; omega, rfl, K7.out⟩
  · have c7 := K2.out.at_.made.c7
    have hf := K2.out.at_.warm 7
    have K3 := Lib.hid (K2.out.flag true)
    have K4 := Lib.hid (ItemAt.start K3.out.1)
    have V4 := Lib.hid (size_box (vars_one K4.out.at_.made ⟨#[101]⟩ (by decide) 9))
    go_wp2_with fail
    clear c7 hf
    refine (int_flag g true _ 1 1 _ (K4.out.alloc _).at_.made V4.out (by omega)).mono ?_
    rintro e w5 ⟨t, zt, rfl, ht⟩
    have K5 := Lib.hid ((K4.out.alloc _).went ht)
    clear ht
    have c7 := K5.out.at_.made.c7
    have hf := K5.out.at_.warm 7
    simp only at c7 hf
    have K6 : Hid (ItemAt ob c g { g with macro_ := false } w (w5.setCell ⟨g.P, 7, none⟩ (.bool false))) := by
      have h := K5.out.flag false
      exact ⟨h.1, (K2.out.fr.trans ((Fr.refl _ _ _ _).trans (flag_fr K2.out true))).trans h.2, rfl, rfl, HM.out.symm⟩
    have S6 := Lib.hid (size_boxS (shortsN_four 174 ⟨#[101, 32, 43, 32, 101]⟩ ⟨#[123, 32, 108, 101, 116, 32, 116, 32, 61, 32, 101, 59, 32, 116, 32, 42, 32, 116, 32, 125]⟩ ⟨#[105, 102, 32, 101, 32, 60, 32, 53, 32, 123, 32, 49, 32, 125, 32, 101, 108, 115, 101, 32, 123, 32, 101, 32, 125]⟩ t (by decide) (by decide) (by decide) zt 9 (w5.setCell ⟨g.P, 7, none⟩ (.bool false))))
    go_wp2_with fail
    clear c7 hf
    refine (of_any g.d 174 4 _ _ _ _ (K6.out.alloc _).at_.made.dice (by omega) (by omega) S6.out (away_set K6.out.at_.made.dice)).mono ?_
    rintro e w7 ⟨u, zu, rfl, ht⟩
    have K8 := Lib.hid ((K6.out.alloc _).thrown ht)
    clear ht
    have c3 := K8.out.at_.made.c3
    go_wp2_with (at_builtin; go_must (refine wpList_push (o := ⟨some 77, _, _, _, _, _⟩) rfl (.tmp 73) (.tmp 76) rfl ob g.mp g.mn g.mc rfl (K8.out.alloc _).at_.l3 _ (⟨#[109]⟩ ++ (m ++ dg)) rfl (by simp [go_sem]) (by simp [ByteArray.size_append, lit_size]; omega) (by have h1 : g.fn + g.cn + g.mn ≤ c := K8.out.at_.cnt; have := K8.out.at_.few; omega) (K8.out.alloc _).at_.siz ?_; intro v' d' w7 hp7; obtain ⟨⟨g7, hk7⟩, ⟨u7, hcl⟩, hfz⟩ := (K8.out.alloc _).push3 hp7 (by omega); have K7 := Lib.hid hk7; clear hp7 hk7 c3))
    go_ret
    exact ⟨_, g7, by simp [ByteArray.size_append, lit_size]; omega, rfl, K7.out⟩
  · go_wp2_with fail
    refine (int_1 g 1 _ 2 2 _ (by omega) (by omega) (K2.out.alloc _).at_.made (vars_two K2.out.at_.made ⟨#[97]⟩ ⟨#[98]⟩ (by decide) (by decide) _) (by omega)).mono ?_
    rintro e w4 ⟨t, zt, rfl, ht⟩
    have K4 := Lib.hid ((K2.out.alloc _).went ht)
    clear ht
    have c1 := K4.out.at_.made.c1
    go_wp2_with (at_builtin; go_must (refine wpList_push (o := ⟨some 102, _, _, _, _, _⟩) rfl (.tmp 98) (.tmp 101) rfl ob g.fp g.fn g.fc rfl (K4.out.alloc _).at_.l1 _ (⟨#[102]⟩ ++ (m ++ dg)) rfl (by simp [go_sem]) (by simp [ByteArray.size_append, lit_size]; omega) (by have h1 : g.fn + g.cn + g.mn ≤ c := K4.out.at_.cnt; have := K4.out.at_.few; omega) (K4.out.alloc _).at_.siz ?_; intro v' d' w7 hp7; obtain ⟨⟨g7, hk7⟩, ⟨u7, hcl⟩, hfz⟩ := (K4.out.alloc _).push1 hp7 (by omega); have K7 := Lib.hid hk7; clear hp7 hk7 c1))
    go_ret
    exact ⟨_, g7, by simp [ByteArray.size_append, lit_size]; omega, rfl, K7.out⟩
  · have _ := hk
    have c1 := K2.out.at_.made.c1
    go_wp2_with (at_builtin; go_must (refine wpList_push (o := ⟨some 128, _, _, _, _, _⟩) rfl (.tmp 124) (.tmp 127) rfl ob g.fp g.fn g.fc rfl (K2.out.alloc _).at_.l1 _ (⟨#[102]⟩ ++ (m ++ dg)) rfl (by simp [go_sem]) (by simp [ByteArray.size_append, lit_size]; omega) (by have h1 : g.fn + g.cn + g.mn ≤ c := K2.out.at_.cnt; have := K2.out.at_.few; omega) (K2.out.alloc _).at_.siz ?_; intro v' d' w7 hp7; obtain ⟨⟨g7, hk7⟩, ⟨u7, hcl⟩, hfz⟩ := (K2.out.alloc _).push1 hp7 (by omega); have K7 := Lib.hid hk7; clear hp7 hk7 c1))
    go_ret
    exact ⟨_, g7, by simp [ByteArray.size_append, lit_size]; omega, rfl, K7.out⟩
  · go_wp2_with fail
    refine (nextI_any g.d 3 _ K2.out.at_.made.dice (by omega) (by omega)).mono ?_
    rintro e w3 ⟨y, hy, rfl, ht, -⟩
    have K3 := Lib.hid (K2.out.thrown ht)
    clear ht
    go_wp2_with fail
    refine (blk_3 g (1 + (y : Int)) _ 2 2 _ (by omega) (by omega) (K3.out.alloc _).at_.made (vars_two K3.out.at_.made ⟨#[97]⟩ ⟨#[98]⟩ (by decide) (by decide) _) (by omega)).mono ?_
    rintro e w4 ⟨t, zt, rfl, ht⟩
    have K4 := Lib.hid ((K3.out.alloc _).went ht)
    clear ht
    have c1 := K4.out.at_.made.c1
    go_wp2_with (at_builtin; go_must (refine wpList_push (o := ⟨some 150, _, _, _, _, _⟩) rfl (.tmp 146) (.tmp 149) rfl ob g.fp g.fn g.fc rfl (K4.out.alloc _).at_.l1 _ (⟨#[102]⟩ ++ (m ++ dg)) rfl (by simp [go_sem]) (by simp [ByteArray.size_append, lit_size]; omega) (by have h1 : g.fn + g.cn + g.mn ≤ c := K4.out.at_.cnt; have := K4.out.at_.few; omega) (K4.out.alloc _).at_.siz ?_; intro v' d' w7 hp7; obtain ⟨⟨g7, hk7⟩, ⟨u7, hcl⟩, hfz⟩ := (K4.out.alloc _).push1 hp7 (by omega); have K7 := Lib.hid hk7; clear hp7 hk7 c1))
    go_ret
    exact ⟨_, g7, by simp [ByteArray.size_append, lit_size]; omega, rfl, K7.out⟩
  · go_wp2_with fail
    refine (nextI_any g.d 3 _ K2.out.at_.made.dice (by omega) (by omega)).mono ?_
    rintro e w3 ⟨y, hy, rfl, ht, -⟩
    have K3 := Lib.hid (K2.out.thrown ht)
    clear ht
    go_wp2_with fail
    refine (blk_3 g (1 + (y : Int)) _ 2 2 _ (by omega) (by omega) (K3.out.alloc _).at_.made (vars_two K3.out.at_.made ⟨#[97]⟩ ⟨#[98]⟩ (by decide) (by decide) _) (by omega)).mono ?_
    rintro e w4 ⟨t, zt, rfl, ht⟩
    have K4 := Lib.hid ((K3.out.alloc _).went ht)
    clear ht
    have c1 := K4.out.at_.made.c1
    go_wp2_with (at_builtin; go_must (refine wpList_push (o := ⟨some 150, _, _, _, _, _⟩) rfl (.tmp 146) (.tmp 149) rfl ob g.fp g.fn g.fc rfl (K4.out.alloc _).at_.l1 _ (⟨#[102]⟩ ++ (m ++ dg)) rfl (by simp [go_sem]) (by simp [ByteArray.size_append, lit_size]; omega) (by have h1 : g.fn + g.cn + g.mn ≤ c := K4.out.at_.cnt; have := K4.out.at_.few; omega) (K4.out.alloc _).at_.siz ?_; intro v' d' w7 hp7; obtain ⟨⟨g7, hk7⟩, ⟨u7, hcl⟩, hfz⟩ := (K4.out.alloc _).push1 hp7 (by omega); have K7 := Lib.hid hk7; clear hp7 hk7 c1))
    go_ret
    exact ⟨_, g7, by simp [ByteArray.size_append, lit_size]; omega, rfl, K7.out⟩
end Go.Proofs.YtnkojbnkdihbkaaGreat

/-
  THE TEXTS OF MODULES THAT ARE BEING MADE: a row of strings beside the program; what keeps it, and a store into it.
-/
namespace Go.Proofs.YtnkojbnkdihbkaaGreat
open Go Go.RowKit
set_option linter.unusedVariables false

def rowS (L : List ByteArray) : Array Value := (L.map Value.string).toArray
theorem rowS_set (L : List ByteArray) (i : Nat) (s : ByteArray) : rowS (L.set i s) = (rowS L).setIfInBounds i (.string s) := by unfold rowS; rw [List.map_set]; simp
theorem rowS_at (L : List ByteArray) (i : Nat) (h : i < L.length) : (rowS L)[i]? = some (.string L[i]) := by simp [rowS, h]

/-- the program, and the texts -/
structure SrcL (w0 : World) (d : Dice) (Tx c : Nat) (g : Made) (L : List ByteArray) (w : World) : Prop where
  prog : ProgAt (Tx + 1) c g w
  txt : w.heap[Tx]? = some (.cells (rowS L) 9 (0, 0))
  fr : Fr w0.heap.size d.D w0.heap.size w0 w
  d : g.d = d
  P : g.P = w0.heap.size
  mac : g.macro_ = false
  PT : w0.heap.size < Tx

theorem SrcL.go {w0 : World} {d : Dice} {Tx c c' : Nat} {g g' : Made} {L : List ByteArray} {w w' : World} (h : SrcL w0 d Tx c g L w) (k : ProgAt (Tx + 1) c' g' w') (f : Fr (Tx + 1) g.d.D g.P w w') (e1 : g'.d = g.d) (e2 : g'.P = g.P) (e3 : g'.macro_ = false) : SrcL w0 d Tx c' g' L w' := by
  have hlow := h.prog.low
  have hP := h.P
  have hPT := h.PT
  have hd : g.d.D = d.D := by rw [h.d]
  refine ⟨k, by rw [f.block Tx (by omega) (by omega) (by omega)]; exact h.txt, h.fr.trans ⟨f.os, f.tape, f.output, f.size, fun x h1 h2 h3 => f.block x (by omega) (by omega) (by omega), fun a h1 h2 => f.dcell a (by omega) (by rw [hd]; exact h2), fun a h1 => f.dfrozen a (by omega)⟩, e1.trans h.d, e2.trans h.P, e3, h.PT⟩
theorem SrcL.went {w0 : World} {d : Dice} {Tx c : Nat} {g : Made} {L : List ByteArray} {w w' : World} (h : SrcL w0 d Tx c g L w) (k : Went g w w') : SrcL w0 d Tx c g L w' := h.go (h.prog.went k) (Fr.went h.prog k) rfl rfl h.mac
theorem SrcL.thrown {w0 : World} {d : Dice} {Tx c : Nat} {g : Made} {L : List ByteArray} {w w' : World} (h : SrcL w0 d Tx c g L w) (k : Thrown g.d w w') : SrcL w0 d Tx c g L w' := h.went (went_thrown h.prog.made k)
theorem SrcL.below {w0 : World} {d : Dice} {Tx c : Nat} {g : Made} {L : List ByteArray} {w w' : World} (h : SrcL w0 d Tx c g L w) (k : Below w.heap.size w w') : SrcL w0 d Tx c g L w' := h.went (went_below h.prog.made k)
theorem SrcL.alloc {w0 : World} {d : Dice} {Tx c : Nat} {g : Made} {L : List ByteArray} {w : World} (h : SrcL w0 d Tx c g L w) (o : Obj) : SrcL w0 d Tx c g L (w.alloc o) := h.went (went_alloc h.prog.made o)
theorem SrcL.drew {w0 : World} {d : Dice} {Tx c : Nat} {g : Made} {L : List ByteArray} {w : World} (h : SrcL w0 d Tx c g L w) : SrcL w0 d Tx c g L w.drew := h.went (went_drewN h.prog.made 1)
theorem SrcL.cell {w0 : World} {d : Dice} {Tx c : Nat} {g : Made} {L : List ByteArray} {w : World} (h : SrcL w0 d Tx c g L w) (i : Nat) (hi : i < L.length) : w.cell? ⟨Tx, i, none⟩ = some (.string L[i]) := by rw [Lib.cell_of_heap h.txt, rowS_at L i hi]
theorem SrcL.warm {w0 : World} {d : Dice} {Tx c : Nat} {g : Made} {L : List ByteArray} {w : World} (h : SrcL w0 d Tx c g L w) (i : Nat) : w.frozen? ⟨Tx, i, none⟩ = false := Lib.frozen_of_heap h.txt i

/-- a store into a block apart -/
theorem ProgAt.apart {ob c : Nat} {g : Made} {w w' : World} {Tx : Nat} (h : ProgAt ob c g w) (hb : But (fun a => a.block = Tx) w w') (h1 : g.P < Tx) (h2 : Tx < ob) : ProgAt ob c g w' := by
  have hlow := h.low
  have nP : ∀ i, ¬ ((⟨g.P, i, none⟩ : Addr).block = Tx) := fun i => by show ¬ g.P = Tx; omega
  have nD : ∀ i, ¬ ((⟨g.d.D, i, none⟩ : Addr).block = Tx) := fun i => by show ¬ g.d.D = Tx; omega
  have nR : ∀ b o i, g.d.p = some ⟨b, o, none⟩ → ¬ ((⟨b, i, none⟩ : Addr).block = Tx) := fun b o i e => by have := h.row b o e; show ¬ b = Tx; omega
  have hm : ∀ a : Addr, a.block = Tx → a.block < ob := fun a e => by omega
  have kd := hb.keep h.made.dice.at_ (nD 1)
  have k6 := hb.keep h.made.c6 (nP 6)
  have ev : varsOf g.P w' = varsOf g.P w := varsOf_eq k6
  have ea : atOf g.d.D w' = atOf g.d.D w := atOf_eq kd
  have l1 := h.l1.keep hb hm
  have l2 := h.l2.keep hb hm
  have l3 := h.l3.keep hb hm
  have hD : g.d.D < ob := by omega
  have hP : g.P < ob := by omega
  refine ⟨⟨h.made.dice.keep hb (nD 0) nR kd h.made.dice.le, h.made.apart, h.made.rowP, hb.keep h.made.c0 (nP 0), hb.keep h.made.c1 (nP 1), hb.keep h.made.c2 (nP 2), hb.keep h.made.c3 (nP 3), hb.keep h.made.c4 (nP 4), hb.keep h.made.c5 (nP 5), by rw [ev]; exact k6, hb.keep h.made.c7 (nP 7),
    by rw [hb.frozen _ (World.block_lt_of_cell? w _ h.made.c6)]; exact h.made.warm, l1.vars g hD hP, l2.vars g hD hP, l3.vars g hD hP, h.made.few, by rw [ev, ea]; exact h.made.credit⟩, h.low, h.row, h.pob,
    fun i => (hb.frozen ⟨g.P, i, none⟩ (World.block_lt_of_cell? w _ h.made.c6 : g.P < w.heap.size)).trans (h.warm i), Nat.le_trans h.siz hb.size, l1, l2, l3, h.o12, h.o13, h.o21, h.o23, h.o31, h.o32, h.cnt, h.few⟩
theorem SrcL.store {w0 : World} {d : Dice} {Tx c : Nat} {g : Made} {L : List ByteArray} {w : World} (h : SrcL w0 d Tx c g L w) (i : Nat) (s : ByteArray) : SrcL w0 d Tx c g (L.set i s) (w.setCell ⟨Tx, i, none⟩ (.string s)) := by
  have hb : But (fun a => a.block = Tx) w (w.setCell ⟨Tx, i, none⟩ (.string s)) := But.setCell w _ _ rfl
  have hP := h.P
  have hPT := h.PT
  have hlow := h.prog.low
  have hd : g.d.D = d.D := by rw [h.d]
  refine ⟨h.prog.apart hb (by omega) (by omega), by rw [rowS_set]; exact heap_setCell_same _ _ _ _ _ _ h.txt, h.fr.trans (Fr.of_blocks hb.os hb.tape hb.output hb.size (fun k h1 h2 => Below.heap_setCell _ _ _ _ (by show k ≠ Tx; omega)) (by omega) (by omega)), h.d, h.P, h.mac, h.PT⟩

/-- the program and the texts stay as they are -/
def LeS (w0 : World) (d : Dice) (Tx c : Nat) (g : Made) (L : List ByteArray) (w w' : World) : Prop := SrcL w0 d Tx c g L w → SrcL w0 d Tx c g L w'
theorem LeS.refl (w0 : World) (d : Dice) (Tx c : Nat) (g : Made) (L : List ByteArray) (w : World) : LeS w0 d Tx c g L w w := fun h => h
theorem LeS.trans (w0 : World) (d : Dice) (Tx c : Nat) (g : Made) (L : List ByteArray) (a b e : World) (h : LeS w0 d Tx c g L a b) (k : LeS w0 d Tx c g L b e) : LeS w0 d Tx c g L a e := fun x => k (h x)

theorem base_any (w : World) : Calls Tryz.prog 36 #[] w fun e w' => ∃ s : ByteArray, s.size ≤ 400 ∧ e = .returned (.string s) ∧ w' = w := by
  go_enter Tryz.func36, Tryz.ntmps36
  go_wp2
  go_ret
  exact ⟨_, by decide +kernel, rfl, rfl⟩

/-- two short strings in a block -/
def tyTwo (g : Made) : Ty (LeM g) := ⟨{b : Nat // True}, ⟨⟨0, trivial⟩⟩, fun b => .slice (some ⟨b.1, 0, none⟩) 2 2, fun b w => MadeAt g w ∧ Shorts 8 w (some ⟨b.1, 0, none⟩) 2 ∧ b.1 ≠ g.d.D ∧ b.1 ≠ g.P, fun x w w' hl h =>
  ⟨(hl h.1).good, h.2.1.keep (hl h.1).but (fun b o i e q => by
    injection e with e; injection e with e _ _
    rcases q with q | q
    · injection q with q _ _; exact h.2.2.1 (e.trans q)
    · injection q with q _ _; exact h.2.2.2 (e.trans q)), h.2.2⟩⟩
theorem tyTwo_f (g : Made) (b : Nat) (hb : True) : (tyTwo g).f ⟨b, hb⟩ = .slice (some ⟨b, 0, none⟩) 2 2 := rfl
theorem tyTwo_p (g : Made) (b : Nat) (hb : True) (w : World) : (tyTwo g).φ ⟨b, hb⟩ w = (MadeAt g w ∧ Shorts 8 w (some ⟨b, 0, none⟩) 2 ∧ b ≠ g.d.D ∧ b ≠ g.P) := rfl
theorem two_new {g : Made} {w : World} (h : MadeAt g w) (a b : ByteArray) (ha : a.size ≤ 8) (hb : b.size ≤ 8) (t : TypeId) : MadeAt g (w.alloc (.cells #[.string a, .string b] t)) ∧ Shorts 8 (w.alloc (.cells #[.string a, .string b] t)) (some ⟨w.heap.size, 0, none⟩) 2 ∧ w.heap.size ≠ g.d.D ∧ w.heap.size ≠ g.P := by
  have hP := World.block_lt_of_cell? w _ h.c6
  simp only at hP
  exact ⟨(went_alloc h _).good, shorts_two a b ha hb t w, away_new h.dice, by omega⟩
theorem fact_in {md : Region.Mode} {o : Oper} {F : Facts} {w : World} (h : leans md o F w) {j : Nat} (hj : (o.after.any fun e => Region.binds md e && (e.on == j)) = true) : F j w := by
  obtain ⟨e, he, h2⟩ := Array.any_eq_true'.1 hj
  simp only [Bool.and_eq_true, beq_iff_eq] at h2
  rw [← h2.2]
  exact h e he h2.1
theorem set_le {L : List ByteArray} {B B2 i : Nat} {s : ByteArray} (h : ∀ x ∈ L, x.size ≤ B) (hs : s.size ≤ B2) (hB : B ≤ B2) : ∀ x ∈ L.set i s, x.size ≤ B2 := by
  intro x hx
  rcases List.mem_or_eq_of_mem_set hx with hx | rfl
  · have := h x hx; omega
  · exact hs
end Go.Proofs.YtnkojbnkdihbkaaGreat

/-
  CONTRACTS: (*Dice).Sources: one to three modules, named a, b, c, each text of at most 12400 bytes.
-/
namespace Go.Proofs.YtnkojbnkdihbkaaGreat
open Go Go.RowKit
set_option linter.unusedVariables false
set_option linter.unusedSimpArgs false

attribute [local go_sem] tyIs_f tyNum_f tyStr_f tyTwo_f

theorem dice_still {d : Dice} {w w' : World} (h : DiceAt d w) (hb : Below w.heap.size w w') : DiceAt d w' := (h.still (But.of_below (M := fun _ => False) hb) (fun _ _ _ _ q => q) (fun _ q => q)).1

def progCells (d : Dice) : Array Value := #[.pointer (some ⟨d.D, 0, none⟩), .slice none 0 0, .slice none 0 0, .slice none 0 0, .bool false, .bool false, .int .i64 0, .bool false]
def made0 (d : Dice) (P : Nat) : Made := ⟨d, P, none, 0, 0, none, 0, 0, none, 0, 0, false, false, false⟩
theorem lst_nil (ob : Nat) (w : World) : Lst ob w none 0 0 := ⟨[], rfl, fun s h => by simp at h, OwnT.nil w ob⟩
theorem other_nil (v : Value) : other (.slice none 0 0) v := .inl rfl

theorem src_start {d : Dice} {w w2 : World} {L : List ByteArray} {T : TypeId} (hd : DiceAt d w) (hrow : ∀ b o, d.p = some ⟨b, o, none⟩ → b < w.heap.size) (ht : Thrown d (w.alloc (.cells (progCells d) T)) w2) :
    SrcL w d w2.heap.size 0 (made0 d w.heap.size) L (w2.alloc (.cells (rowS L) 9)) := by
  have hD := World.block_lt_of_cell? w _ hd.at_
  simp only at hD
  have hsz : w.heap.size < w2.heap.size := by have := ht.but.size; simp at this; omega
  have nP : ∀ i, ¬ isAt d.D ⟨w.heap.size, i, none⟩ := fun i q => by unfold isAt at q; injection q with q _ _; omega
  have cc : ∀ i v, (progCells d)[i]? = some v → (w2.alloc (.cells (rowS L) 9)).cell? ⟨w.heap.size, i, none⟩ = some v := by
    intro i v hv
    have h1 : (w.alloc (.cells (progCells d) T)).cell? ⟨w.heap.size, i, none⟩ = some v := by rw [Lib.cell_of_heap (heap_alloc_new w _)]; exact hv
    have h2 := ht.but.keep h1 (nP i)
    rw [(below_box w2 _).cell (p := ⟨w.heap.size, i, none⟩) hsz]
    exact h2
  have ff : ∀ i, (w2.alloc (.cells (rowS L) 9)).frozen? ⟨w.heap.size, i, none⟩ = false := by
    intro i
    rw [(below_box w2 _).frozen (p := ⟨w.heap.size, i, none⟩) hsz, ht.but.frozen ⟨w.heap.size, i, none⟩ (by simp)]
    exact Lib.frozen_of_heap (heap_alloc_new w _) i
  have h6 := cc 6 _ rfl
  have dice := dice_still ht.good (below_box w2 (.cells (rowS L) 9))
  refine ⟨⟨⟨dice, by show w.heap.size ≠ d.D; omega, fun b o e => by have := hrow b o e; show b ≠ w.heap.size; omega, cc 0 _ rfl, cc 1 _ rfl, cc 2 _ rfl, cc 3 _ rfl, cc 4 _ rfl, cc 5 _ rfl, by rw [show varsOf (made0 d w.heap.size).P (w2.alloc (.cells (rowS L) 9)) = 0 from varsOf_eq (k := 0) h6]; exact h6, cc 7 _ rfl, ff 6, vars_nil _ _, vars_nil _ _, vars_nil _ _, ⟨Nat.zero_le _, Nat.zero_le _, Nat.zero_le _⟩, by rw [show varsOf (made0 d w.heap.size).P (w2.alloc (.cells (rowS L) 9)) = 0 from varsOf_eq (k := 0) h6]; omega⟩,
    hD, hrow, by show w.heap.size < w2.heap.size + 1; omega, ff, by simp, lst_nil _ _, lst_nil _ _, lst_nil _ _, other_nil _, other_nil _, other_nil _, other_nil _, other_nil _, other_nil _, Nat.le_refl 0, by omega⟩, heap_alloc_new w2 _, ?_, rfl, rfl, rfl, hsz⟩
  have hb1 := (below_box w (.cells (progCells d) T))
  have hb2 := (below_box w2 (.cells (rowS L) 9))
  refine ⟨hb2.os.trans (ht.but.os.trans hb1.os), hb2.tape.trans (ht.but.tape.trans hb1.tape), hb2.output.trans (ht.but.output.trans hb1.output), by simp; omega, fun k h1 h2 h3 => ?_, fun a h1 h2 => ?_, fun a h1 => ?_⟩
  · rw [hb2.block k (by omega), ht.but.block k (by simp; omega) (fun a ha q => by unfold isAt at q; subst q; exact h3 ha.symm), hb1.block k h1]
  · rw [hb2.cell (by omega), ht.but.cell a (by simp; omega) h2, hb1.cell (by omega)]
  · rw [hb2.frozen (by omega), ht.but.frozen a (by simp; omega), hb1.frozen (by omega)]

theorem made_rowS (k : Nat) : madeCells (Value.string ⟨#[]⟩).cells k = rowS (List.replicate k ByteArray.empty) := by
  apply Array.ext'
  simp [madeCells, rowS, Value.cells]
  apply List.ext_getElem
  · simp
  · intro i h1 h2
    simp [Nat.mod_one]
    rfl
def tyPt (g : Made) (b n : Nat) (h : 0 < n) : Ty (LeM g) := tyOf (LeM g) (α := {k : Nat // k < n}) ⟨⟨0, h⟩⟩ (fun k => .pointer (some ⟨b, k.1, none⟩))
theorem tyPt_f (g : Made) (b n : Nat) (h : 0 < n) (k : Nat) (hk : k < n) : (tyPt g b n h).f ⟨k, hk⟩ = .pointer (some ⟨b, k, none⟩) := rfl
def tyN2 (g : Made) : Ty (LeM g) := tyOf (LeM g) (α := {k : Nat // k < 2}) ⟨⟨0, by omega⟩⟩ (fun k => .int .i64 (2 + (k.1 : Int)))
theorem tyN2_f (g : Made) (k : Nat) (hk : k < 2) : (tyN2 g).f ⟨k, hk⟩ = .int .i64 (2 + (k : Int)) := rfl
attribute [local go_sem] tyPt_f tyN2_f

def letterOf (i : Nat) : ByteArray := ⟨#[UInt8.ofNat (97 + i)]⟩
/-- the first a modules -/
def mods (L : List ByteArray) (a : Nat) : List Src := (List.range a).map fun i => (letterOf i, L.getD i ByteArray.empty)
theorem mods_snoc (L : List ByteArray) (a : Nat) : mods L (a + 1) = mods L a ++ [(letterOf a, L.getD a ByteArray.empty)] := by simp [mods, List.range_succ]
theorem mods_length (L : List ByteArray) (a : Nat) : (mods L a).length = a := by simp [mods]
theorem letter_at (n : Nat) (w : World) (h : n < 26) : Calls Tryz.prog 35 #[.int .i64 (n : Int)] w fun e w' => e = .returned (.string (letterOf n)) ∧ Below w.heap.size w w' := letter_any n w h
theorem size_letter (i : Nat) : (letterOf i).size = 1 := rfl

theorem dice_belowB {d : Dice} {B : Nat} {w w' : World} (h : DiceAt d w) (hb : Below B w w') (hD : d.D < B) (hrow : ∀ b o, d.p = some ⟨b, o, none⟩ → b < B) : DiceAt d w' := by
  have tc : ∀ b i v, b < B → w.cell? ⟨b, i, none⟩ = some v → w'.cell? ⟨b, i, none⟩ = some v := fun b i v hlt hc => by rw [hb.cell (p := ⟨b, i, none⟩) hlt]; exact hc
  have kd := tc _ _ _ hD h.at_
  have ea : atOf d.D w' = atOf d.D w := atOf_eq kd
  refine ⟨h.few, tc _ 0 _ hD h.row, by rw [ea]; exact kd, by rw [ea]; exact h.le, fun i hi => ?_, h.away, by rw [hb.frozen (p := ⟨d.D, 1, none⟩) hD]; exact h.warm⟩
  obtain ⟨b, o, hp, x, h1, h2, hc⟩ := h.rolls i hi
  exact ⟨b, o, hp, x, h1, h2, tc _ _ _ (hrow b o hp) hc⟩
/-- at the end: the texts stand, and the dice -/
structure Fin0 (w0 : World) (d : Dice) (Tx : Nat) (L : List ByteArray) (w : World) : Prop where
  txt : w.heap[Tx]? = some (.cells (rowS L) 9 (0, 0))
  dice : DiceAt d w
  fr : Fr w0.heap.size d.D w0.heap.size w0 w
  D : d.D < w0.heap.size
  row : ∀ b o, d.p = some ⟨b, o, none⟩ → b < w0.heap.size
  PT : w0.heap.size < Tx
theorem Fin0.lt {w0 : World} {d : Dice} {Tx : Nat} {L : List ByteArray} {w : World} (h : Fin0 w0 d Tx L w) : Tx < w.heap.size := by
  rcases Nat.lt_or_ge Tx w.heap.size with h' | h'
  · exact h'
  · have := h.txt; simp [Array.getElem?_eq_none h'] at this
theorem Fin0.belowB {w0 : World} {d : Dice} {Tx : Nat} {L : List ByteArray} {w w' : World} (h : Fin0 w0 d Tx L w) (hb : Below (Tx + 1) w w') : Fin0 w0 d Tx L w' := by
  have h1 := h.D
  have h2 := h.PT
  refine ⟨by rw [hb.block Tx (by omega)]; exact h.txt, dice_belowB h.dice hb (by omega) (fun b o e => by have := h.row b o e; omega), h.fr.trans ⟨hb.os, hb.tape, hb.output, hb.size, fun k q _ _ => hb.block k (by omega), fun a q _ => hb.cell (by omega), fun a q => hb.frozen (by omega)⟩, h.D, h.row, h.PT⟩
theorem Fin0.below {w0 : World} {d : Dice} {Tx : Nat} {L : List ByteArray} {w w' : World} (h : Fin0 w0 d Tx L w) (hb : Below w.heap.size w w') : Fin0 w0 d Tx L w' := h.belowB (hb.mono h.lt)
theorem Fin0.at_ {w0 : World} {d : Dice} {Tx : Nat} {L : List ByteArray} {w : World} (h : Fin0 w0 d Tx L w) (i : Nat) (hi : i < L.length) : w.cell? ⟨Tx, i, none⟩ = some (.string (L.getD i ByteArray.empty)) := by
  rw [Lib.cell_of_heap h.txt, rowS_at L i hi, List.getD_eq_getElem?_getD, List.getElem?_eq_getElem hi]; rfl
theorem SrcL.fin {w0 : World} {d : Dice} {Tx c : Nat} {g : Made} {L : List ByteArray} {w : World} (h : SrcL w0 d Tx c g L w) : Fin0 w0 d Tx L w := by
  have e : g.d.D = d.D := by rw [h.d]
  have e1 := h.prog.low
  have e2 := h.P
  exact ⟨h.txt, h.d ▸ h.prog.made.dice, h.fr, by omega, fun b o q => by have := h.prog.row b o (by rw [h.d]; exact q); omega, h.PT⟩
theorem OwnS.mono {w : World} {B B' : Nat} {v : Value} {L : List Src} (h : OwnS w B v L) (hB : B' ≤ B) : OwnS w B' v L := by
  obtain ⟨h1, h2 | ⟨g, cap, cur, hv, hg, rest⟩⟩ := h
  · exact ⟨h1, .inl h2⟩
  · exact ⟨h1, .inr ⟨g, cap, cur, hv, by omega, rest⟩⟩
theorem OwnS.below {w w' : World} {B : Nat} {v : Value} {L : List Src} (h : OwnS w B v L) (hb : Below w.heap.size w w') : OwnS w' B v L := by
  obtain ⟨h1, h2 | ⟨g, cap, cur, hv, hg, hh, rest⟩⟩ := h
  · exact ⟨h1, .inl h2⟩
  · exact ⟨h1, .inr ⟨g, cap, cur, hv, hg, by rw [hb.block g (Array.getElem?_eq_some_iff.1 hh).1]; exact hh, rest⟩⟩
def LeW (w w' : World) : Prop := Below w.heap.size w w'
theorem LeW.refl (w : World) : LeW w w := Below.refl _ _
theorem LeW.trans (w1 w2 w3 : World) (a : LeW w1 w2) (b : LeW w2 w3) : LeW w1 w3 := bnext a b
theorem relW_is {P : Program} {v : Value} {w : World} : relUpon P LeW (tyIs LeW v) w (.ok (.value v) w) := ⟨LeW.refl w, (), rfl, trivial⟩
/-- a module in a block -/
def tyBox (nm tx : ByteArray) : Ty LeW := ⟨{b : Nat // True}, ⟨⟨0, trivial⟩⟩, fun b => .slice (some ⟨b.1, 0, none⟩) 1 1, fun b w => w.cell? ⟨b.1, 0, none⟩ = some (.string nm) ∧ w.cell? ⟨b.1, 1, none⟩ = some (.string tx), fun x w w' hl h =>
  ⟨by rw [Below.cell hl (World.block_lt_of_cell? w _ h.1)]; exact h.1, by rw [Below.cell hl (World.block_lt_of_cell? w _ h.2)]; exact h.2⟩⟩
theorem tyBox_f (nm tx : ByteArray) (b : Nat) (hb : True) : (tyBox nm tx).f ⟨b, hb⟩ = .slice (some ⟨b, 0, none⟩) 1 1 := rfl
theorem tyBox_p (nm tx : ByteArray) (b : Nat) (hb : True) (w : World) : (tyBox nm tx).φ ⟨b, hb⟩ w = (w.cell? ⟨b, 0, none⟩ = some (.string nm) ∧ w.cell? ⟨b, 1, none⟩ = some (.string tx)) := rfl
theorem item_at {ob c P : Nat} {g : Made} {m : ByteArray} {k : Nat} {w : World} (hP : g.P = P) (hm : m.size ≤ 1) (hk : k < 1000) (hc : c + 1 ≤ 90) (hg : ProgAt ob c g w) (hmac : g.macro_ = false) :
    Calls Tryz.prog 37 #[.pointer (some ⟨P, 0, none⟩), .string m, .int .i64 (k : Nat)] w (MadeItemPost ob c g w) := by subst hP; exact madeItem_any ob c g m k w hm hk hc hg hmac
theorem SrcL.item {w0 : World} {d : Dice} {Tx c : Nat} {g g' : Made} {L : List ByteArray} {w w' : World} (h : SrcL w0 d Tx c g L w) (k : ItemAt (Tx + 1) (c + 1) g g' w w') : SrcL w0 d Tx (c + 1) g' L w' := h.go k.at_ k.fr k.d k.P (k.mac.trans h.mac)
theorem blk_at {P : Nat} {g : Made} {k : Int} {w : World} (hP : g.P = P) (hk : k ≤ 3) (hk2 : 0 ≤ k) (hg : MadeAt g w) :
    Calls Tryz.prog 38 #[.pointer (some ⟨P, 0, none⟩), .int .i64 k, .slice none 0 0] w fun e w' => ∃ s : ByteArray, s.size ≤ 1374 ∧ e = .returned (.string s) ∧ Went g w w' := by subst hP; exact blk_3 g k none 0 0 w hk hk2 hg (vars_nil g w) (by omega)

def SrcPost (d : Dice) (w : World) (e : Ending) (w' : World) : Prop := ∃ (L : List ByteArray) (v : Value), e = .returned v ∧ OwnS w' w.heap.size v (mods L L.length) ∧ (∀ s ∈ L, s.size ≤ 12400) ∧ 1 ≤ L.length ∧ L.length ≤ 3 ∧ DiceAt d w' ∧ Fr w.heap.size d.D w.heap.size w w'

theorem getD_le {L : List ByteArray} {B : Nat} (h : ∀ s ∈ L, s.size ≤ B) (i : Nat) : (L.getD i ByteArray.empty).size ≤ B := by
  by_cases hi : i < L.length
  · rw [List.getD_eq_getElem?_getD, List.getElem?_eq_getElem hi]; exact h _ (List.getElem_mem hi)
  · rw [List.getD_eq_getElem?_getD, List.getElem?_eq_none (by omega)]; exact Nat.zero_le _
theorem SrcL.at_ {w0 : World} {d : Dice} {Tx c : Nat} {g : Made} {L : List ByteArray} {w : World} (h : SrcL w0 d Tx c g L w) (i : Nat) (hi : i < L.length) : w.cell? ⟨Tx, i, none⟩ = some (.string (L.getD i ByteArray.empty)) := by
  rw [h.cell i hi, List.getD_eq_getElem?_getD, List.getElem?_eq_getElem hi]; rfl


set_option maxRecDepth 1000000 in
set_option maxHeartbeats 40000000 in
theorem sources_any (d : Dice) (w : World) (hd : DiceAt d w) (hrow : ∀ b o, d.p = some ⟨b, o, none⟩ → b < w.heap.size) :
    Calls Tryz.prog 17 #[.pointer (some ⟨d.D, 0, none⟩)] w (SrcPost d w) := by
  have HD := Lib.hid hd
  have HROW := Lib.hid hrow
  have D1 := Lib.hid (dice_still hd (below_box w (.cells (progCells d) 70)))
  obtain ⟨i0, hi, hz0, hz1, hz2⟩ := info_parts infoString
  have HMK : Hid (∀ (u : World) (x : Nat), x < 3 → (Instr.makeSlice 23 (.int .i64 (1 + (x : Int))) (.int .i64 (1 + (x : Int)))).run Tryz.prog u = .ok (.slice (some ⟨u.heap.size, 0, none⟩) (1 + x) (1 + x)) (u.alloc (.cells (rowS (List.replicate (1 + x) ByteArray.empty)) 9))) := by
    intro u x hx
    have h := run_make (P := Tryz.prog) u 23 9 i0 (.string ⟨#[]⟩) Tryz.underlying23 hi hz0 .i64 .i64 ((1 + x : Nat) : Int) ((1 + x : Nat) : Int) (by omega) (Int.le_refl _) (by rw [hz2]; omega) (by omega)
    have e : ((1 + x : Nat) : Int).toNat = 1 + x := Int.toNat_natCast _
    have e2 : ((1 + x : Nat) : Int) = 1 + (x : Int) := by omega
    rw [e, hz1, Nat.mul_one, e2] at h
    rw [← made_rowS]
    exact h
  clear hd hrow hi hz0 hz1 hz2
  go_enter Tryz.func17, Tryz.ntmps17
  go_wp2_with fail
  refine (nextI_any d 3 _ D1.out (by omega) (by omega)).mono ?_
  rintro e w2 ⟨x, hx, rfl, ht, -⟩
  have S0 := Lib.hid (src_start (L := List.replicate (1 + x) ByteArray.empty) HD.out HROW.out ht)
  have hmk := HMK.out w2 x (by omega)
  go_wp2_with fail
  clear hmk
  have eN : (1 + (x : Int)) = ((1 + x : Nat) : Int) := by omega
  rw [eN]
  clear eN
  have HL0 : Hid ((List.replicate (1 + x) ByteArray.empty).length = 1 + x) := by show _ = _; simp
  have HB0 : Hid (∀ s ∈ List.replicate (1 + x) ByteArray.empty, s.size ≤ 33 * 0) := fun s hs => by rw [(List.mem_replicate.1 hs).2]; exact Nat.le_refl _
  have hN1 : 1 ≤ 1 + x := by omega
  have hN3 : 1 + x ≤ 3 := by omega
  generalize List.replicate (1 + x) ByteArray.empty = L0 at *
  generalize 1 + x = N at *
  generalize w2.heap.size = Tx at *
  have hN0 : 0 < N := hN1
  have hNi : (1 : Int) ≤ (N : Int) := by omega
  have hNi3 : (N : Int) ≤ 3 := by omega
  have G0 := Lib.hid (rfl : made0 d w.heap.size = made0 d w.heap.size)
  generalize made0 d w.heap.size = g0 at S0
  clear G0
  have gP : Hid (g0.P = w.heap.size) := S0.out.P
  have gd : Hid (g0.d = d) := S0.out.d
  go_loopw [6, 7] (fun i _ wr => ∃ (a : Nat) (L : List ByteArray), a ≤ N ∧ i = .int .i64 a ∧ Hid (SrcL w d Tx 0 g0 L wr) ∧ Hid (L.length = N) ∧ Hid (∀ s ∈ L, s.size ≤ 33 * a)) (fun i _ _ => N - (intOf i).toNat)
  case atStart => exact ⟨0, L0, Nat.zero_le _, rfl, S0.out, HL0.out, HB0.out⟩
  case round =>
    obtain ⟨a, L, ha, rfl, SL, HLN, HLB⟩ := hrel
    obtain ⟨wo, rfl⟩ : ∃ wo : World, wo = wr := ⟨_, rfl⟩
    by_cases hlt : a < N
    · have hlti : (a : Int) < (N : Int) := by omega
      go_wp2_with fail
      have HLB0 : Hid (∀ s ∈ L, s.size ≤ 33 * a + 11 * 0) := HLB.out
      go_loopw [7] (fun k wr => ∃ (b : Nat) (L : List ByteArray), b ≤ N ∧ k = .int .i64 b ∧ Hid (SrcL w d Tx 0 g0 L wr) ∧ Hid (L.length = N) ∧ Hid (∀ s ∈ L, s.size ≤ 33 * a + 11 * b)) (fun k _ => N - (intOf k).toNat)
      case atStart => exact ⟨0, L, Nat.zero_le _, rfl, SL.out, HLN.out, HLB0.out⟩
      case round =>
        clear SL HLN HLB HLB0
        obtain ⟨b, L, hb, rfl, SL, HLN, HLB⟩ := hrel
        by_cases hltb : b < N
        · have hltbi : (b : Int) < (N : Int) := by omega
          by_cases hab : b = a
          · have hab' : (((b : Nat) : Int) != ((a : Nat) : Int)) = false := by simp [hab]
            have HLB1 : Hid (∀ s ∈ L, s.size ≤ 33 * a + 11 * (b + 1)) := fun s hs => by have := HLB.out s hs; omega
            clear hab
            go_wp2_with fail
            go_roundw
            case rel => exact ⟨b + 1, L, by omega, by go_num, SL.out, HLN.out, HLB1.out⟩
            case measure => simp [intOf]; omega
          · have hab' : (((b : Nat) : Int) != ((a : Nat) : Int)) = true := by rw [bne_iff_ne]; intro e; exact hab (by omega)
            have hh : a < N := hlt
            have gD : Hid (g0.d.D = d.D) := by show _ = _; rw [gd.out]
            clear hab
            go_wp2_with fail
            have GW := Lib.hid (went_drewN SL.out.prog.made 1).good
            apply wp_region_relT (LeM.refl g0) (LeM.trans g0) 13
            case hm => kernel_rfl
            case hB => kernel_rfl
            simp only [List.take_succ_cons, List.take_zero, List.drop_succ_cons, List.drop_zero]
            apply wpRel_cons (t := tyIs _ _)
            case h1 => (intro w' hl hd; clear hl hd; unfold relAt; go_simp; exact rel_is (LeM.refl g0))
            intro _
            rw [tyIs_f]
            go_simp
            apply wpRel_cons (t := tyIs _ _)
            case h1 => (intro w' hl hd; clear hl hd; unfold relAt; go_simp; exact rel_is (LeM.refl g0))
            intro _
            rw [tyIs_f]
            go_simp
            apply wpRel_cons (t := tyIs _ _)
            case h1 => (intro w' hl hd; clear hl hd; unfold relAt; go_simp; exact rel_is (LeM.refl g0))
            intro _
            rw [tyIs_f]
            go_simp
            apply wpRel_cons (t := tyStr _ (33 * a + 11 * b))
            case h1 => (intro w' hl hd; have SW := Lib.hid (SL.out.went ((went_drewN SL.out.prog.made 1).trans (hl GW.out))); clear hl; clear hd; have hc := SW.out.at_ a (by rw [HLN.out]; exact hh); unfold relAt; go_simp; exact ⟨LeM.refl _ _, ⟨_, getD_le HLB.out a⟩, rfl, trivial⟩)
            rintro ⟨s0, zs0⟩
            rw [tyStr_f]
            go_simp
            apply wpRel_cons (t := tyIs _ _)
            case h1 => (intro w' hl hd; clear hl hd; unfold relAt; go_simp; exact rel_is (LeM.refl g0))
            intro _
            rw [tyIs_f]
            go_simp
            apply wpRel_cons (t := tyTwo g0)
            case h1 => (intro w' hl hd; have SW := Lib.hid (SL.out.went ((went_drewN SL.out.prog.made 1).trans (hl GW.out))); clear hl; clear hd; unfold relAt; go_simp; exact ⟨fun h => went_alloc h _, ⟨_, trivial⟩, rfl, two_new SW.out.prog.made _ _ (by decide) (by decide) _⟩)
            rintro ⟨bx, -⟩
            rw [tyTwo_f]
            go_simp
            apply wpRel_cons (t := tyStr _ 8)
            case h1 => (intro w' hl hd; have SW := Lib.hid (SL.out.went ((went_drewN SL.out.prog.made 1).trans (hl GW.out))); clear hl; have hx := fact_in hd (j := 5) (by kernel_rfl); clear hd; simp [upd, tyTwo_p] at hx; unfold relAt; go_simp; refine ⟨LeM.refl _ _, ?_⟩; rw [← gd.out]; refine (of_any g0.d 8 2 2 bx 0 _ hx.1.dice (by omega) (by omega) hx.2.1 hx.2.2.1).mono ?_; rintro e w2 ⟨s, hs, rfl, ht⟩; exact ⟨⟨s, hs⟩, rfl, fun h => went_thrown h ht, trivial⟩)
            rintro ⟨s1, zs1⟩
            rw [tyStr_f]
            go_simp
            apply wpRel_cons (t := tyIs _ _)
            case h1 => (intro w' hl hd; clear hl hd; unfold relAt; go_simp; exact rel_is (LeM.refl g0))
            intro _
            rw [tyIs_f]
            go_simp
            apply wpRel_cons (t := tyStr _ 1)
            case h1 => (intro w' hl hd; have SW := Lib.hid (SL.out.went ((went_drewN SL.out.prog.made 1).trans (hl GW.out))); clear hl; clear hd; unfold relAt; go_simp; refine ⟨LeM.refl _ _, ?_⟩; refine (letter_any b _ (by omega)).mono ?_; rintro e w2 ⟨rfl, hb2⟩; exact ⟨⟨⟨#[UInt8.ofNat (97 + b)]⟩, Nat.le_refl 1⟩, rfl, fun h => went_below h hb2, trivial⟩)
            rintro ⟨s2, zs2⟩
            rw [tyStr_f]
            go_simp
            apply wpRel_cons (t := tyStr _ (9))
            case h1 => (intro w' hl hd; have SW := Lib.hid (SL.out.went ((went_drewN SL.out.prog.made 1).trans (hl GW.out))); clear hl; clear hd; unfold relAt; go_simp; rw [if_neg (by omega)]; exact ⟨LeM.refl _ _, ⟨_, by first | omega | (simp [ByteArray.size_append, lit_size]; omega)⟩, rfl, trivial⟩)
            rintro ⟨s3, zs3⟩
            rw [tyStr_f]
            go_simp
            apply wpRel_cons (t := tyStr _ (11))
            case h1 => (intro w' hl hd; have SW := Lib.hid (SL.out.went ((went_drewN SL.out.prog.made 1).trans (hl GW.out))); clear hl; clear hd; unfold relAt; go_simp; rw [if_neg (by omega)]; exact ⟨LeM.refl _ _, ⟨_, by first | omega | (simp [ByteArray.size_append, lit_size]; omega)⟩, rfl, trivial⟩)
            rintro ⟨s4, zs4⟩
            rw [tyStr_f]
            go_simp
            apply wpRel_cons (t := tyStr _ (33 * a + 11 * b + 11))
            case h1 => (intro w' hl hd; have SW := Lib.hid (SL.out.went ((went_drewN SL.out.prog.made 1).trans (hl GW.out))); clear hl; clear hd; unfold relAt; go_simp; rw [if_neg (by omega)]; exact ⟨LeM.refl _ _, ⟨_, by first | omega | (simp [ByteArray.size_append, lit_size]; omega)⟩, rfl, trivial⟩)
            rintro ⟨s5, zs5⟩
            rw [tyStr_f]
            go_simp
            apply wpRel_cons (t := tyIs _ _)
            case h1 => (intro w' hl hd; clear hl hd; unfold relAt; go_simp; exact rel_is (LeM.refl g0))
            intro _
            rw [tyIs_f]
            go_simp
            apply wpRel_nil (Ts := [])
            intro w9 hl _
            have SE := Lib.hid (SL.out.went ((went_drewN SL.out.prog.made 1).trans (hl GW.out)))
            clear hl
            have hcl := SE.out.at_ a (by rw [HLN.out]; exact hh)
            have hfz := SE.out.warm a
            have SN := Lib.hid (SE.out.store a s5)
            have HBN : Hid (∀ x ∈ L.set a s5, x.size ≤ 33 * a + 11 * (b + 1)) := set_le HLB.out (by omega) (by omega)
            go_wp2_with fail
            go_roundw
            case rel => exact ⟨b + 1, _, by omega, by go_num, SN.out, (List.length_set ..).trans HLN.out, HBN.out⟩
            case measure => simp [intOf]; omega
        · have hbe : b = N := by omega
          have HLB1 : Hid (∀ s ∈ L, s.size ≤ 33 * (a + 1)) := fun s hs => by have := HLB.out s hs; omega
          clear hbe
          go_wp2_with fail
          go_roundw
          case rel => exact ⟨a + 1, L, by omega, by go_num, SL.out, HLN.out, HLB1.out⟩
          case measure => simp [intOf]; omega
    · have HLB1 : Hid (∀ s ∈ L, s.size ≤ 99) := fun s hs => by have := HLB.out s hs; omega
      have HLB := HLB1
      clear HLB1
      go_wp2_with fail
      refine (nextI_any d 3 _ (gd.out ▸ SL.out.prog.made.dice) (by omega) (by omega)).mono ?_
      rintro e w3 ⟨y, hy, rfl, ht, -⟩
      have S3 := Lib.hid (SL.out.thrown (gd.out.symm ▸ ht))
      clear ht SL
      have key : ∀ u : World, True := fun _ => trivial
      clear key
      by_cases hy0 : 0 < y
      · have hyi : (0 : Int) < (y : Int) := by omega
        go_wp2_with fail
        have GW := Lib.hid (went_drewN S3.out.prog.made 1).good
        apply wp_region_relT (LeM.refl g0) (LeM.trans g0) 9
        case hm => kernel_rfl
        case hB => kernel_rfl
        simp only [List.take_succ_cons, List.take_zero, List.drop_succ_cons, List.drop_zero]
        apply wpRel_cons (t := tyIs _ _)
        case h1 => (intro w' hl hd; clear hl hd; unfold relAt; go_simp; exact rel_is (LeM.refl g0))
        intro _
        rw [tyIs_f]
        go_simp
        apply wpRel_cons (t := tyIs _ _)
        case h1 => (intro w' hl hd; clear hl hd; unfold relAt; go_simp; exact rel_is (LeM.refl g0))
        intro _
        rw [tyIs_f]
        go_simp
        apply wpRel_cons (t := tyIs _ _)
        case h1 => (intro w' hl hd; clear hl hd; unfold relAt; go_simp; exact rel_is (LeM.refl g0))
        intro _
        rw [tyIs_f]
        go_simp
        apply wpRel_cons (t := tyNum _ N hN0)
        case h1 => (intro w' hl hd; have SW := Lib.hid (S3.out.went ((went_drewN S3.out.prog.made 1).trans (hl GW.out))); clear hl; clear hd; unfold relAt; go_simp; refine ⟨LeM.refl _ _, ?_⟩; rw [← gd.out]; refine (nextI_any g0.d N _ SW.out.prog.made.dice (by omega) (by omega)).mono ?_; rintro e w2 ⟨z1, hz1, rfl, ht, -⟩; exact ⟨⟨z1, by omega⟩, rfl, fun h => went_thrown h ht, trivial⟩)
        rintro ⟨z1, hz1⟩
        rw [tyNum_f]
        go_simp
        apply wpRel_cons (t := tyPt _ Tx N hN0)
        case h1 => (intro w' hl hd; have SW := Lib.hid (S3.out.went ((went_drewN S3.out.prog.made 1).trans (hl GW.out))); clear hl; clear hd; unfold relAt; go_simp; exact ⟨LeM.refl _ _, ⟨z1, hz1⟩, rfl, trivial⟩)
        rintro ⟨z2, hz2⟩
        rw [tyPt_f]
        go_simp
        apply wpRel_cons (t := tyStr _ (99))
        case h1 => (intro w' hl hd; have SW := Lib.hid (S3.out.went ((went_drewN S3.out.prog.made 1).trans (hl GW.out))); clear hl; clear hd; have hc := SW.out.at_ z2 (by rw [HLN.out]; exact hz2); unfold relAt; go_simp; exact ⟨LeM.refl _ _, ⟨_, getD_le HLB.out z2⟩, rfl, trivial⟩)
        rintro ⟨s1, zs1⟩
        rw [tyStr_f]
        go_simp
        apply wpRel_cons (t := tyStr _ 400)
        case h1 => (intro w' hl hd; have SW := Lib.hid (S3.out.went ((went_drewN S3.out.prog.made 1).trans (hl GW.out))); clear hl; clear hd; unfold relAt; go_simp; refine ⟨LeM.refl _ _, ?_⟩; refine (base_any _).mono ?_; rintro e w2 ⟨s, hs, rfl, rfl⟩; exact ⟨⟨s, hs⟩, rfl, LeM.refl _ _, trivial⟩)
        rintro ⟨s2, zs2⟩
        rw [tyStr_f]
        go_simp
        apply wpRel_cons (t := tyStr _ (499))
        case h1 => (intro w' hl hd; have SW := Lib.hid (S3.out.went ((went_drewN S3.out.prog.made 1).trans (hl GW.out))); clear hl; clear hd; unfold relAt; go_simp; rw [if_neg (by omega)]; exact ⟨LeM.refl _ _, ⟨_, by first | omega | (simp [ByteArray.size_append, lit_size]; omega)⟩, rfl, trivial⟩)
        rintro ⟨s5, zs5⟩
        rw [tyStr_f]
        go_simp
        apply wpRel_cons (t := tyPt _ Tx N hN0)
        case h1 => (intro w' hl hd; have SW := Lib.hid (S3.out.went ((went_drewN S3.out.prog.made 1).trans (hl GW.out))); clear hl; clear hd; unfold relAt; go_simp; exact ⟨LeM.refl _ _, ⟨z1, hz1⟩, rfl, trivial⟩)
        rintro ⟨z5, hz5⟩
        rw [tyPt_f]
        go_simp
        apply wpRel_nil (Ts := [])
        intro w9 hl _
        have SE := Lib.hid (S3.out.went ((went_drewN S3.out.prog.made 1).trans (hl GW.out)))
        clear hl
        have hcl := SE.out.at_ z5 (by rw [HLN.out]; exact hz5)
        have hfz := SE.out.warm z5
        have SN := Lib.hid (SE.out.store z5 s5)
        have HB4 : Hid (∀ x ∈ L.set z5 s5, x.size ≤ 499) := set_le HLB.out (by omega) (by omega)
        go_upto_region 14 with (fail)
        generalize w9.setCell ⟨Tx, z5, none⟩ (.string s5) = w10 at *
        have hgP := gP.out
        obtain ⟨g1, e1, e2, e3, p1, f1⟩ := SN.out.prog.flags
        have S4 := Lib.hid (SN.out.go p1 f1 e1 e2 (e3.trans SN.out.mac))
        rw [hgP] at S4
        have HLN4 : Hid ((L.set z5 s5).length = N) := (List.length_set ..).trans HLN.out
        have c4 := SN.out.prog.made.c4
        have c5 := SN.out.prog.made.c5
        have f4 := SN.out.prog.warm 4
        have f5 := SN.out.prog.warm 5
        rw [hgP] at c4 c5 f4 f5
        clear hgP e1 e2 e3 p1 f1 hcl hfz
        go_wp2_with fail
        clear c4 c5 f4 f5
        have TOK := S4
        have TOK2 := HLN4
        have TOK3 := HB4
        go_loopw [8, 9] (fun k _ wr => ∃ (b : Nat) (g : Made) (L : List ByteArray), b ≤ 7 ∧ k = .int .i64 b ∧ Hid (SrcL w d Tx b g L wr) ∧ Hid (L.length = N) ∧ Hid (∀ s ∈ L, s.size ≤ 499 + 1501 * b)) (fun k _ _ => 7 - (intOf k).toNat)
        case atStart => exact ⟨0, _, _, Nat.zero_le _, rfl, TOK.out, TOK2.out, TOK3.out⟩
        case round =>
          clear TOK TOK2 TOK3 HLN HLB gP gd
          obtain ⟨b, g, L, hb, rfl, SL, HLN, HLB⟩ := hrel
          have gP : Hid (g.P = w.heap.size) := SL.out.P
          have gd : Hid (g.d = d) := SL.out.d
          go_wp2_with fail
          refine (nextI_any d 6 _ (gd.out ▸ SL.out.prog.made.dice) (by omega) (by omega)).mono ?_
          rintro e w4 ⟨q, hq, rfl, ht, -⟩
          have S5 := Lib.hid (SL.out.thrown (gd.out.symm ▸ ht))
          clear ht SL
          by_cases hbq : b < 2 + q
          · have hbqi : (b : Int) < 2 + (q : Int) := by omega
            have hb6 : b ≤ 6 := by omega
            go_wp2_with fail
            refine (nextI_any d N _ (gd.out ▸ S5.out.prog.made.dice) (by omega) (by omega)).mono ?_
            rintro e w5 ⟨z, hz, rfl, ht, -⟩
            have S6 := Lib.hid (S5.out.thrown (gd.out.symm ▸ ht))
            clear ht S5
            have hzN : z < N := by omega
            have hzi : (z : Int) < (N : Int) := by omega
            have hc0 := S6.out.at_ z (by rw [HLN.out]; exact hzN)
            have htz := getD_le HLB.out z
            have HAT : Hid (∀ (g : Made) (u : World), SrcL w d Tx b g L u → u.cell? ⟨Tx, z, none⟩ = some (.string (L.getD z ByteArray.empty))) := fun g u h => h.at_ z (by rw [HLN.out]; exact hzN)
            have HAT2 : Hid (∀ (g : Made) (u : World), SrcL w d Tx (b + 1) g L u → u.cell? ⟨Tx, z, none⟩ = some (.string (L.getD z ByteArray.empty)) ∧ u.frozen? ⟨Tx, z, none⟩ = false ∧ ∀ s : ByteArray, s.size ≤ 1501 → ∃ L2 : List ByteArray, SrcL w d Tx (b + 1) g L2 (u.setCell ⟨Tx, z, none⟩ (.string (L.getD z ByteArray.empty ++ s))) ∧ L2.length = N ∧ ∀ x ∈ L2, x.size ≤ 499 + 1501 * (b + 1)) := fun g u h => ⟨h.at_ z (by rw [HLN.out]; exact hzN), h.warm z, fun s hs => ⟨_, h.store z _, (List.length_set ..).trans HLN.out, set_le HLB.out (by rw [ByteArray.size_append]; omega) (by omega)⟩⟩
            generalize L.getD z ByteArray.empty = tz at *
            go_wp2_with fail
            go_region_law (first | (go_simp; go_at_call 35; refine (letter_at z _ (by omega)).mono ?_; rintro e w6 ⟨rfl, hb6⟩; have S7 := Lib.hid (S6.out.drew.below hb6); have hc1 := HAT.out g w6 S7.out; clear hb6; go_simp) | (go_simp; go_at_call 37; refine (item_at (c := b) (m := letterOf z) gP.out (Nat.le_refl 1) (by omega) (by omega) S7.out.prog S7.out.mac).mono ?_; rintro e w7 ⟨s, g7, hs, rfl, hit⟩; have S8 := Lib.hid (S7.out.item hit); clear hit; obtain ⟨hc2, hf2, hst⟩ := HAT2.out g7 w7 S8.out; have HST := Lib.hid hst; clear hst; have hno1 : ¬ 9223372036854775807 < s.size + 1 := (by omega); have hno2 : ¬ 9223372036854775807 < tz.size + (s.size + 1) := (by omega); go_simp))
            all_goals
              obtain ⟨L9, S9, N9, B9⟩ := HST.out (s ++ ⟨#[10]⟩) (by simp [ByteArray.size_append, lit_size]; omega)
              have S9 := Lib.hid S9
              have N9 := Lib.hid N9
              have B9 := Lib.hid B9
              clear hc0 hc1 hc2 hf2
              go_wp2_with fail
              go_roundw
              case rel => exact ⟨b + 1, g7, L9, by omega, by go_num, S9.out, N9.out, B9.out⟩
              case measure => simp [intOf]; omega
          · have hbqi : 2 + (q : Int) ≤ (b : Int) := by omega
            have HLB7 : Hid (∀ s ∈ L, s.size ≤ 11006) := fun s hs => by have := HLB.out s hs; omega
            clear HLB
            have HLB := HLB7
            clear HLB7
            go_wp2_with fail
            have GW := Lib.hid (went_drewN S5.out.prog.made 1).good
            apply wp_region_relT (LeM.refl g) (LeM.trans g) 15
            case hm => kernel_rfl
            case hB => kernel_rfl
            simp only [List.take_succ_cons, List.take_zero, List.drop_succ_cons, List.drop_zero]
            apply wpRel_cons (t := tyIs _ _)
            case h1 => (intro w' hl hd; clear hl hd; unfold relAt; go_simp; exact rel_is (LeM.refl g))
            intro _
            rw [tyIs_f]
            go_simp
            apply wpRel_cons (t := tyIs _ _)
            case h1 => (intro w' hl hd; clear hl hd; unfold relAt; go_simp; exact rel_is (LeM.refl g))
            intro _
            rw [tyIs_f]
            go_simp
            apply wpRel_cons (t := tyIs _ _)
            case h1 => (intro w' hl hd; clear hl hd; unfold relAt; go_simp; exact rel_is (LeM.refl g))
            intro _
            rw [tyIs_f]
            go_simp
            apply wpRel_cons (t := tyNum _ N hN0)
            case h1 => (intro w' hl hd; have SW := Lib.hid (S5.out.went ((went_drewN S5.out.prog.made 1).trans (hl GW.out))); clear hl; clear hd; unfold relAt; go_simp; refine ⟨LeM.refl _ _, ?_⟩; rw [← gd.out]; refine (nextI_any g.d N _ SW.out.prog.made.dice (by omega) (by omega)).mono ?_; rintro e w2 ⟨z1, hz1, rfl, ht, -⟩; exact ⟨⟨z1, by omega⟩, rfl, fun h => went_thrown h ht, trivial⟩)
            rintro ⟨z1, hz1⟩
            rw [tyNum_f]
            go_simp
            apply wpRel_cons (t := tyPt _ Tx N hN0)
            case h1 => (intro w' hl hd; have SW := Lib.hid (S5.out.went ((went_drewN S5.out.prog.made 1).trans (hl GW.out))); clear hl; clear hd; unfold relAt; go_simp; exact ⟨LeM.refl _ _, ⟨z1, hz1⟩, rfl, trivial⟩)
            rintro ⟨z2, hz2⟩
            rw [tyPt_f]
            go_simp
            apply wpRel_cons (t := tyStr _ (11006))
            case h1 => (intro w' hl hd; have SW := Lib.hid (S5.out.went ((went_drewN S5.out.prog.made 1).trans (hl GW.out))); clear hl; clear hd; have hc := SW.out.at_ z2 (by rw [HLN.out]; exact hz2); unfold relAt; go_simp; exact ⟨LeM.refl _ _, ⟨_, getD_le HLB.out z2⟩, rfl, trivial⟩)
            rintro ⟨s1, zs1⟩
            rw [tyStr_f]
            go_simp
            apply wpRel_cons (t := tyIs _ _)
            case h1 => (intro w' hl hd; clear hl hd; unfold relAt; go_simp; exact rel_is (LeM.refl g))
            intro _
            rw [tyIs_f]
            go_simp
            apply wpRel_cons (t := tyIs _ _)
            case h1 => (intro w' hl hd; clear hl hd; unfold relAt; go_simp; exact rel_is (LeM.refl g))
            intro _
            rw [tyIs_f]
            go_simp
            apply wpRel_cons (t := tyNum _ 2 (Nat.zero_lt_succ 1))
            case h1 => (intro w' hl hd; have SW := Lib.hid (S5.out.went ((went_drewN S5.out.prog.made 1).trans (hl GW.out))); clear hl; clear hd; unfold relAt; go_simp; refine ⟨LeM.refl _ _, ?_⟩; rw [← gd.out]; refine (nextI_any g.d 2 _ SW.out.prog.made.dice (by omega) (by omega)).mono ?_; rintro e w2 ⟨v1, hv1, rfl, ht, -⟩; exact ⟨⟨v1, by omega⟩, rfl, fun h => went_thrown h ht, trivial⟩)
            rintro ⟨v1, hv1⟩
            rw [tyNum_f]
            go_simp
            apply wpRel_cons (t := tyN2 g)
            case h1 => (intro w' hl hd; have SW := Lib.hid (S5.out.went ((went_drewN S5.out.prog.made 1).trans (hl GW.out))); clear hl; clear hd; have ew : IntKind.i64.wrap (2 + (v1 : Int)) = 2 + (v1 : Int) := IntWalk.i64_in _ (by omega); unfold relAt; go_simp; exact ⟨LeM.refl _ _, ⟨v1, hv1⟩, rfl, trivial⟩)
            rintro ⟨v2, hv2⟩
            rw [tyN2_f]
            go_simp
            apply wpRel_cons (t := tyStr _ 1374)
            case h1 => (intro w' hl hd; have SW := Lib.hid (S5.out.went ((went_drewN S5.out.prog.made 1).trans (hl GW.out))); clear hl; clear hd; unfold relAt; go_simp; refine ⟨LeM.refl _ _, ?_⟩; refine (blk_at gP.out (by omega) (by omega) SW.out.prog.made).mono ?_; rintro e w2 ⟨s, hs, rfl, ht⟩; exact ⟨⟨s, hs⟩, rfl, fun _ => ht, trivial⟩)
            rintro ⟨s2, zs2⟩
            rw [tyStr_f]
            go_simp
            apply wpRel_cons (t := tyStr _ (1391))
            case h1 => (intro w' hl hd; have SW := Lib.hid (S5.out.went ((went_drewN S5.out.prog.made 1).trans (hl GW.out))); clear hl; clear hd; unfold relAt; go_simp; rw [if_neg (by omega)]; exact ⟨LeM.refl _ _, ⟨_, by first | omega | (simp [ByteArray.size_append, lit_size]; omega)⟩, rfl, trivial⟩)
            rintro ⟨s3, zs3⟩
            rw [tyStr_f]
            go_simp
            apply wpRel_cons (t := tyStr _ (1392))
            case h1 => (intro w' hl hd; have SW := Lib.hid (S5.out.went ((went_drewN S5.out.prog.made 1).trans (hl GW.out))); clear hl; clear hd; unfold relAt; go_simp; rw [if_neg (by omega)]; exact ⟨LeM.refl _ _, ⟨_, by first | omega | (simp [ByteArray.size_append, lit_size]; omega)⟩, rfl, trivial⟩)
            rintro ⟨s4, zs4⟩
            rw [tyStr_f]
            go_simp
            apply wpRel_cons (t := tyStr _ (12398))
            case h1 => (intro w' hl hd; have SW := Lib.hid (S5.out.went ((went_drewN S5.out.prog.made 1).trans (hl GW.out))); clear hl; clear hd; unfold relAt; go_simp; rw [if_neg (by omega)]; exact ⟨LeM.refl _ _, ⟨_, by first | omega | (simp [ByteArray.size_append, lit_size]; omega)⟩, rfl, trivial⟩)
            rintro ⟨s5, zs5⟩
            rw [tyStr_f]
            go_simp
            apply wpRel_cons (t := tyPt _ Tx N hN0)
            case h1 => (intro w' hl hd; have SW := Lib.hid (S5.out.went ((went_drewN S5.out.prog.made 1).trans (hl GW.out))); clear hl; clear hd; unfold relAt; go_simp; exact ⟨LeM.refl _ _, ⟨z1, hz1⟩, rfl, trivial⟩)
            rintro ⟨z5, hz5⟩
            rw [tyPt_f]
            go_simp
            apply wpRel_nil (Ts := [])
            intro w9 hl _
            have SE := Lib.hid (S5.out.went ((went_drewN S5.out.prog.made 1).trans (hl GW.out)))
            clear hl
            have hcl := SE.out.at_ z5 (by rw [HLN.out]; exact hz5)
            have hfz := SE.out.warm z5
            have FN := Lib.hid (SE.out.store z5 s5).fin
            have HBF : Hid (∀ x ∈ L.set z5 s5, x.size ≤ 12400) := set_le HLB.out (by omega) (by omega)
            have HLF : Hid ((L.set z5 s5).length = N) := (List.length_set ..).trans HLN.out
            generalize L.set z5 s5 = LF at *
            go_wp2_with fail
            clear hcl hfz
            go_loopw [10, 11] (fun out i wr => ∃ a : Nat, a ≤ N ∧ i = .int .i64 a ∧ Hid (OwnS wr (Tx + 1) out (mods LF a)) ∧ Hid (Fin0 w d Tx LF wr)) (fun _ i _ => N - (intOf i).toNat)
            case atStart => exact ⟨0, Nat.zero_le _, rfl, OwnS.isNil _ _, FN.out⟩
            case round =>
              clear FN
              obtain ⟨a9, ha9, rfl, OW, FN⟩ := hrel
              by_cases hlt9 : a9 < N
              · have hlti9 : (a9 : Int) < (N : Int) := by omega
                have HAT : Hid (∀ u : World, Fin0 w d Tx LF u → u.cell? ⟨Tx, a9, none⟩ = some (.string (LF.getD a9 ByteArray.empty))) := fun u h => h.at_ a9 (by rw [HLF.out]; exact hlt9)
                have HSN := Lib.hid (mods_snoc LF a9)
                have HLE : Hid ((mods LF a9).length + 1 ≤ 1800000000) := by show _ ≤ _; rw [mods_length]; omega
                generalize LF.getD a9 ByteArray.empty = tz at *
                go_wp2_with fail
                have FW := Lib.hid (FN.out.below (Below.refl _ _).drew)
                apply wp_region_relT LeW.refl LeW.trans 9
                case hm => kernel_rfl
                case hB => kernel_rfl
                simp only [List.take_succ_cons, List.take_zero, List.drop_succ_cons, List.drop_zero]
                apply wpRel_cons (t := tyIs LeW _)
                case h1 => (intro w' hl hd; clear hl hd; unfold relAt; go_simp; exact relW_is)
                intro _
                rw [tyIs_f]
                go_simp
                apply wpRel_cons (t := tyIs LeW _)
                case h1 => (intro w' hl hd; clear hl hd; unfold relAt; go_simp; exact relW_is)
                intro _
                rw [tyIs_f]
                go_simp
                apply wpRel_cons (t := tyIs LeW (.string (letterOf a9)))
                case h1 => (intro w' hl hd; clear hl hd; unfold relAt; go_simp; refine ⟨LeW.refl _, ?_⟩; refine (letter_any a9 _ (by omega)).mono ?_; rintro e w2 ⟨rfl, hb2⟩; exact ⟨(), rfl, hb2, trivial⟩)
                intro _
                rw [tyIs_f]
                go_simp
                apply wpRel_cons (t := tyIs LeW _)
                case h1 => (intro w' hl hd; clear hl hd; unfold relAt; go_simp; exact relW_is)
                intro _
                rw [tyIs_f]
                go_simp
                apply wpRel_cons (t := tyIs LeW _)
                case h1 => (intro w' hl hd; clear hl hd; unfold relAt; go_simp; exact relW_is)
                intro _
                rw [tyIs_f]
                go_simp
                apply wpRel_cons (t := tyIs LeW _)
                case h1 => (intro w' hl hd; clear hl hd; unfold relAt; go_simp; exact relW_is)
                intro _
                rw [tyIs_f]
                go_simp
                apply wpRel_cons (t := tyIs LeW (.string tz))
                case h1 => (intro w' hl hd; have hc := HAT.out w' (FW.out.below hl); clear hl hd; unfold relAt; go_simp; exact relW_is)
                intro _
                rw [tyIs_f]
                go_simp
                apply wpRel_cons (t := tyIs LeW _)
                case h1 => (intro w' hl hd; clear hl hd; unfold relAt; go_simp; exact relW_is)
                intro _
                rw [tyIs_f]
                go_simp
                apply wpRel_cons (t := tyBox (letterOf a9) tz)
                case h1 => (intro w' hl hd; clear hl hd; unfold relAt; go_simp; exact ⟨below_box _ _, ⟨_, trivial⟩, rfl, by rw [tyBox_p]; exact ⟨by simp [go_sem], by simp [go_sem]⟩⟩)
                rintro ⟨bx, -⟩
                rw [tyBox_f]
                go_simp
                apply wpRel_nil (Ts := [])
                intro w9 hl hF
                have hx := hF 8
                simp [upd, tyBox_p] at hx
                have F9 := Lib.hid (FW.out.below hl)
                have O9 := Lib.hid (OwnS.below OW.out (bnext (Below.refl _ _).drew hl))
                have HX := Lib.hid hx
                clear hl hF hx
                go_wp2_with (at_builtin; go_must (refine wpList_appendS (o := ⟨some 115, _, _, _, _, _⟩) rfl (.tmp 106) (.tmp 114) rfl (Tx + 1) _ _ rfl O9.out _ _ _ [(letterOf a9, tz)] rfl rfl (lies_one HX.out.1 HX.out.2) (fun h => by cases h) HLE.out F9.out.lt ?_; intro out2 w10 hown2 hb2))
                have O10 : Hid (OwnS w10 (Tx + 1) out2 (mods LF (a9 + 1))) := by show OwnS _ _ _ _; rw [HSN.out]; exact hown2
                have F10 := Lib.hid (F9.out.belowB hb2)
                clear hown2 hb2
                go_wp2_with fail
                go_roundw
                case rel => exact ⟨a9 + 1, by omega, by go_num, O10.out, F10.out⟩
                case measure => simp [intOf]; omega
              · have hae : a9 = N := by omega
                have HAE := Lib.hid hae
                clear hae
                go_wp2_with fail
                go_ret
                exact ⟨LF, _, rfl, by rw [HLF.out, ← HAE.out]; exact OwnS.mono OW.out (by have := FN.out.PT; omega), HBF.out, by have := HLF.out; omega, by have := HLF.out; omega, FN.out.dice, FN.out.fr⟩
      · have hyi : (y : Int) ≤ 0 := by omega
        have TOK := S3
        have TOK2 := HLN
        have TOK3 : Hid (∀ x ∈ L, x.size ≤ 499) := fun s hs => by have := HLB.out s hs; omega
        go_wp2_with fail
        go_loopw [8, 9] (fun k _ wr => ∃ (b : Nat) (g : Made) (L : List ByteArray), b ≤ 7 ∧ k = .int .i64 b ∧ Hid (SrcL w d Tx b g L wr) ∧ Hid (L.length = N) ∧ Hid (∀ s ∈ L, s.size ≤ 499 + 1501 * b)) (fun k _ _ => 7 - (intOf k).toNat)
        case atStart => exact ⟨0, _, _, Nat.zero_le _, rfl, TOK.out, TOK2.out, TOK3.out⟩
        case round =>
          clear TOK TOK2 TOK3 HLN HLB gP gd
          obtain ⟨b, g, L, hb, rfl, SL, HLN, HLB⟩ := hrel
          have gP : Hid (g.P = w.heap.size) := SL.out.P
          have gd : Hid (g.d = d) := SL.out.d
          go_wp2_with fail
          refine (nextI_any d 6 _ (gd.out ▸ SL.out.prog.made.dice) (by omega) (by omega)).mono ?_
          rintro e w4 ⟨q, hq, rfl, ht, -⟩
          have S5 := Lib.hid (SL.out.thrown (gd.out.symm ▸ ht))
          clear ht SL
          by_cases hbq : b < 2 + q
          · have hbqi : (b : Int) < 2 + (q : Int) := by omega
            have hb6 : b ≤ 6 := by omega
            go_wp2_with fail
            refine (nextI_any d N _ (gd.out ▸ S5.out.prog.made.dice) (by omega) (by omega)).mono ?_
            rintro e w5 ⟨z, hz, rfl, ht, -⟩
            have S6 := Lib.hid (S5.out.thrown (gd.out.symm ▸ ht))
            clear ht S5
            have hzN : z < N := by omega
            have hzi : (z : Int) < (N : Int) := by omega
            have hc0 := S6.out.at_ z (by rw [HLN.out]; exact hzN)
            have htz := getD_le HLB.out z
            have HAT : Hid (∀ (g : Made) (u : World), SrcL w d Tx b g L u → u.cell? ⟨Tx, z, none⟩ = some (.string (L.getD z ByteArray.empty))) := fun g u h => h.at_ z (by rw [HLN.out]; exact hzN)
            have HAT2 : Hid (∀ (g : Made) (u : World), SrcL w d Tx (b + 1) g L u → u.cell? ⟨Tx, z, none⟩ = some (.string (L.getD z ByteArray.empty)) ∧ u.frozen? ⟨Tx, z, none⟩ = false ∧ ∀ s : ByteArray, s.size ≤ 1501 → ∃ L2 : List ByteArray, SrcL w d Tx (b + 1) g L2 (u.setCell ⟨Tx, z, none⟩ (.string (L.getD z ByteArray.empty ++ s))) ∧ L2.length = N ∧ ∀ x ∈ L2, x.size ≤ 499 + 1501 * (b + 1)) := fun g u h => ⟨h.at_ z (by rw [HLN.out]; exact hzN), h.warm z, fun s hs => ⟨_, h.store z _, (List.length_set ..).trans HLN.out, set_le HLB.out (by rw [ByteArray.size_append]; omega) (by omega)⟩⟩
            generalize L.getD z ByteArray.empty = tz at *
            go_wp2_with fail
            go_region_law (first | (go_simp; go_at_call 35; refine (letter_at z _ (by omega)).mono ?_; rintro e w6 ⟨rfl, hb6⟩; have S7 := Lib.hid (S6.out.drew.below hb6); have hc1 := HAT.out g w6 S7.out; clear hb6; go_simp) | (go_simp; go_at_call 37; refine (item_at (c := b) (m := letterOf z) gP.out (Nat.le_refl 1) (by omega) (by omega) S7.out.prog S7.out.mac).mono ?_; rintro e w7 ⟨s, g7, hs, rfl, hit⟩; have S8 := Lib.hid (S7.out.item hit); clear hit; obtain ⟨hc2, hf2, hst⟩ := HAT2.out g7 w7 S8.out; have HST := Lib.hid hst; clear hst; have hno1 : ¬ 9223372036854775807 < s.size + 1 := (by omega); have hno2 : ¬ 9223372036854775807 < tz.size + (s.size + 1) := (by omega); go_simp))
            all_goals
              obtain ⟨L9, S9, N9, B9⟩ := HST.out (s ++ ⟨#[10]⟩) (by simp [ByteArray.size_append, lit_size]; omega)
              have S9 := Lib.hid S9
              have N9 := Lib.hid N9
              have B9 := Lib.hid B9
              clear hc0 hc1 hc2 hf2
              go_wp2_with fail
              go_roundw
              case rel => exact ⟨b + 1, g7, L9, by omega, by go_num, S9.out, N9.out, B9.out⟩
              case measure => simp [intOf]; omega
          · have hbqi : 2 + (q : Int) ≤ (b : Int) := by omega
            have HLB7 : Hid (∀ s ∈ L, s.size ≤ 11006) := fun s hs => by have := HLB.out s hs; omega
            clear HLB
            have HLB := HLB7
            clear HLB7
            go_wp2_with fail
            have GW := Lib.hid (went_drewN S5.out.prog.made 1).good
            apply wp_region_relT (LeM.refl g) (LeM.trans g) 15
            case hm => kernel_rfl
            case hB => kernel_rfl
            simp only [List.take_succ_cons, List.take_zero, List.drop_succ_cons, List.drop_zero]
            apply wpRel_cons (t := tyIs _ _)
            case h1 => (intro w' hl hd; clear hl hd; unfold relAt; go_simp; exact rel_is (LeM.refl g))
            intro _
            rw [tyIs_f]
            go_simp
            apply wpRel_cons (t := tyIs _ _)
            case h1 => (intro w' hl hd; clear hl hd; unfold relAt; go_simp; exact rel_is (LeM.refl g))
            intro _
            rw [tyIs_f]
            go_simp
            apply wpRel_cons (t := tyIs _ _)
            case h1 => (intro w' hl hd; clear hl hd; unfold relAt; go_simp; exact rel_is (LeM.refl g))
            intro _
            rw [tyIs_f]
            go_simp
            apply wpRel_cons (t := tyNum _ N hN0)
            case h1 => (intro w' hl hd; have SW := Lib.hid (S5.out.went ((went_drewN S5.out.prog.made 1).trans (hl GW.out))); clear hl; clear hd; unfold relAt; go_simp; refine ⟨LeM.refl _ _, ?_⟩; rw [← gd.out]; refine (nextI_any g.d N _ SW.out.prog.made.dice (by omega) (by omega)).mono ?_; rintro e w2 ⟨z1, hz1, rfl, ht, -⟩; exact ⟨⟨z1, by omega⟩, rfl, fun h => went_thrown h ht, trivial⟩)
            rintro ⟨z1, hz1⟩
            rw [tyNum_f]
            go_simp
            apply wpRel_cons (t := tyPt _ Tx N hN0)
            case h1 => (intro w' hl hd; have SW := Lib.hid (S5.out.went ((went_drewN S5.out.prog.made 1).trans (hl GW.out))); clear hl; clear hd; unfold relAt; go_simp; exact ⟨LeM.refl _ _, ⟨z1, hz1⟩, rfl, trivial⟩)
            rintro ⟨z2, hz2⟩
            rw [tyPt_f]
            go_simp
            apply wpRel_cons (t := tyStr _ (11006))
            case h1 => (intro w' hl hd; have SW := Lib.hid (S5.out.went ((went_drewN S5.out.prog.made 1).trans (hl GW.out))); clear hl; clear hd; have hc := SW.out.at_ z2 (by rw [HLN.out]; exact hz2); unfold relAt; go_simp; exact ⟨LeM.refl _ _, ⟨_, getD_le HLB.out z2⟩, rfl, trivial⟩)
            rintro ⟨s1, zs1⟩
            rw [tyStr_f]
            go_simp
            apply wpRel_cons (t := tyIs _ _)
            case h1 => (intro w' hl hd; clear hl hd; unfold relAt; go_simp; exact rel_is (LeM.refl g))
            intro _
            rw [tyIs_f]
            go_simp
            apply wpRel_cons (t := tyIs _ _)
            case h1 => (intro w' hl hd; clear hl hd; unfold relAt; go_simp; exact rel_is (LeM.refl g))
            intro _
            rw [tyIs_f]
            go_simp
            apply wpRel_cons (t := tyNum _ 2 (Nat.zero_lt_succ 1))
            case h1 => (intro w' hl hd; have SW := Lib.hid (S5.out.went ((went_drewN S5.out.prog.made 1).trans (hl GW.out))); clear hl; clear hd; unfold relAt; go_simp; refine ⟨LeM.refl _ _, ?_⟩; rw [← gd.out]; refine (nextI_any g.d 2 _ SW.out.prog.made.dice (by omega) (by omega)).mono ?_; rintro e w2 ⟨v1, hv1, rfl, ht, -⟩; exact ⟨⟨v1, by omega⟩, rfl, fun h => went_thrown h ht, trivial⟩)
            rintro ⟨v1, hv1⟩
            rw [tyNum_f]
            go_simp
            apply wpRel_cons (t := tyN2 g)
            case h1 => (intro w' hl hd; have SW := Lib.hid (S5.out.went ((went_drewN S5.out.prog.made 1).trans (hl GW.out))); clear hl; clear hd; have ew : IntKind.i64.wrap (2 + (v1 : Int)) = 2 + (v1 : Int) := IntWalk.i64_in _ (by omega); unfold relAt; go_simp; exact ⟨LeM.refl _ _, ⟨v1, hv1⟩, rfl, trivial⟩)
            rintro ⟨v2, hv2⟩
            rw [tyN2_f]
            go_simp
            apply wpRel_cons (t := tyStr _ 1374)
            case h1 => (intro w' hl hd; have SW := Lib.hid (S5.out.went ((went_drewN S5.out.prog.made 1).trans (hl GW.out))); clear hl; clear hd; unfold relAt; go_simp; refine ⟨LeM.refl _ _, ?_⟩; refine (blk_at gP.out (by omega) (by omega) SW.out.prog.made).mono ?_; rintro e w2 ⟨s, hs, rfl, ht⟩; exact ⟨⟨s, hs⟩, rfl, fun _ => ht, trivial⟩)
            rintro ⟨s2, zs2⟩
            rw [tyStr_f]
            go_simp
            apply wpRel_cons (t := tyStr _ (1391))
            case h1 => (intro w' hl hd; have SW := Lib.hid (S5.out.went ((went_drewN S5.out.prog.made 1).trans (hl GW.out))); clear hl; clear hd; unfold relAt; go_simp; rw [if_neg (by omega)]; exact ⟨LeM.refl _ _, ⟨_, by first | omega | (simp [ByteArray.size_append, lit_size]; omega)⟩, rfl, trivial⟩)
            rintro ⟨s3, zs3⟩
            rw [tyStr_f]
            go_simp
            apply wpRel_cons (t := tyStr _ (1392))
            case h1 => (intro w' hl hd; have SW := Lib.hid (S5.out.went ((went_drewN S5.out.prog.made 1).trans (hl GW.out))); clear hl; clear hd; unfold relAt; go_simp; rw [if_neg (by omega)]; exact ⟨LeM.refl _ _, ⟨_, by first | omega | (simp [ByteArray.size_append, lit_size]; omega)⟩, rfl, trivial⟩)
            rintro ⟨s4, zs4⟩
            rw [tyStr_f]
            go_simp
            apply wpRel_cons (t := tyStr _ (12398))
            case h1 => (intro w' hl hd; have SW := Lib.hid (S5.out.went ((went_drewN S5.out.prog.made 1).trans (hl GW.out))); clear hl; clear hd; unfold relAt; go_simp; rw [if_neg (by omega)]; exact ⟨LeM.refl _ _, ⟨_, by first | omega | (simp [ByteArray.size_append, lit_size]; omega)⟩, rfl, trivial⟩)
            rintro ⟨s5, zs5⟩
            rw [tyStr_f]
            go_simp
            apply wpRel_cons (t := tyPt _ Tx N hN0)
            case h1 => (intro w' hl hd; have SW := Lib.hid (S5.out.went ((went_drewN S5.out.prog.made 1).trans (hl GW.out))); clear hl; clear hd; unfold relAt; go_simp; exact ⟨LeM.refl _ _, ⟨z1, hz1⟩, rfl, trivial⟩)
            rintro ⟨z5, hz5⟩
            rw [tyPt_f]
            go_simp
            apply wpRel_nil (Ts := [])
            intro w9 hl _
            have SE := Lib.hid (S5.out.went ((went_drewN S5.out.prog.made 1).trans (hl GW.out)))
            clear hl
            have hcl := SE.out.at_ z5 (by rw [HLN.out]; exact hz5)
            have hfz := SE.out.warm z5
            have FN := Lib.hid (SE.out.store z5 s5).fin
            have HBF : Hid (∀ x ∈ L.set z5 s5, x.size ≤ 12400) := set_le HLB.out (by omega) (by omega)
            have HLF : Hid ((L.set z5 s5).length = N) := (List.length_set ..).trans HLN.out
            generalize L.set z5 s5 = LF at *
            go_wp2_with fail
            clear hcl hfz
            go_loopw [10, 11] (fun out i wr => ∃ a : Nat, a ≤ N ∧ i = .int .i64 a ∧ Hid (OwnS wr (Tx + 1) out (mods LF a)) ∧ Hid (Fin0 w d Tx LF wr)) (fun _ i _ => N - (intOf i).toNat)
            case atStart => exact ⟨0, Nat.zero_le _, rfl, OwnS.isNil _ _, FN.out⟩
            case round =>
              clear FN
              obtain ⟨a9, ha9, rfl, OW, FN⟩ := hrel
              by_cases hlt9 : a9 < N
              · have hlti9 : (a9 : Int) < (N : Int) := by omega
                have HAT : Hid (∀ u : World, Fin0 w d Tx LF u → u.cell? ⟨Tx, a9, none⟩ = some (.string (LF.getD a9 ByteArray.empty))) := fun u h => h.at_ a9 (by rw [HLF.out]; exact hlt9)
                have HSN := Lib.hid (mods_snoc LF a9)
                have HLE : Hid ((mods LF a9).length + 1 ≤ 1800000000) := by show _ ≤ _; rw [mods_length]; omega
                generalize LF.getD a9 ByteArray.empty = tz at *
                go_wp2_with fail
                have FW := Lib.hid (FN.out.below (Below.refl _ _).drew)
                apply wp_region_relT LeW.refl LeW.trans 9
                case hm => kernel_rfl
                case hB => kernel_rfl
                simp only [List.take_succ_cons, List.take_zero, List.drop_succ_cons, List.drop_zero]
                apply wpRel_cons (t := tyIs LeW _)
                case h1 => (intro w' hl hd; clear hl hd; unfold relAt; go_simp; exact relW_is)
                intro _
                rw [tyIs_f]
                go_simp
                apply wpRel_cons (t := tyIs LeW _)
                case h1 => (intro w' hl hd; clear hl hd; unfold relAt; go_simp; exact relW_is)
                intro _
                rw [tyIs_f]
                go_simp
                apply wpRel_cons (t := tyIs LeW (.string (letterOf a9)))
                case h1 => (intro w' hl hd; clear hl hd; unfold relAt; go_simp; refine ⟨LeW.refl _, ?_⟩; refine (letter_any a9 _ (by omega)).mono ?_; rintro e w2 ⟨rfl, hb2⟩; exact ⟨(), rfl, hb2, trivial⟩)
                intro _
                rw [tyIs_f]
                go_simp
                apply wpRel_cons (t := tyIs LeW _)
                case h1 => (intro w' hl hd; clear hl hd; unfold relAt; go_simp; exact relW_is)
                intro _
                rw [tyIs_f]
                go_simp
                apply wpRel_cons (t := tyIs LeW _)
                case h1 => (intro w' hl hd; clear hl hd; unfold relAt; go_simp; exact relW_is)
                intro _
                rw [tyIs_f]
                go_simp
                apply wpRel_cons (t := tyIs LeW _)
                case h1 => (intro w' hl hd; clear hl hd; unfold relAt; go_simp; exact relW_is)
                intro _
                rw [tyIs_f]
                go_simp
                apply wpRel_cons (t := tyIs LeW (.string tz))
                case h1 => (intro w' hl hd; have hc := HAT.out w' (FW.out.below hl); clear hl hd; unfold relAt; go_simp; exact relW_is)
                intro _
                rw [tyIs_f]
                go_simp
                apply wpRel_cons (t := tyIs LeW _)
                case h1 => (intro w' hl hd; clear hl hd; unfold relAt; go_simp; exact relW_is)
                intro _
                rw [tyIs_f]
                go_simp
                apply wpRel_cons (t := tyBox (letterOf a9) tz)
                case h1 => (intro w' hl hd; clear hl hd; unfold relAt; go_simp; exact ⟨below_box _ _, ⟨_, trivial⟩, rfl, by rw [tyBox_p]; exact ⟨by simp [go_sem], by simp [go_sem]⟩⟩)
                rintro ⟨bx, -⟩
                rw [tyBox_f]
                go_simp
                apply wpRel_nil (Ts := [])
                intro w9 hl hF
                have hx := hF 8
                simp [upd, tyBox_p] at hx
                have F9 := Lib.hid (FW.out.below hl)
                have O9 := Lib.hid (OwnS.below OW.out (bnext (Below.refl _ _).drew hl))
                have HX := Lib.hid hx
                clear hl hF hx
                go_wp2_with (at_builtin; go_must (refine wpList_appendS (o := ⟨some 115, _, _, _, _, _⟩) rfl (.tmp 106) (.tmp 114) rfl (Tx + 1) _ _ rfl O9.out _ _ _ [(letterOf a9, tz)] rfl rfl (lies_one HX.out.1 HX.out.2) (fun h => by cases h) HLE.out F9.out.lt ?_; intro out2 w10 hown2 hb2))
                have O10 : Hid (OwnS w10 (Tx + 1) out2 (mods LF (a9 + 1))) := by show OwnS _ _ _ _; rw [HSN.out]; exact hown2
                have F10 := Lib.hid (F9.out.belowB hb2)
                clear hown2 hb2
                go_wp2_with fail
                go_roundw
                case rel => exact ⟨a9 + 1, by omega, by go_num, O10.out, F10.out⟩
                case measure => simp [intOf]; omega
              · have hae : a9 = N := by omega
                have HAE := Lib.hid hae
                clear hae
                go_wp2_with fail
                go_ret
                exact ⟨LF, _, rfl, by rw [HLF.out, ← HAE.out]; exact OwnS.mono OW.out (by have := FN.out.PT; omega), HBF.out, by have := HLF.out; omega, by have := HLF.out; omega, FN.out.dice, FN.out.fr⟩

end Go.Proofs.YtnkojbnkdihbkaaGreat
