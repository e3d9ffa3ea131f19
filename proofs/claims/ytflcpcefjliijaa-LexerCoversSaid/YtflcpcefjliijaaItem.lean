/-
  CONTRACTS: the making of an item: a text of at most 1500 bytes, and a name more in a list.
-/
import Derived.Test.YtflcpcefjliijaaLists
namespace Go.Proofs.Ytflcpcefjliijaa
open Go Go.RowKit
set_option linter.unusedVariables false
set_option linter.unusedSimpArgs false

/-- a flag or a list of the program has been set, or nothing: the program goes on -/
structure ItemAt (ob c : Nat) (g0 g : Made) (w0 w : World) : Prop where
  at_ : ProgAt ob c g w
  fr : Fr ob g0.d.D g0.P w0 w
  d : g.d = g0.d
  P : g.P = g0.P
  mac : g.macro_ = g0.macro_
theorem ItemAt.start {ob c : Nat} {g : Made} {w : World} (h : ProgAt ob c g w) : ItemAt ob c g g w w := ⟨h, Fr.refl _ _ _ _, rfl, rfl, rfl⟩
theorem ItemAt.went {ob c : Nat} {g0 g : Made} {w0 w w' : World} (h : ItemAt ob c g0 g w0 w) (k : Went g w w') : ItemAt ob c g0 g w0 w' :=
  ⟨h.at_.went k, h.fr.trans ((Fr.went h.at_ k).cast (by rw [h.d]) h.P), h.d, h.P, h.mac⟩
theorem ItemAt.thrown {ob c : Nat} {g0 g : Made} {w0 w w' : World} (h : ItemAt ob c g0 g w0 w) (k : Thrown g.d w w') : ItemAt ob c g0 g w0 w' := h.went (went_thrown h.at_.made k)
theorem ItemAt.below {ob c : Nat} {g0 g : Made} {w0 w w' : World} (h : ItemAt ob c g0 g w0 w) (k : Below w.heap.size w w') : ItemAt ob c g0 g w0 w' := h.went (went_below h.at_.made k)
theorem ItemAt.alloc {ob c : Nat} {g0 g : Made} {w0 w : World} (h : ItemAt ob c g0 g w0 w) (o : Obj) : ItemAt ob c g0 g w0 (w.alloc o) := h.went (went_alloc h.at_.made o)

theorem ItemAt.push1 {ob c : Nat} {g0 g : Made} {w0 w w1 : World} {v : Value} (h : ItemAt ob c g0 g w0 w) (k : Pushed ob w g.fp g.fn g.fc v w1) (hc : c + 1 ≤ 90) : (∃ g', ItemAt ob (c + 1) g0 g' w0 (w1.setCell ⟨g.P, 1, none⟩ v)) ∧ (∃ u, w1.cell? ⟨g.P, 1, none⟩ = some u) ∧ w1.frozen? ⟨g.P, 1, none⟩ = false := by
  obtain ⟨⟨p', c', rfl, hl⟩, hg, ho⟩ := k
  have k : Pushed ob w g.fp g.fn g.fc (.slice p' (g.fn + 1) c') w1 := ⟨⟨p', c', rfl, hl⟩, hg, ho⟩
  obtain ⟨a1, a2, a3⟩ := k.stands h.at_.l2 h.at_.o21 h.at_.o12
  obtain ⟨b1, b2, b3⟩ := k.stands h.at_.l3 h.at_.o31 h.at_.o13
  have hb := k.below h.at_.l1 h.at_.siz
  have hcnt := h.at_.cnt
  refine ⟨⟨{ g with fp := p', fn := g.fn + 1, fc := c' }, ?_⟩, ⟨_, (hb.cell (p := ⟨g.P, 1, none⟩) h.at_.pob).trans h.at_.made.c1⟩, (hb.frozen (p := ⟨g.P, 1, none⟩) h.at_.pob).trans (h.at_.warm 1)⟩
  have := h.at_.put (g' := { g with fp := p', fn := g.fn + 1, fc := c' }) (c2 := c + 1) hb (j := 1) (by omega) rfl rfl (fun i hi hi2 => by rcases hi2 with rfl | rfl | rfl | rfl | rfl | rfl <;> first | rfl | exact absurd rfl hi) hl a1 b1 a3 b3 a2 h.at_.o23 b2 h.at_.o32 (by simp only; omega) hc
  exact ⟨this.1, h.fr.trans (this.2.cast (by rw [h.d]) h.P), h.d, h.P, h.mac⟩
theorem ItemAt.push2 {ob c : Nat} {g0 g : Made} {w0 w w1 : World} {v : Value} (h : ItemAt ob c g0 g w0 w) (k : Pushed ob w g.cp g.cn g.cc v w1) (hc : c + 1 ≤ 90) : (∃ g', ItemAt ob (c + 1) g0 g' w0 (w1.setCell ⟨g.P, 2, none⟩ v)) ∧ (∃ u, w1.cell? ⟨g.P, 2, none⟩ = some u) ∧ w1.frozen? ⟨g.P, 2, none⟩ = false := by
  obtain ⟨⟨p', c', rfl, hl⟩, hg, ho⟩ := k
  have k : Pushed ob w g.cp g.cn g.cc (.slice p' (g.cn + 1) c') w1 := ⟨⟨p', c', rfl, hl⟩, hg, ho⟩
  obtain ⟨a1, a2, a3⟩ := k.stands h.at_.l1 h.at_.o12 h.at_.o21
  obtain ⟨b1, b2, b3⟩ := k.stands h.at_.l3 h.at_.o32 h.at_.o23
  have hb := k.below h.at_.l2 h.at_.siz
  have hcnt := h.at_.cnt
  refine ⟨⟨{ g with cp := p', cn := g.cn + 1, cc := c' }, ?_⟩, ⟨_, (hb.cell (p := ⟨g.P, 2, none⟩) h.at_.pob).trans h.at_.made.c2⟩, (hb.frozen (p := ⟨g.P, 2, none⟩) h.at_.pob).trans (h.at_.warm 2)⟩
  have := h.at_.put (g' := { g with cp := p', cn := g.cn + 1, cc := c' }) (c2 := c + 1) hb (j := 2) (by omega) rfl rfl (fun i hi hi2 => by rcases hi2 with rfl | rfl | rfl | rfl | rfl | rfl <;> first | rfl | exact absurd rfl hi) a1 hl b1 a2 h.at_.o13 a3 b3 h.at_.o31 b2 (by simp only; omega) hc
  exact ⟨this.1, h.fr.trans (this.2.cast (by rw [h.d]) h.P), h.d, h.P, h.mac⟩
theorem ItemAt.push3 {ob c : Nat} {g0 g : Made} {w0 w w1 : World} {v : Value} (h : ItemAt ob c g0 g w0 w) (k : Pushed ob w g.mp g.mn g.mc v w1) (hc : c + 1 ≤ 90) : (∃ g', ItemAt ob (c + 1) g0 g' w0 (w1.setCell ⟨g.P, 3, none⟩ v)) ∧ (∃ u, w1.cell? ⟨g.P, 3, none⟩ = some u) ∧ w1.frozen? ⟨g.P, 3, none⟩ = false := by
  obtain ⟨⟨p', c', rfl, hl⟩, hg, ho⟩ := k
  have k : Pushed ob w g.mp g.mn g.mc (.slice p' (g.mn + 1) c') w1 := ⟨⟨p', c', rfl, hl⟩, hg, ho⟩
  obtain ⟨a1, a2, a3⟩ := k.stands h.at_.l1 h.at_.o13 h.at_.o31
  obtain ⟨b1, b2, b3⟩ := k.stands h.at_.l2 h.at_.o23 h.at_.o32
  have hb := k.below h.at_.l3 h.at_.siz
  have hcnt := h.at_.cnt
  refine ⟨⟨{ g with mp := p', mn := g.mn + 1, mc := c' }, ?_⟩, ⟨_, (hb.cell (p := ⟨g.P, 3, none⟩) h.at_.pob).trans h.at_.made.c3⟩, (hb.frozen (p := ⟨g.P, 3, none⟩) h.at_.pob).trans (h.at_.warm 3)⟩
  have := h.at_.put (g' := { g with mp := p', mn := g.mn + 1, mc := c' }) (c2 := c + 1) hb (j := 3) (by omega) rfl rfl (fun i hi hi2 => by rcases hi2 with rfl | rfl | rfl | rfl | rfl | rfl <;> first | rfl | exact absurd rfl hi) a1 b1 hl h.at_.o12 a2 h.at_.o21 b2 a3 b3 (by simp only; omega) hc
  exact ⟨this.1, h.fr.trans (this.2.cast (by rw [h.d]) h.P), h.d, h.P, h.mac⟩

/-- the flag of macros -/
theorem ItemAt.flag {ob c : Nat} {g0 g : Made} {w0 w : World} (h : ItemAt ob c g0 g w0 w) (b : Bool) : ProgAt ob c { g with macro_ := b } (w.setCell ⟨g.P, 7, none⟩ (.bool b)) ∧ Fr ob g0.d.D g0.P w0 (w.setCell ⟨g.P, 7, none⟩ (.bool b)) := by
  have := h.at_.put (g' := { g with macro_ := b }) (c2 := c) (Below.refl ob w) (j := 7) (by omega) rfl rfl (fun i hi hi2 => by rcases hi2 with rfl | rfl | rfl | rfl | rfl | rfl <;> first | rfl | exact absurd rfl hi) h.at_.l1 h.at_.l2 h.at_.l3 h.at_.o12 h.at_.o13 h.at_.o21 h.at_.o23 h.at_.o31 h.at_.o32 h.at_.cnt h.at_.few
  exact ⟨this.1, h.fr.trans (this.2.cast (by rw [h.d]) h.P)⟩
/-- the flags of records -/
theorem ProgAt.flags {ob c : Nat} {g : Made} {w : World} (h : ProgAt ob c g w) : ∃ g', g'.d = g.d ∧ g'.P = g.P ∧ g'.macro_ = g.macro_ ∧ ProgAt ob c g' ((w.setCell ⟨g.P, 4, none⟩ (.bool true)).setCell ⟨g.P, 5, none⟩ (.bool true)) ∧ Fr ob g.d.D g.P w ((w.setCell ⟨g.P, 4, none⟩ (.bool true)).setCell ⟨g.P, 5, none⟩ (.bool true)) := by
  have h1 := h.put (g' := { g with records := true }) (c2 := c) (Below.refl ob w) (j := 4) (by omega) rfl rfl (fun i hi hi2 => by rcases hi2 with rfl | rfl | rfl | rfl | rfl | rfl <;> first | rfl | exact absurd rfl hi) h.l1 h.l2 h.l3 h.o12 h.o13 h.o21 h.o23 h.o31 h.o32 h.cnt h.few
  have k := h1.1
  have h2 := k.put (g' := { g with records := true, shows := true }) (c2 := c) (Below.refl ob _) (j := 5) (by omega) rfl rfl (fun i hi hi2 => by rcases hi2 with rfl | rfl | rfl | rfl | rfl | rfl <;> first | rfl | exact absurd rfl hi) k.l1 k.l2 k.l3 k.o12 k.o13 k.o21 k.o23 k.o31 k.o32 k.cnt k.few
  exact ⟨{ g with records := true, shows := true }, rfl, rfl, rfl, h2.1, h1.2.trans h2.2⟩

def ItemPost (ob c : Nat) (g : Made) (w : World) (e : Ending) (w' : World) : Prop := ∃ (s : ByteArray) (g' : Made), s.size ≤ 1500 ∧ e = .returned (.string s) ∧ ItemAt ob (c + 1) g g' w w'

theorem vars_nil (g : Made) (w : World) : Vars g w none 0 := ⟨fun i hi => absurd hi (by omega), fun b o e => by cases e⟩
theorem vars_one {g : Made} {w : World} (h : MadeAt g w) (s : ByteArray) (hs : s.size ≤ 8) (t : TypeId) : Vars g (w.alloc (.cells #[.string s] t)) (some ⟨w.heap.size, 0, none⟩) 1 := by
  have hD := World.block_lt_of_cell? w _ h.dice.at_
  have hP := World.block_lt_of_cell? w _ h.c6
  simp only at hD hP
  refine ⟨fun i hi => ?_, fun b o e => ?_⟩
  · have e : i = 0 := by omega
    subst e
    exact ⟨_, 0, s, rfl, by simp [go_sem], hs⟩
  · injection e with e; injection e with e _ _; omega
theorem vars_two {g : Made} {w : World} (h : MadeAt g w) (a b : ByteArray) (ha : a.size ≤ 8) (hb : b.size ≤ 8) (t : TypeId) : Vars g (w.alloc (.cells #[.string a, .string b] t)) (some ⟨w.heap.size, 0, none⟩) 2 := by
  have hD := World.block_lt_of_cell? w _ h.dice.at_
  have hP := World.block_lt_of_cell? w _ h.c6
  simp only at hD hP
  refine ⟨shorts_two a b ha hb t w, fun x o e => ?_⟩
  injection e with e; injection e with e _ _; omega

theorem size_set (w : World) (a : Addr) (u : Value) : (w.setCell a u).heap.size = w.heap.size := by simp [World.setCell]
theorem size_box {g : Made} {w W : World} {a : Addr} {u : Value} {n : Nat} (h : Vars g W (some ⟨(w.setCell a u).heap.size, 0, none⟩) n) : Vars g W (some ⟨w.heap.size, 0, none⟩) n := by rwa [size_set] at h
theorem size_boxS {N : Nat} {w W : World} {a : Addr} {u : Value} {n : Nat} (h : Shorts N W (some ⟨(w.setCell a u).heap.size, 0, none⟩) n) : Shorts N W (some ⟨w.heap.size, 0, none⟩) n := by rwa [size_set] at h
theorem away_set {d : Dice} {w : World} {a : Addr} {u : Value} (h : DiceAt d (w.setCell a u)) : w.heap.size ≠ d.D := by have := away_new h; rwa [size_set] at this
theorem int_flag (g : Made) (b : Bool) (p : Option Addr) (n cap : Nat) (w : World) (hg : MadeAt { g with macro_ := b } w) (hv : Vars { g with macro_ := b } w p n) (hn : n ≤ 10) :
    Calls Try.prog 62 #[.pointer (some ⟨g.P, 0, none⟩), .int .i64 1, .slice p n cap] w fun e w' => ∃ s : ByteArray, s.size ≤ 174 ∧ e = .returned (.string s) ∧ Went { g with macro_ := b } w w' :=
  int_1 { g with macro_ := b } 1 p n cap w (by omega) (by omega) hg hv (by omega)
theorem flag_fr {ob c : Nat} {g0 g : Made} {w0 w : World} (h : ItemAt ob c g0 g w0 w) (b : Bool) : Fr ob g0.d.D g0.P w (w.setCell ⟨g.P, 7, none⟩ (.bool b)) := by
  have := h.at_.put (g' := { g with macro_ := b }) (c2 := c) (Below.refl ob w) (j := 7) (by omega) rfl rfl (fun i hi hi2 => by rcases hi2 with rfl | rfl | rfl | rfl | rfl | rfl <;> first | rfl | exact absurd rfl hi) h.at_.l1 h.at_.l2 h.at_.l3 h.at_.o12 h.at_.o13 h.at_.o21 h.at_.o23 h.at_.o31 h.at_.o32 h.at_.cnt h.at_.few
  exact this.2.cast (by rw [h.d]) h.P
theorem shortsN_four (N : Nat) (a b c d : ByteArray) (ha : a.size ≤ N) (hb : b.size ≤ N) (hc : c.size ≤ N) (hd : d.size ≤ N) (t : TypeId) (w : World) : Shorts N (w.alloc (.cells #[.string a, .string b, .string c, .string d] t)) (some ⟨w.heap.size, 0, none⟩) 4 := by
  intro i hi
  rcases (by omega : i = 0 ∨ i = 1 ∨ i = 2 ∨ i = 3) with rfl | rfl | rfl | rfl
  · exact ⟨_, 0, a, rfl, by simp, ha⟩
  · exact ⟨_, 0, b, rfl, by simp, hb⟩
  · exact ⟨_, 0, c, rfl, by simp, hc⟩
  · exact ⟨_, 0, d, rfl, by simp, hd⟩

set_option maxRecDepth 1000000 in
set_option maxHeartbeats 20000000 in
theorem item_any (ob c : Nat) (g : Made) (m : ByteArray) (k : Nat) (w : World) (hm : m.size ≤ 1) (hk : k < 1000) (hc : c + 1 ≤ 90) (hg : ProgAt ob c g w) (hmac : g.macro_ = false) :
    Calls Try.prog 33 #[.pointer (some ⟨g.P, 0, none⟩), .string m, .int .i64 (k : Nat)] w (ItemPost ob c g w) := by
  have K0 := Lib.hid (ItemAt.start hg)
  have c0 := hg.made.c0
  have HM := Lib.hid hmac
  clear hg hmac
  go_enter Try.func33, Try.ntmps33
  go_wp2_with fail
  refine (digits_any k _ (by omega)).mono ?_
  rintro e w1 ⟨dg, hdg, rfl, hb⟩
  have K1 := Lib.hid (K0.out.below hb)
  clear hb c0
  go_wp2_with fail
  refine (nextI_any g.d 6 _ K1.out.at_.made.dice (by omega) (by omega)).mono ?_
  rintro e w2 ⟨x, hx, rfl, ht, -⟩
  have K2 := Lib.hid (K1.out.thrown ht)
  clear ht
  rcases (by omega : x = 0 ∨ x = 1 ∨ x = 2 ∨ x = 3 ∨ x = 4 ∨ x = 5) with rfl | rfl | rfl | rfl | rfl | rfl
  · go_wp2_with fail
    refine (nextI_any g.d 2 _ K2.out.at_.made.dice (by omega) (by omega)).mono ?_
    rintro e w3 ⟨y, hy, rfl, ht, -⟩
    have K3 := Lib.hid (K2.out.thrown ht)
    clear ht
    go_wp2_with fail
    refine (int_2 g (1 + (y : Int)) none 0 0 _ (by omega) (by omega) K3.out.at_.made (vars_nil g _) (by omega)).mono ?_
    rintro e w4 ⟨t, zt, rfl, ht⟩
    have K4 := Lib.hid (K3.out.went ht)
    clear ht
    have c2 := K4.out.at_.made.c2
    go_wp2_with (at_builtin; go_must (refine wpList_push (o := ⟨some 45, _, _, _, _, _⟩) rfl (.tmp 41) (.tmp 44) rfl ob g.cp g.cn g.cc rfl (K4.out.alloc _).at_.l2 _ (⟨#[99]⟩ ++ (m ++ dg)) rfl (by simp [go_sem]) (by simp [ByteArray.size_append, lit_size]; omega) (by have h1 : g.fn + g.cn + g.mn ≤ c := K4.out.at_.cnt; have := K4.out.at_.few; omega) (K4.out.alloc _).at_.siz ?_; intro v' d' w7 hp7; obtain ⟨⟨g7, hk7⟩, ⟨u7, hcl⟩, hfz⟩ := (K4.out.alloc _).push2 hp7 (by omega); have K7 := Lib.hid hk7; clear hp7 hk7 c2))
    go_ret
    exact ⟨_, g7, by simp [ByteArray.size_append, lit_size]; omega, rfl, K7.out⟩
  · have c7 := K2.out.at_.made.c7
    have hf := K2.out.at_.warm 7
    have K3 := Lib.hid (K2.out.flag true)
    have K4 := Lib.hid (ItemAt.start K3.out.1)
    have V4 := Lib.hid (size_box (vars_one K4.out.at_.made ⟨#[101]⟩ (by decide) 9))
    go_wp2_with fail
    clear c7 hf
    refine (int_flag g true _ 1 1 _ (K4.out.alloc _).at_.made V4.out (by omega)).mono ?_
    rintro e w5 ⟨t, zt, rfl, ht⟩
    have K5 := Lib.hid ((K4.out.alloc _).went ht)
    clear ht
    have c7 := K5.out.at_.made.c7
    have hf := K5.out.at_.warm 7
    simp only at c7 hf
    have K6 : Hid (ItemAt ob c g { g with macro_ := false } w (w5.setCell ⟨g.P, 7, none⟩ (.bool false))) := by
      have h := K5.out.flag false
      exact ⟨h.1, (K2.out.fr.trans ((Fr.refl _ _ _ _).trans (flag_fr K2.out true))).trans h.2, rfl, rfl, HM.out.symm⟩
    have S6 := Lib.hid (size_boxS (shortsN_four 174 ⟨#[101, 32, 43, 32, 101]⟩ ⟨#[123, 32, 108, 101, 116, 32, 116, 32, 61, 32, 101, 59, 32, 116, 32, 42, 32, 116, 32, 125]⟩ ⟨#[105, 102, 32, 101, 32, 60, 32, 53, 32, 123, 32, 49, 32, 125, 32, 101, 108, 115, 101, 32, 123, 32, 101, 32, 125]⟩ t (by decide) (by decide) (by decide) zt 9 (w5.setCell ⟨g.P, 7, none⟩ (.bool false))))
    go_wp2_with fail
    clear c7 hf
    refine (of_any g.d 174 4 _ _ _ _ (K6.out.alloc _).at_.made.dice (by omega) (by omega) S6.out (away_set K6.out.at_.made.dice)).mono ?_
    rintro e w7 ⟨u, zu, rfl, ht⟩
    have K8 := Lib.hid ((K6.out.alloc _).thrown ht)
    clear ht
    have c3 := K8.out.at_.made.c3
    go_wp2_with (at_builtin; go_must (refine wpList_push (o := ⟨some 77, _, _, _, _, _⟩) rfl (.tmp 73) (.tmp 76) rfl ob g.mp g.mn g.mc rfl (K8.out.alloc _).at_.l3 _ (⟨#[109]⟩ ++ (m ++ dg)) rfl (by simp [go_sem]) (by simp [ByteArray.size_append, lit_size]; omega) (by have h1 : g.fn + g.cn + g.mn ≤ c := K8.out.at_.cnt; have := K8.out.at_.few; omega) (K8.out.alloc _).at_.siz ?_; intro v' d' w7 hp7; obtain ⟨⟨g7, hk7⟩, ⟨u7, hcl⟩, hfz⟩ := (K8.out.alloc _).push3 hp7 (by omega); have K7 := Lib.hid hk7; clear hp7 hk7 c3))
    go_ret
    exact ⟨_, g7, by simp [ByteArray.size_append, lit_size]; omega, rfl, K7.out⟩
  · go_wp2_with fail
    refine (int_1 g 1 _ 2 2 _ (by omega) (by omega) (K2.out.alloc _).at_.made (vars_two K2.out.at_.made ⟨#[97]⟩ ⟨#[98]⟩ (by decide) (by decide) _) (by omega)).mono ?_
    rintro e w4 ⟨t, zt, rfl, ht⟩
    have K4 := Lib.hid ((K2.out.alloc _).went ht)
    clear ht
    have c1 := K4.out.at_.made.c1
    go_wp2_with (at_builtin; go_must (refine wpList_push (o := ⟨some 102, _, _, _, _, _⟩) rfl (.tmp 98) (.tmp 101) rfl ob g.fp g.fn g.fc rfl (K4.out.alloc _).at_.l1 _ (⟨#[102]⟩ ++ (m ++ dg)) rfl (by simp [go_sem]) (by simp [ByteArray.size_append, lit_size]; omega) (by have h1 : g.fn + g.cn + g.mn ≤ c := K4.out.at_.cnt; have := K4.out.at_.few; omega) (K4.out.alloc _).at_.siz ?_; intro v' d' w7 hp7; obtain ⟨⟨g7, hk7⟩, ⟨u7, hcl⟩, hfz⟩ := (K4.out.alloc _).push1 hp7 (by omega); have K7 := Lib.hid hk7; clear hp7 hk7 c1))
    go_ret
    exact ⟨_, g7, by simp [ByteArray.size_append, lit_size]; omega, rfl, K7.out⟩
  · have _ := hk
    have c1 := K2.out.at_.made.c1
    go_wp2_with (at_builtin; go_must (refine wpList_push (o := ⟨some 128, _, _, _, _, _⟩) rfl (.tmp 124) (.tmp 127) rfl ob g.fp g.fn g.fc rfl (K2.out.alloc _).at_.l1 _ (⟨#[102]⟩ ++ (m ++ dg)) rfl (by simp [go_sem]) (by simp [ByteArray.size_append, lit_size]; omega) (by have h1 : g.fn + g.cn + g.mn ≤ c := K2.out.at_.cnt; have := K2.out.at_.few; omega) (K2.out.alloc _).at_.siz ?_; intro v' d' w7 hp7; obtain ⟨⟨g7, hk7⟩, ⟨u7, hcl⟩, hfz⟩ := (K2.out.alloc _).push1 hp7 (by omega); have K7 := Lib.hid hk7; clear hp7 hk7 c1))
    go_ret
    exact ⟨_, g7, by simp [ByteArray.size_append, lit_size]; omega, rfl, K7.out⟩
  · go_wp2_with fail
    refine (nextI_any g.d 3 _ K2.out.at_.made.dice (by omega) (by omega)).mono ?_
    rintro e w3 ⟨y, hy, rfl, ht, -⟩
    have K3 := Lib.hid (K2.out.thrown ht)
    clear ht
    go_wp2_with fail
    refine (blk_3 g (1 + (y : Int)) _ 2 2 _ (by omega) (by omega) (K3.out.alloc _).at_.made (vars_two K3.out.at_.made ⟨#[97]⟩ ⟨#[98]⟩ (by decide) (by decide) _) (by omega)).mono ?_
    rintro e w4 ⟨t, zt, rfl, ht⟩
    have K4 := Lib.hid ((K3.out.alloc _).went ht)
    clear ht
    have c1 := K4.out.at_.made.c1
    go_wp2_with (at_builtin; go_must (refine wpList_push (o := ⟨some 150, _, _, _, _, _⟩) rfl (.tmp 146) (.tmp 149) rfl ob g.fp g.fn g.fc rfl (K4.out.alloc _).at_.l1 _ (⟨#[102]⟩ ++ (m ++ dg)) rfl (by simp [go_sem]) (by simp [ByteArray.size_append, lit_size]; omega) (by have h1 : g.fn + g.cn + g.mn ≤ c := K4.out.at_.cnt; have := K4.out.at_.few; omega) (K4.out.alloc _).at_.siz ?_; intro v' d' w7 hp7; obtain ⟨⟨g7, hk7⟩, ⟨u7, hcl⟩, hfz⟩ := (K4.out.alloc _).push1 hp7 (by omega); have K7 := Lib.hid hk7; clear hp7 hk7 c1))
    go_ret
    exact ⟨_, g7, by simp [ByteArray.size_append, lit_size]; omega, rfl, K7.out⟩
  · go_wp2_with fail
    refine (nextI_any g.d 3 _ K2.out.at_.made.dice (by omega) (by omega)).mono ?_
    rintro e w3 ⟨y, hy, rfl, ht, -⟩
    have K3 := Lib.hid (K2.out.thrown ht)
    clear ht
    go_wp2_with fail
    refine (blk_3 g (1 + (y : Int)) _ 2 2 _ (by omega) (by omega) (K3.out.alloc _).at_.made (vars_two K3.out.at_.made ⟨#[97]⟩ ⟨#[98]⟩ (by decide) (by decide) _) (by omega)).mono ?_
    rintro e w4 ⟨t, zt, rfl, ht⟩
    have K4 := Lib.hid ((K3.out.alloc _).went ht)
    clear ht
    have c1 := K4.out.at_.made.c1
    go_wp2_with (at_builtin; go_must (refine wpList_push (o := ⟨some 150, _, _, _, _, _⟩) rfl (.tmp 146) (.tmp 149) rfl ob g.fp g.fn g.fc rfl (K4.out.alloc _).at_.l1 _ (⟨#[102]⟩ ++ (m ++ dg)) rfl (by simp [go_sem]) (by simp [ByteArray.size_append, lit_size]; omega) (by have h1 : g.fn + g.cn + g.mn ≤ c := K4.out.at_.cnt; have := K4.out.at_.few; omega) (K4.out.alloc _).at_.siz ?_; intro v' d' w7 hp7; obtain ⟨⟨g7, hk7⟩, ⟨u7, hcl⟩, hfz⟩ := (K4.out.alloc _).push1 hp7 (by omega); have K7 := Lib.hid hk7; clear hp7 hk7 c1))
    go_ret
    exact ⟨_, g7, by simp [ByteArray.size_append, lit_size]; omega, rfl, K7.out⟩
end Go.Proofs.Ytflcpcefjliijaa
