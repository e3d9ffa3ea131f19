/-
  CONTRACT: the solver's add, of an equation of types without args that gives a variable its type.
-/
import Derived.Test.YtbnnokibjccdaaaZsa
import Derived.Deep.RegionWith
import Derived.Test.YtbnnokibjccdaaaTpC
namespace Go.Proofs.Ytbnnokibjccdaaa
open Go Go.RowKit Go.Maps Go.Shelf
set_option linter.unusedVariables false
set_option linter.unusedSimpArgs false
set_option maxRecDepth 100000

/-- what was below base is as it was, but for the solver's blocks -/
structure Fb (S m1 m2 base : Nat) (w w' : World) : Prop where
  os : w'.os = w.os
  tape : w'.tape = w.tape
  output : w'.output = w.output
  size : w.heap.size ≤ w'.heap.size
  block : ∀ k, k < base → k ≠ S → k ≠ m1 → k ≠ m2 → w'.heap[k]? = w.heap[k]?
theorem Fb.trans {S m1 m2 base : Nat} {a b c : World} (h : Fb S m1 m2 base a b) (k : Fb S m1 m2 base b c) : Fb S m1 m2 base a c := ⟨k.os.trans h.os, k.tape.trans h.tape, k.output.trans h.output, Nat.le_trans h.size k.size, fun i h0 h1 h2 h3 => (k.block i h0 h1 h2 h3).trans (h.block i h0 h1 h2 h3)⟩
theorem Fb.below {S m1 m2 base : Nat} {w w' : World} (h : Below base w w') : Fb S m1 m2 base w w' := ⟨h.os, h.tape, h.output, h.size, fun k h0 _ _ _ => h.block k h0⟩
theorem Fb.later {S m1 m2 base : Nat} {w w' : World} (hb : base ≤ w.heap.size) (h : Below w.heap.size w w') : Fb S m1 m2 base w w' := .below (h.mono hb)
theorem Fb.but {S m1 m2 base : Nat} {w w' : World} (hb : base ≤ w.heap.size) (h : But (svM S m1 m2) w w') : Fb S m1 m2 base w w' := ⟨h.os, h.tape, h.output, h.size, fun k h0 h1 h2 h3 => h.block k (by omega) (fun a e q => by
  rcases q with q | q | q
  · exact h1 (by rw [← e]; exact q)
  · exact h2 (by rw [← e]; exact q)
  · exact h3 (by rw [← e]; exact q))⟩
/-- what add leaves -/
structure AdP (S m1 m2 base c1 c2 : Nat) (f' : Int → Option Addr) (w w' : World) : Prop where
  sv : ∃ (lat : Value) (p : Option Addr) (c c1' c2' : Nat) (g' : Int → Option Bool), Sv w' S m1 m2 c1' c2' f' g' lat (.slice p 0 c) ∧ c1' ≤ c1 + 1 ∧ c2' ≤ c2 + 1 ∧ PRow w' base (.slice p 0 c) []
  be : Fb S m1 m2 base w w'
/-- before the work is done -/
structure AdA (S m1 m2 base c1 c2 : Nat) (f : Int → Option Addr) (g : Int → Option Bool) (x y : Addr) (w w' : World) : Prop where
  sv : ∃ (v : Value), Sv w' S m1 m2 c1 c2 f g (.slice none 0 0) v ∧ PRow w' base v [(x, y)]
  be : Fb S m1 m2 base w w'
/-- what outer gives, of the one side or the other -/
structure OuQ (eo o : Nat) (x y : Addr) (e : Ending) : Prop where
  one : o = eo → e = .returned (.pointer (some x))
  two : o = eo + 2 → e = .returned (.pointer (some y))
/-- how much work there is -/
def wkN (S : Nat) (w : World) : Nat := match w.cell? ⟨S, 3, none⟩ with | some (.slice _ n _) => n | _ => 0
theorem Sv.wk {w : World} {S m1 m2 c1 c2 : Nat} {f : Int → Option Addr} {g : Int → Option Bool} {lat : Value} {p : Option Addr} {n c : Nat} (h : Sv w S m1 m2 c1 c2 f g lat (.slice p n c)) : w.cell? ⟨S, 3, none⟩ = some (.slice p n c) ∧ wkN S w = n := by
  have e : w.cell? ⟨S, 3, none⟩ = some (.slice p n c) := by rw [Lib.cell_of_heap h.blk]; rfl
  exact ⟨e, by unfold wkN; rw [e]⟩
theorem AdP.n {S m1 m2 base c1 c2 : Nat} {f' : Int → Option Addr} {w w' : World} (h : AdP S m1 m2 base c1 c2 f' w w') : wkN S w' = 0 := by
  obtain ⟨lat', p', c', c1', c2', g', hv, -⟩ := h.sv
  exact hv.wk.2
/-- what the equation's sides are -/
structure AdE (S m1 m2 base : Nat) (f : Int → Option Addr) (w : World) (b o x y : Nat) (r q : Rw) : Prop where
  pr : PAt w b o r
  pq : PAt w x y q
  nb : b < base ∧ b ≠ S ∧ b ≠ m1 ∧ b ≠ m2
  nx : x < base ∧ x ≠ S ∧ x ≠ m1 ∧ x ≠ m2
  sr : r.name.size ≤ 1000000000000
  sq : q.name.size ≤ 1000000000000
  z : f (varV q.name q.n) = none
  st : (b = x ∧ o = y) ∨ f (varV r.name r.n) = some ⟨x, y, none⟩
  leaf : q.n = 0
theorem PAt.fb {S m1 m2 base b o : Nat} {r : Rw} {w w' : World} (h : PAt w b o r) (hb : Fb S m1 m2 base w w') (hn : b < base ∧ b ≠ S ∧ b ≠ m1 ∧ b ≠ m2) : PAt w' b o r := by
  have hk := hb.block b hn.1 hn.2.1 hn.2.2.1 hn.2.2.2
  exact ⟨(World.cell?_of_block (w := w) (a := ⟨b, o, none⟩) hk).trans h.c0, (World.cell?_of_block (w := w) (a := ⟨b, o + 1, none⟩) hk).trans h.c1⟩
theorem AdE.fb {S m1 m2 base b o x y : Nat} {f : Int → Option Addr} {r q : Rw} {w w' : World} (h : AdE S m1 m2 base f w b o x y r q) (hb : Fb S m1 m2 base w w') : AdE S m1 m2 base f w' b o x y r q :=
  ⟨h.pr.fb hb h.nb, h.pq.fb hb h.nx, h.nb, h.nx, h.sr, h.sq, h.z, h.st, h.leaf⟩
theorem AdE.outer {S m1 m2 base b o x y c1 c2 : Nat} {f : Int → Option Addr} {g : Int → Option Bool} {lat wk : Value} {r q : Rw} {w : World} (h : AdE S m1 m2 base f w b o x y r q) (hs : Sv w S m1 m2 c1 c2 f g lat wk) :
    Calls Try.prog 63 #[.pointer (some ⟨S, 0, none⟩), .pointer (some ⟨b, o, none⟩)] w fun e w' => e = .returned (.pointer (some ⟨x, y, none⟩)) ∧ Below w.heap.size w w' :=
  outer_any S m1 c1 b o x y f r q w (by rw [Lib.cell_of_heap hs.blk]; rfl) hs.sol h.pr h.pq h.sr h.sq h.z h.st
/-- the solution with one more -/
def addF (f : Int → Option Addr) (vm vn : Int) (a b : Addr) : Int → Option Addr := if vn < vm then updM f vm (some b) else updM f vn (some a)
theorem AdE.give {S m1 m2 base b o x y c1 c2 : Nat} {f : Int → Option Addr} {g : Int → Option Bool} {p : Option Addr} {c : Nat} {r q : Rw} {w : World} (h : AdE S m1 m2 base f w b o x y r q) (hs : Sv w S m1 m2 c1 c2 f g (.slice none 0 0) (.slice p 0 c)) (hp : PRow w base (.slice p 0 c) []) (hbs : base ≤ w.heap.size) (hb0 : S < base ∧ m1 < base ∧ m2 < base)
    (hc1 : c1 ≤ 100) (hc2 : c2 ≤ 100) (hn : q.name.toList ≠ []) (v : Int) (hv : varV q.name q.n < v) (hv2 : v ≤ 1000000) :
    Calls Try.prog 79 #[.pointer (some ⟨S, 0, none⟩), .int .i64 v, .pointer (some ⟨x, y, none⟩)] w fun e w' => e = .returned (.bool true) ∧ AdP S m1 m2 base c1 c2 (updM f v (some ⟨x, y, none⟩)) w w' := by
  have hr := varV_range q.name q.n
  obtain ⟨k, rfl⟩ : ∃ k : Nat, v = (k : Int) := ⟨v.toNat, by omega⟩
  obtain ⟨qn, qp, ql, qc⟩ := q
  obtain rfl : ql = 0 := h.leaf
  have hz := h.z
  simp only at hv hr hn hz
  refine (give_any S m1 m2 c1 c2 x y k f g (.slice p 0 c) qn qp qc w hs h.pq h.sq hn (by omega) hc1 hc2 h.nx.2 ?_).mono ?_
  · by_cases h0 : varV qn 0 = -1
    · exact .inl h0
    · exact .inr ⟨(varV qn 0).toNat, by omega, by rw [show (((varV qn 0).toNat : Nat) : Int) = varV qn 0 by omega]; exact hz, ok_int _ (by omega) (by omega), by omega⟩
  · rintro e w' ⟨rfl, lat, c1', c2', g', h1, h2, h3, h4⟩
    exact ⟨rfl, ⟨lat, p, c, c1', c2', g', h1, h2, h3, hp.keep h4 (fun a q => by
      rcases q with q | q | q
      · have q' : a.block = S := q; omega
      · have q' : a.block = m1 := q; omega
      · have q' : a.block = m2 := q; omega)⟩, .but hbs h4⟩
set_option maxHeartbeats 8000000 in
theorem add_any (S m1 m2 c1 c2 base eb eo xa oa xb ob : Nat) (ra rb r1 r2 : Rw) (f : Int → Option Addr) (g : Int → Option Bool) (lat : Value) (p : Option Addr) (c : Nat) (w : World) (h : Sv w S m1 m2 c1 c2 f g lat (.slice p 0 c)) (hw : PRow w base (.slice p 0 c) [])
    (hbase : S < base ∧ m1 < base ∧ m2 < base) (hbs : base ≤ w.heap.size)
    (hA : AdE S m1 m2 base f w eb eo xa oa ra r1) (hB : AdE S m1 m2 base f w eb (eo + 2) xb ob rb r2) (hne : varV r1.name r1.n ≠ varV r2.name r2.n) (hc1 : c1 ≤ 100) (hc2 : c2 ≤ 100) (hn1 : r1.name.toList ≠ []) (hn2 : r2.name.toList ≠ []) :
    Calls Try.prog 48 #[.pointer (some ⟨S, 0, none⟩), .pointer (some ⟨eb, eo, none⟩)] w fun e w' => e = .returned (.bool true) ∧ AdP S m1 m2 base c1 c2 (addF f (varV r1.name r1.n) (varV r2.name r2.n) ⟨xa, oa, none⟩ ⟨xb, ob, none⟩) w w' := by
  have HA := Lib.hid hA
  have HB := Lib.hid hB
  have l1 : w.cell? ⟨S, 1, none⟩ = some lat := by rw [Lib.cell_of_heap h.blk]; rfl
  have f1 : w.frozen? ⟨S, 1, none⟩ = false := Lib.frozen_of_heap h.blk 1
  have h1 := h.set 1 (.slice none 0 0) (.slice none 0 0) (.slice p 0 c) rfl
  have l4 : (w.setCell ⟨S, 1, none⟩ (.slice none 0 0)).cell? ⟨S, 4, none⟩ = some (.map none) := by rw [Lib.cell_of_heap h1.blk]; rfl
  have f4 : w.frozen? ⟨S, 4, none⟩ = false := Lib.frozen_of_heap h.blk 4
  have h2 := h1.set 4 (.map none) (.slice none 0 0) (.slice p 0 c) rfl
  have hbut : But (svM S m1 m2) w ((w.setCell ⟨S, 1, none⟩ (.slice none 0 0)).setCell ⟨S, 4, none⟩ (.map none)) := (But.setCell (M := svM S m1 m2) w ⟨S, 1, none⟩ _ (.inl rfl)).trans (But.setCell (M := svM S m1 m2) _ ⟨S, 4, none⟩ _ (.inl rfl))
  have hlow : ∀ a, svM S m1 m2 a → a.block < base := fun a q => by
    rcases q with q | q | q
    · have q' : a.block = S := q; omega
    · have q' : a.block = m1 := q; omega
    · have q' : a.block = m2 := q; omega
  have hp2 := hw.keep hbut hlow
  have H2 := Lib.hid h2
  have HP2 := Lib.hid hp2
  have HBT2 : Hid (Fb S m1 m2 base w ((w.setCell ⟨S, 1, none⟩ (.slice none 0 0)).setCell ⟨S, 4, none⟩ (.map none))) := .but hbs hbut
  have HLOW := Lib.hid hlow
  have HB0 := Lib.hid hbs
  have HBS : Hid (base ≤ ((w.setCell ⟨S, 1, none⟩ (.slice none 0 0)).setCell ⟨S, 4, none⟩ (.map none)).heap.size) := Nat.le_trans hbs hbut.size
  clear h h1 h2 hbut hp2 hlow hA hB hw
  go_enter Try.func48, Try.ntmps48
  go_wp2_with fail
  clear l1 l4 f1 f4
  generalize (w.setCell ⟨S, 1, none⟩ (.slice none 0 0)).setCell ⟨S, 4, none⟩ (.map none) = w1 at H2 HP2 HBT2 HBS ⊢
  have HC0 : Hid (w1.drew.cell? ⟨S, 3, none⟩ = some (.slice p 0 c)) := H2.out.wk.1
  have HBD := Lib.hid hbase
  obtain ⟨row, hrow⟩ : ∃ row, row = (Value.slice p 0 c).ownBlock := ⟨_, rfl⟩
  have HRE := Lib.hid hrow
  clear hrow hbase
  have HP0 : Hid (PRow w1.drew base (.slice p 0 c) []) := OwnL.below HP2.out (Below.refl _ _).drew
  have HSW : Hid (base ≤ w1.drew.heap.size) := HBS.out
  have HRW : Hid (∀ j, row = some j → base ≤ j ∧ j < w1.drew.heap.size) := fun j e => World.ownsRow.lt HP0.out j (by rw [← e]; exact HRE.out.symm)
  apply wp_region_one 14 17 LB (fun x y => x.grownBy y row) (fun W => Below base w1.drew W) (fun W => PRow W base (.slice p 0 c) []) (fun _ _ => False)
  case hIA => (intro x y hl h; exact h.trans (hl.mono (Nat.le_trans HSW.out h.size)))
  case hIC => (intro x y hl h; exact h.trans ((Below.refl _ _).grown hl (Nat.le_trans HSW.out h.size) (fun k e => (HRW.out k e).1)))
  case hPA => (intro x y hl h; exact OwnL.below h hl)
  case hm => kernel_rfl
  case hB => kernel_rfl
  case h0 => exact Below.refl _ _
  case h1 => exact HP0.out
  case hP => (rintro k a' W hf hd; exact hf.elim)
  simp only [List.take_succ_cons, List.take_zero, List.drop_succ_cons, List.drop_zero]
  apply wpOne_cons (t := tvIs _) (tvIs_good _ _)
  case h1 => (intro W hI hl; clear hI hl; unfold oneAt; go_simp; exact one_isB (by decide))
  intro _
  rw [tvIs_f]
  go_simp
  apply wpOne_cons (t := tvIs _) (tvIs_good _ _)
  case h1 => (intro W hI hl; clear hI hl; unfold oneAt; go_simp; exact one_isB (by decide))
  intro _
  rw [tvIs_f]
  go_simp
  apply wpOne_cons (t := tvIs _) (tvIs_good _ _)
  case h1 => (intro W hI hl; clear hI hl; unfold oneAt; go_simp; exact one_isB (by decide))
  intro _
  rw [tvIs_f]
  go_simp
  apply wpOne_cons (t := tvIs _) (tvIs_good _ _)
  case h1 => (intro W hI hl; clear hI hl; unfold oneAt; go_simp; exact one_isB (by decide))
  intro _
  rw [tvIs_f]
  go_simp
  apply wpOne_cons (t := tvIs _) (tvIs_good _ _)
  case h1 => (intro W hI hl; have y3 := (hI.cell (p := ⟨S, 3, none⟩) HBD.out.1).trans HC0.out; clear hI hl; unfold oneAt; go_simp; exact one_isB (by decide))
  intro _
  rw [tvIs_f]
  go_simp
  apply wpOne_cons (t := tvIs _) (tvIs_good _ _)
  case h1 => (intro W hI hl; clear hI hl; unfold oneAt; go_simp; exact one_isB (by decide))
  intro _
  rw [tvIs_f]
  go_simp
  apply wpOne_cons (t := tvIs _) (tvIs_good _ _)
  case h1 => (intro W hI hl; clear hI hl; unfold oneAt; go_simp; exact one_isB (by decide))
  intro _
  rw [tvIs_f]
  go_simp
  apply wpOne_cons (t := tvIs _) (tvIs_good _ _)
  case h1 => (intro W hI hl; clear hI hl; unfold oneAt; go_simp; exact one_isB (by decide))
  intro _
  rw [tvIs_f]
  go_simp
  apply wpOne_cons (t := tvIs _) (tvIs_good _ _)
  case h1 => (intro W hI hl; clear hI hl; unfold oneAt; go_simp; exact one_isB (by decide))
  intro _
  rw [tvIs_f]
  go_simp
  apply wpOne_cons (t := tvIs _) (tvIs_good _ _)
  case h1 => (intro W hI hl; clear hI hl; unfold oneAt; go_simp; exact one_isB (by decide))
  intro _
  rw [tvIs_f]
  go_simp
  apply wpOne_cons (t := tvIs _) (tvIs_good _ _)
  case h1 => (intro W hI hl; clear hI hl; unfold oneAt; go_simp; exact one_isB (by decide))
  intro _
  rw [tvIs_f]
  go_simp
  apply wpOne_cons (t := tvIs _) (tvIs_good _ _)
  case h1 => (intro W hI hl; clear hI hl; unfold oneAt; go_simp; exact one_isB (by decide))
  intro _
  rw [tvIs_f]
  go_simp
  apply wpOne_cons (t := tvIs _) (tvIs_good _ _)
  case h1 => (intro W hI hl; clear hI hl; unfold oneAt; go_simp; exact one_isB (by decide))
  intro _
  rw [tvIs_f]
  go_simp
  apply wpOne_cons (t := tvOnePr row (⟨eb, eo, none⟩, ⟨eb, eo + 2, none⟩)) (tvOnePr_good _ _ _ _)
  case h1 => (intro W hI hl; have hrW : ∀ j, row = some j → j < W.heap.size := (fun j e => Nat.lt_of_lt_of_le (HRW.out j e).2 hI.size); clear hI hl; unfold oneAt; go_simp; exact tvOnePr_mk (c := 14) (k := 13) (p := (⟨eb, eo, none⟩, ⟨eb, eo + 2, none⟩)) hrW (by decide))
  rintro ⟨sb, d1⟩
  rw [tvOnePr_f]
  go_simp
  apply wpOne_cons (t := tvAppPr base (⟨eb, eo, none⟩, ⟨eb, eo + 2, none⟩)) (tvAppPr_good _ _ _ _)
  case h1 => (
    intro W hI hl
    have hP : PRow W base (.slice p 0 c) [] := hl.1 rfl
    have hc := lean_ofD hl 13 (by kernel_rfl)
    simp [upd, preAt] at hc
    obtain ⟨v', w', hr, ho⟩ := tvAppPr_mk (c := 14) (p := (⟨eb, eo, none⟩, ⟨eb, eo + 2, none⟩)) (Pn := fun _ _ => False) hP HRE.out hc.1 (Nat.le_trans HSW.out hI.size) prS_
    clear hI hl hP hc
    exact oneAt_appendS rfl rfl rfl rfl hr ho)
  rintro ⟨v', d2⟩
  rw [tvAppPr_f]
  go_simp
  apply wpOne_cons (t := tvIs _) (tvIs_good _ _)
  case h1 => (intro W hI hl; clear hI hl; unfold oneAt; go_simp; exact one_isB (by decide))
  intro _
  rw [tvIs_f]
  go_simp
  apply wpOne_cons (t := tvIs _) (tvIs_good _ _)
  case h1 => (intro W hI hl; clear hI hl; unfold oneAt; go_simp; exact one_isB (by decide))
  intro _
  rw [tvIs_f]
  go_simp
  apply wpOne_nil (Ts := [])
  intro w2 hI hF
  have hfin := hF 14
  simp [upd, preAt] at hfin
  have hfin2 : PRow w2 base v' [(⟨eb, eo, none⟩, ⟨eb, eo + 2, none⟩)] := hfin
  clear hfin hF
  have h3 := (H2.out.low (w' := w2) ((Below.refl _ _).drew.trans hI) HBD.out)
  obtain ⟨b5, c5, rfl, hb5, -, -, hc5⟩ := hfin2.one
  have y3 := (hI.cell (p := ⟨S, 3, none⟩) HBD.out.1).trans HC0.out
  have f3 : w2.frozen? ⟨S, 3, none⟩ = false := Lib.frozen_of_heap h3.blk 3
  have hz2 : base ≤ w2.heap.size := Nat.le_trans HSW.out hI.size
  have hbut3 : Fb S m1 m2 base w1 (w2.setCell ⟨S, 3, none⟩ (.slice (some ⟨b5, 0, none⟩) 1 c5)) := (Fb.below ((Below.refl _ _).drew.trans hI)).trans (.but hz2 (But.setCell (M := svM S m1 m2) _ ⟨S, 3, none⟩ _ (.inl rfl)))
  have HZ3 : Hid (base ≤ (w2.setCell ⟨S, 3, none⟩ (.slice (some ⟨b5, 0, none⟩) 1 c5)).heap.size) := Nat.le_trans hz2 (But.setCell (M := svM S m1 m2) w2 ⟨S, 3, none⟩ _ (.inl rfl)).size
  have hA3 : AdA S m1 m2 base c1 c2 f g ⟨eb, eo, none⟩ ⟨eb, eo + 2, none⟩ w (w2.setCell ⟨S, 3, none⟩ (.slice (some ⟨b5, 0, none⟩) 1 c5)) :=
    ⟨⟨_, h3.set 3 _ (.slice none 0 0) _ rfl, hfin2.keep (But.setCell (M := svM S m1 m2) _ ⟨S, 3, none⟩ _ (.inl rfl)) HLOW.out⟩, HBT2.out.trans hbut3⟩
  have HA3 := Lib.hid hA3
  clear hI h3 hfin2 hb5 hc5 hbut3 hA3 hz2 HP0 HRW HC0 HRE H2 HP2
  go_wp2_with fail
  clear y3 f3
  generalize w2.setCell ⟨S, 3, none⟩ (.slice (some ⟨b5, 0, none⟩) 1 c5) = w3 at HA3 HZ3 ⊢
  go_loopw [] (fun wr => Hid (AdA S m1 m2 base c1 c2 f g ⟨eb, eo, none⟩ ⟨eb, eo + 2, none⟩ w wr) ∨ Hid (AdP S m1 m2 base c1 c2 (addF f (varV r1.name r1.n) (varV r2.name r2.n) ⟨xa, oa, none⟩ ⟨xb, ob, none⟩) w wr)) (fun wr => wkN S wr)
  case atStart => exact .inl HA3
  case round =>
    clear HA3
    obtain ⟨wx, rfl⟩ : ∃ x, x = wr := ⟨wr, rfl⟩
    rcases hrel with HX | HX
    · obtain ⟨v, hv, hp⟩ := HX.out.sv
      have hbe := HX.out.be
      obtain ⟨b5, c5, rfl, hb5, k0, k1, hc5⟩ := hp.one
      obtain ⟨y3, hN⟩ := hv.wk
      have HNX := Lib.hid hN
      have hc5i : (1 : Int) ≤ (c5 : Int) := by omega
      obtain ⟨w4, hw4⟩ : ∃ y, wx.alloc (.cells #[.pointer (some ⟨eb, eo, none⟩), .pointer (some ⟨eb, eo + 2, none⟩)] prT) = y := ⟨_, rfl⟩
      obtain ⟨pb, hpb⟩ : ∃ y, wx.heap.size = y := ⟨_, rfl⟩
      have hb4 := below_box wx (.cells #[.pointer (some ⟨eb, eo, none⟩), .pointer (some ⟨eb, eo + 2, none⟩)] prT)
      have hn4 := heap_alloc_new wx (.cells #[.pointer (some ⟨eb, eo, none⟩), .pointer (some ⟨eb, eo + 2, none⟩)] prT)
      rw [hw4] at hb4 hn4
      rw [hpb] at hn4
      have h4 := hv.later hb4
      have hp4 : PRow w4 base (.slice (some ⟨b5, 0, none⟩) 1 c5) [(⟨eb, eo, none⟩, ⟨eb, eo + 2, none⟩)] := OwnL.below hp hb4
      have y4 : w4.cell? ⟨S, 3, none⟩ = some (.slice (some ⟨b5, 0, none⟩) 1 c5) := h4.wk.1
      have f4 : w4.frozen? ⟨S, 3, none⟩ = false := Lib.frozen_of_heap h4.blk 3
      have h5 := h4.set 3 (.slice (some ⟨b5, 0, none⟩) 0 c5) (.slice none 0 0) (.slice (some ⟨b5, 0, none⟩) 0 c5) rfl
      have hset : But (svM S m1 m2) w4 (w4.setCell ⟨S, 3, none⟩ (.slice (some ⟨b5, 0, none⟩) 0 c5)) := But.setCell (M := svM S m1 m2) _ ⟨S, 3, none⟩ _ (.inl rfl)
      have hp5 := (hp4.nil0).keep hset HLOW.out
      have hzx : base ≤ wx.heap.size := Nat.le_trans HB0.out hbe.size
      have hz4 : base ≤ w4.heap.size := Nat.le_trans hzx hb4.size
      have hbe5 := (hbe.trans (Fb.later hzx hb4)).trans (Fb.but hz4 hset)
      have HZ5 : Hid (base ≤ (w4.setCell ⟨S, 3, none⟩ (.slice (some ⟨b5, 0, none⟩) 0 c5)).heap.size) := Nat.le_trans hz4 hset.size
      have hlS : S < wx.heap.size := heap_lt_of hv.blk
      have hn5 : (w4.setCell ⟨S, 3, none⟩ (.slice (some ⟨b5, 0, none⟩) 0 c5)).heap[pb]? = some (.cells #[.pointer (some ⟨eb, eo, none⟩), .pointer (some ⟨eb, eo + 2, none⟩)] prT (0, 0)) := (Below.heap_setCell _ _ _ _ (by show pb ≠ S; omega)).trans hn4
      have HS5 := Lib.hid h5
      have HP5 := Lib.hid hp5
      have HBE5 := Lib.hid hbe5
      have HN5 := Lib.hid hn5
      clear hb4 hn4 h4 hp4 h5 hset hp5 hbe5 hzx hz4 hlS hn5 hv hp hbe hb5 hN HX hc5
      go_wp2_with fail
      clear hw4 k0 k1 y3 y4 f4 hpb hc5i
      generalize w4.setCell ⟨S, 3, none⟩ (.slice (some ⟨b5, 0, none⟩) 0 c5) = w5 at HS5 HP5 HBE5 HN5 HZ5 ⊢
      have q0 : w5.cell? ⟨pb, 0, none⟩ = some (.pointer (some ⟨eb, eo, none⟩)) := by rw [Lib.cell_of_heap HN5.out]; rfl
      have q1 : w5.cell? ⟨pb, 1, none⟩ = some (.pointer (some ⟨eb, eo + 2, none⟩)) := by rw [Lib.cell_of_heap HN5.out]; rfl
      have HA5 := Lib.hid (HA.out.fb HBE5.out)
      have HB5 := Lib.hid (HB.out.fb HBE5.out)
      have HOU : Hid (∀ (o : Nat) (W : World), (o = eo ∨ o = eo + 2) → Below w5.heap.size w5 W → Calls Try.prog 63 #[.pointer (some ⟨S, 0, none⟩), .pointer (some ⟨eb, o, none⟩)] W fun e w' => OuQ eo o ⟨xa, oa, none⟩ ⟨xb, ob, none⟩ e ∧ Below w5.heap.size w5 w') := by
        intro o W ho hW
        by_cases h0 : o = eo
        · subst h0
          exact ((HA5.out.fb (Fb.later HZ5.out hW)).outer (HS5.out.later hW)).mono (fun e w' q => ⟨⟨fun _ => q.1, fun h => absurd h (by omega)⟩, bnext hW q.2⟩)
        · obtain rfl : o = eo + 2 := ho.resolve_left h0
          exact ((HB5.out.fb (Fb.later HZ5.out hW)).outer (HS5.out.later hW)).mono (fun e w' q => ⟨⟨fun h => absurd h (by omega), fun _ => q.1⟩, bnext hW q.2⟩)
      have HAG : Hid (∀ (W : World), Below w5.heap.size w5 W → Calls Try.prog 62 #[.pointer (some ⟨S, 0, none⟩), .pointer (some ⟨xa, oa, none⟩), .pointer (some ⟨xb, ob, none⟩)] W fun e w' => e = .returned (.bool true) ∧ AdP S m1 m2 base c1 c2 (addF f (varV r1.name r1.n) (varV r2.name r2.n) ⟨xa, oa, none⟩ ⟨xb, ob, none⟩) w w') := by
        intro W hW
        have hsW := HS5.out.later hW
        have haW := HA5.out.fb (Fb.later HZ5.out hW)
        have hbW := HB5.out.fb (Fb.later HZ5.out hW)
        have hpW : PRow W base (.slice (some ⟨b5, 0, none⟩) 0 c5) [] := OwnL.below HP5.out hW
        have hzW : base ≤ W.heap.size := Nat.le_trans HZ5.out hW.size
        have hpost : ∀ F (w1 : World), Below W.heap.size W w1 → ∀ e w', (e = Ending.returned (.bool true) ∧ AdP S m1 m2 base c1 c2 F w1 w') → (e = Ending.returned (.bool true) ∧ AdP S m1 m2 base c1 c2 F w w') := fun F w1 h1 e w' q =>
          ⟨q.1, q.2.sv, (((HBE5.out.trans (Fb.later HZ5.out hW)).trans (Fb.later hzW h1)).trans q.2.be)⟩
        refine agree_any S xa oa xb ob r1 r2 W _ haW.pq hbW.pq haW.sq hbW.sq _ _ rfl rfl hne (fun hlt w1 h1 => ?_) (fun hlt w1 h1 => ?_)
        · rw [show addF f (varV r1.name r1.n) (varV r2.name r2.n) ⟨xa, oa, none⟩ ⟨xb, ob, none⟩ = updM f (varV r1.name r1.n) (some ⟨xb, ob, none⟩) from if_pos hlt]
          exact ((hbW.fb (Fb.later hzW h1)).give (hsW.later h1) (OwnL.below hpW h1) (Nat.le_trans hzW h1.size) HBD.out hc1 hc2 hn2 _ hlt (varV_range _ _).2).mono (hpost _ w1 h1)
        · rw [show addF f (varV r1.name r1.n) (varV r2.name r2.n) ⟨xa, oa, none⟩ ⟨xb, ob, none⟩ = updM f (varV r2.name r2.n) (some ⟨xa, oa, none⟩) from if_neg (by omega)]
          exact ((haW.fb (Fb.later hzW h1)).give (hsW.later h1) (OwnL.below hpW h1) (Nat.le_trans hzW h1.size) HBD.out hc1 hc2 hn1 _ hlt (varV_range _ _).2).mono (hpost _ w1 h1)
      have HQ := Lib.hid (fun (W : World) (hW : Below w5.heap.size w5 W) => (⟨(hW.cell (World.block_lt_of_cell? w5 _ q0)).trans q0, (hW.cell (World.block_lt_of_cell? w5 _ q1)).trans q1⟩ : W.cell? ⟨pb, 0, none⟩ = some (.pointer (some ⟨eb, eo, none⟩)) ∧ W.cell? ⟨pb, 1, none⟩ = some (.pointer (some ⟨eb, eo + 2, none⟩))))
      have HD5 := Lib.hid ((Below.refl w5.heap.size w5).drew)
      clear HS5 HP5 HBE5 HN5 HA5 HB5
      go_wp2_with fail
      go_region_with (first
        | (go_at_call 62; refine (HAG.out _ (by assumption)).mono ?_; rintro e wC ⟨rfl, hP⟩)
        | (go_at_call 63; refine (HOU.out _ _ (by first | exact .inl rfl | exact .inr rfl) (by first | assumption | exact HD5.out)).mono ?_; rintro e wA ⟨hq, hbA⟩; (first | (obtain rfl := hq.one rfl) | (obtain rfl := hq.two rfl)); obtain ⟨qa, qb⟩ := HQ.out wA hbA; clear hq))
      all_goals have HPX := Lib.hid hP
      all_goals clear hP
      all_goals go_simp
      all_goals go_wp2_with fail
      all_goals go_roundw
      all_goals first | exact .inr HPX | (rw [HPX.out.n, HNX.out]; decide)
    · obtain ⟨lat', p', c', c1', c2', g', hv, -, -, -⟩ := HX.out.sv
      obtain ⟨y3, -⟩ := hv.wk
      clear hv
      go_wp2_with fail
      go_ret
      exact ⟨rfl, HX.out⟩
end Go.Proofs.Ytbnnokibjccdaaa

/-
  CONTRACT: the solver's list, of a solution of two variables.
-/
namespace Go.Proofs.Ytbnnokibjccdaaa
open Go Go.RowKit Go.Maps Go.Shelf
set_option linter.unusedVariables false
set_option linter.unusedSimpArgs false
set_option maxRecDepth 100000

/-- how far the first loop is -/
structure LiA (w wr : World) (m1 r c1 : Nat) (f : Int → Option Addr) (left : Int → Bool) (cnt : Nat) : Prop where
  rg : RangeAt keyI (fun a : Addr => Value.pointer (some a)) wr m1 r c1 f left cnt
  sup : ∀ x, left x = true → (f x).isSome = true
  be : Below w.heap.size w wr
  rb : w.heap.size ≤ r
/-- how long the list is so far -/
def LenOk (left : Int → Bool) (L : Int) : Prop := (left 1 = false ∧ L = 2) ∨ (left 1 = true ∧ (L = 0 ∨ L = 1))
theorem LenOk.next {left : Int → Bool} {L : Int} {x : Int} (h : LenOk left L) (hx : x = 0 ∨ x = 1) (hl : left x = true) : LenOk (fun z => left z && !decide (z = x)) (max L (x + 1)) := by
  rcases hx with rfl | rfl
  · rcases h with ⟨h1, rfl⟩ | ⟨h1, rfl | rfl⟩
    · exact .inl ⟨by simp [h1], by decide⟩
    · exact .inr ⟨by simp [h1], .inr (by decide)⟩
    · exact .inr ⟨by simp [h1], .inr (by decide)⟩
  · rcases h with ⟨h1, rfl⟩ | ⟨h1, rfl | rfl⟩
    · rw [hl] at h1; cases h1
    · exact .inl ⟨by simp, by decide⟩
    · exact .inl ⟨by simp, by decide⟩
/-- what is in the list so far -/
structure LiB (w wr : World) (m1 r c1 ob : Nat) (f : Int → Option Addr) (s0 s1 : ByteArray) (left : Int → Bool) (cnt : Nat) (x0 x1 : ByteArray) (v0 v1 : Value) : Prop where
  rg : RangeAt keyI (fun a : Addr => Value.pointer (some a)) wr m1 r c1 f left cnt
  sup : ∀ x, left x = true → (f x).isSome = true
  be : Below w.heap.size w wr
  rb : w.heap.size ≤ r
  out : wr.heap[ob]? = some (.cells #[.string x0, v0, .string x1, v1] tpT (0, 0))
  obge : w.heap.size ≤ ob
  d0 : left 0 = false → x0 = s0
  d1 : left 1 = false → x1 = s1
  ro : ob < r
set_option maxHeartbeats 8000000 in
theorem list_any (S m1 m2 c1 c2 b0 o0 b1 o1 : Nat) (s0 s1 : ByteArray) (f : Int → Option Addr) (g : Int → Option Bool) (lat wk : Value) (w : World) (h : Sv w S m1 m2 c1 c2 f g lat wk) (hf0 : f 0 = some ⟨b0, o0, none⟩) (hf1 : f 1 = some ⟨b1, o1, none⟩) (hfn : ∀ k, k ≠ 0 → k ≠ 1 → f k = none)
    (p0 : PAt w b0 o0 ⟨s0, none, 0, 0⟩) (p1 : PAt w b1 o1 ⟨s1, none, 0, 0⟩) :
    Calls Try.prog 49 #[.pointer (some ⟨S, 0, none⟩)] w fun e w' => ∃ (ob : Nat) (v0 v1 : Value), e = .returned (.slice (some ⟨ob, 0, none⟩) 2 2) ∧ w'.heap[ob]? = some (.cells #[.string s0, v0, .string s1, v1] tpT (0, 0)) ∧ Below w.heap.size w w' := by
  have hkey : ∀ x, (f x).isSome = true → x = 0 ∨ x = 1 := fun x hx => by
    by_cases h0 : x = 0
    · exact .inl h0
    · by_cases h1 : x = 1
      · exact .inr h1
      · rw [hfn x h0 h1] at hx; cases hx
  have HK := Lib.hid hkey
  have HSV := Lib.hid h
  have HF := Lib.hid (And.intro hf0 hf1)
  have HP := Lib.hid (And.intro p0 p1)
  have q0 : w.cell? ⟨S, 0, none⟩ = some (.map (some m1)) := by rw [Lib.cell_of_heap h.blk]; rfl
  clear h hf0 hf1 hfn p0 p1 hkey
  go_enter Try.func49, Try.ntmps49
  go_wp2_with (at_range; refine wpList_range (K := keyI) (val := fun a : Addr => Value.pointer (some a)) _ rfl _ mpS 108 rfl Try.underlying80 rfl HSV.out.sol ?_; intro w0 hrg0 hg0 hs0)
  have HA0 : Hid (LiA w w0 m1 w.heap.size c1 f (fun x => (f x).isSome) c1) := ⟨hrg0, fun x hx => hx, (Below.refl _ _).grown hg0 (Nat.le_refl _) (fun k e => by cases e), Nat.le_refl _⟩
  have HL0 : Hid (LenOk (fun x => (f x).isSome) 0) := .inr ⟨by show (f 1).isSome = true; rw [HF.out.2]; rfl, .inl rfl⟩
  clear hrg0 hg0 hs0 q0
  obtain ⟨r, hr⟩ : ∃ r, w.heap.size = r := ⟨_, rfl⟩
  rw [hr] at HA0 ⊢
  go_frame
  go_loopw [3] (fun L wr => ∃ (Li : Int) (left : Int → Bool) (cnt : Nat), L = .int .i64 Li ∧ Hid (LiA w wr m1 r c1 f left cnt) ∧ Hid (LenOk left Li)) (fun _ wr => wr.rangeLeft m1 r)
  case atStart => exact ⟨0, _, _, rfl, HA0, HL0⟩
  case round =>
    clear HA0 HL0
    obtain ⟨Li, left, cnt, rfl, HA, HL⟩ := hrel
    obtain ⟨wx, rfl⟩ : ∃ x, x = wr := ⟨wr, rfl⟩
    have HRL := Lib.hid (RangeAt.left_eq HA.out.rg)
    go_wp2_with (at_next; refine wpList_next (K := keyI) (val := fun a : Addr => Value.pointer (some a)) _ rfl _ rfl rfl HA.out.rg HA.out.sup ?_ ?_)
    · intro hc0 hl0
      have hl1 : left 1 = false := hl0 1 (ok_int _ (by decide) (by decide))
      obtain rfl : Li = 2 := by
        rcases HL.out with ⟨-, h⟩ | ⟨h, -⟩
        · exact h
        · rw [hl1] at h; cases h
      have HB := Lib.hid HA.out.be
      have q0 : wx.cell? ⟨S, 0, none⟩ = some (.map (some m1)) := (HB.out.cell (p := ⟨S, 0, none⟩) (heap_lt_of HSV.out.blk)).trans (by rw [Lib.cell_of_heap HSV.out.blk]; rfl)
      clear hl0 hc0 hl1 HA HL HRL
      obtain ⟨i0, hi0, hz0, hz1, hz2⟩ := info_parts infoTp
      have hmk : (Instr.makeSlice 22 (.int .i64 2) (.int .i64 2)).run Try.prog wx = .ok (.slice (some ⟨wx.heap.size, 0, none⟩) 2 2) (wx.alloc (.cells #[.string ⟨#[]⟩, .slice none 0 0, .string ⟨#[]⟩, .slice none 0 0] tpT)) := by
        have h := run_make (P := Try.prog) wx 22 24 i0 _ Try.underlying22 hi0 hz0 .i64 .i64 2 2 (by omega) (Int.le_refl _) (by rw [hz2]; decide) (by decide)
        rw [hz1] at h
        have e := made_tp 2
        rw [show (2 : Int).toNat = 2 from rfl, e] at h
        exact h
      have hb9 := below_box wx (.cells #[.string ⟨#[]⟩, .slice none 0 0, .string ⟨#[]⟩, .slice none 0 0] tpT)
      have hn9 := heap_alloc_new wx (.cells #[.string ⟨#[]⟩, .slice none 0 0, .string ⟨#[]⟩, .slice none 0 0] tpT)
      obtain ⟨w9, hw9⟩ : ∃ y, wx.alloc (.cells #[.string ⟨#[]⟩, .slice none 0 0, .string ⟨#[]⟩, .slice none 0 0] tpT) = y := ⟨_, rfl⟩
      obtain ⟨ob, hob⟩ : ∃ y, wx.heap.size = y := ⟨_, rfl⟩
      rw [hw9] at hb9 hn9 hmk
      rw [hob] at hn9 hmk
      have q9 : w9.cell? ⟨S, 0, none⟩ = some (.map (some m1)) := (hb9.cell (World.block_lt_of_cell? wx _ q0)).trans q0
      have hB9 := bnext HB.out hb9
      have HM9 := Lib.hid (MapAt.below HSV.out.sol hB9 (MapAt.lt HSV.out.sol))
      have HB9 := Lib.hid hB9
      have HN9 := Lib.hid hn9
      have HOB : Hid (w.heap.size ≤ ob) := by rw [← hob]; exact HB.out.size
      clear hb9 hn9 hB9 hw9 hob
      go_wp2_with (at_range; refine wpList_range (K := keyI) (val := fun a : Addr => Value.pointer (some a)) _ rfl _ mpS 108 rfl Try.underlying80 rfl HM9.out ?_; intro w10 hrg10 hg10 hs10)
      obtain ⟨r2, hr2⟩ : ∃ r2, w9.heap.size = r2 := ⟨_, rfl⟩
      rw [hr2] at hrg10 ⊢
      have HBB0 : Hid (LiB w w10 m1 r2 c1 ob f s0 s1 (fun x => (f x).isSome) c1 ⟨#[]⟩ ⟨#[]⟩ (.slice none 0 0) (.slice none 0 0)) :=
        ⟨hrg10, fun x hx => hx, HB9.out.grown hg10 HB9.out.size (fun k e => by cases e), by rw [← hr2]; exact HB9.out.size, (hg10.block ob (heap_lt_of HN9.out) (by simp)).trans HN9.out, HOB.out, (by
          intro hh
          have h1 : (f 0).isSome = false := hh
          rw [HF.out.1] at h1
          cases h1), (by
          intro hh
          have h1 : (f 1).isSome = false := hh
          rw [HF.out.2] at h1
          cases h1), by rw [← hr2]; exact heap_lt_of HN9.out⟩
      clear hrg10 hg10 hs10 hr2 q9 q0 HM9 HN9 hmk
      go_frame
      go_loopw [] (fun wr => ∃ (left : Int → Bool) (cnt : Nat) (x0 x1 : ByteArray) (v0 v1 : Value), Hid (LiB w wr m1 r2 c1 ob f s0 s1 left cnt x0 x1 v0 v1)) (fun wr => wr.rangeLeft m1 r2)
      case atStart => exact ⟨_, _, _, _, _, _, HBB0⟩
      case round =>
        clear HBB0
        obtain ⟨left, cnt, x0, x1, v0, v1, HBB⟩ := hrel
        obtain ⟨wy, rfl⟩ : ∃ x, x = wr := ⟨wr, rfl⟩
        have HRL := Lib.hid (RangeAt.left_eq HBB.out.rg)
        go_wp2_with (at_next; refine wpList_next (K := keyI) (val := fun a : Addr => Value.pointer (some a)) _ rfl _ rfl rfl HBB.out.rg HBB.out.sup ?_ ?_)
        · intro hc0 hl0
          have hl0' : left 0 = false := hl0 0 (ok_int _ (by decide) (by decide))
          have hl1' : left 1 = false := hl0 1 (ok_int _ (by decide) (by decide))
          have hout := HBB.out.out
          rw [HBB.out.d0 hl0', HBB.out.d1 hl1'] at hout
          have HO := Lib.hid hout
          have HBE := Lib.hid HBB.out.be
          clear hl0 hc0 hl0' hl1' hout HBB HRL
          go_wp2_with fail
          go_ret
          exact ⟨ob, v0, v1, rfl, HO.out, HBE.out⟩
        · intro x a w2 cnt2 hkx hlx hfx hrg2 hlt2 hg2 hs2 hen
          have hen' : (Instr.entry (.pointer (some ⟨r2, 0, none⟩))).run Try.prog w2 = .ok (.tuple #[.int .i64 x, .pointer (some a)]) w2 := hen
          have hx01 := HK.out x (by rw [hfx]; rfl)
          rcases hx01 with rfl | rfl
          · obtain rfl : a = ⟨b0, o0, none⟩ := by rw [HF.out.1] at hfx; exact (Option.some.inj hfx).symm
            have hbe2 : Below w.heap.size w w2 := HBB.out.be.grown hg2 HBB.out.be.size (fun k e => by cases e; exact HBB.out.rb)
            have hout2 : w2.heap[ob]? = _ := (hg2.block ob (heap_lt_of HBB.out.out) (fun e => by injection e with e; have := HBB.out.ro; omega)).trans HBB.out.out
            have hp : PAt w2 b0 o0 ⟨s0, none, 0, 0⟩ := ⟨(hbe2.cell (World.block_lt_of_cell? w _ HP.out.1.c0)).trans HP.out.1.c0, (hbe2.cell (World.block_lt_of_cell? w _ HP.out.1.c1)).trans HP.out.1.c1⟩
            have t0 := hp.c0
            have t1 := hp.c1
            simp only at t0 t1
            have HCL := Lib.hid (clone_any (.mk s0 []) ⟨s0, none, 0, 0⟩ w2 (IsP.leaf (fun _ => True) w2 s0) (by rw [sizeP_mk]; decide))
            have HRG := Lib.hid hrg2
            have HBE2 := Lib.hid hbe2
            have HOUT2 := Lib.hid hout2
            have HSUP := Lib.hid (fun z (hz : (fun z => left z && !decide (z = 0)) z = true) => HBB.out.sup z (by simp at hz; exact hz.1))
            have HD := Lib.hid (And.intro HBB.out.d0 HBB.out.d1)
            have HRO := Lib.hid (And.intro HBB.out.ro (And.intro HBB.out.rb HBB.out.obge))
            have HLT := Lib.hid hlt2
            clear hkx hlx hfx hrg2 hlt2 hg2 hs2 hen HBB hbe2 hout2 hp
            go_wp2_with fail
            refine HCL.out.mono ?_
            rintro e w3 ⟨⟨nq, pq, lq, cq⟩, rfl, hq, hb3⟩
            obtain ⟨hnq, -⟩ := hq.parts
            have hnq2 : nq = s0 := hnq
            subst hnq2
            have hl1 : m1 < w.heap.size := MapAt.lt HSV.out.sol
            have hout3 := (hb3.block ob (heap_lt_of HOUT2.out)).trans HOUT2.out
            have hrg3 := HRG.out.same (hb3.block m1 (Nat.lt_of_lt_of_le hl1 HBE2.out.size)) (hb3.block r2 (RangeAt.lt HRG.out))
            have e0 : w3.cell? ⟨ob, 0, none⟩ = some (.string x0) := by rw [Lib.cell_of_heap hout3]; rfl
            have e1 : (w3.setCell ⟨ob, 0, none⟩ (.string nq)).cell? ⟨ob, 1, none⟩ = some v0 := by rw [Lib.cell_of_heap (heap_setCell_same _ _ 0 _ _ (.string nq) hout3)]; rfl
            have f0 : w3.frozen? ⟨ob, 0, none⟩ = false := Lib.frozen_of_heap hout3 0
            have f1 : w3.frozen? ⟨ob, 1, none⟩ = false := Lib.frozen_of_heap hout3 1
            have hout4 := heap_setCell_same _ _ 1 _ _ (.slice pq lq cq) (heap_setCell_same _ _ 0 _ _ (.string nq) hout3)
            have hbut4 : But (fun a => a.block = ob) w3 ((w3.setCell ⟨ob, 0, none⟩ (.string nq)).setCell ⟨ob, 1, none⟩ (.slice pq lq cq)) := (But.setCell (M := fun a => a.block = ob) _ ⟨ob, 0, none⟩ _ rfl).trans (But.setCell (M := fun a => a.block = ob) _ ⟨ob, 1, none⟩ _ rfl)
            have hrg4 := hrg3.same (hbut4.block m1 (Nat.lt_of_lt_of_le hl1 (Nat.le_trans HBE2.out.size hb3.size)) (fun a e q => by have h1 := HRO.out.2.2; have q' : a.block = ob := q; omega)) (hbut4.block r2 (Nat.lt_of_lt_of_le (RangeAt.lt HRG.out) hb3.size) (fun a e q => by have h1 := HRO.out.1; have q' : a.block = ob := q; omega))
            have HB4 : Hid (LiB w ((w3.setCell ⟨ob, 0, none⟩ (.string nq)).setCell ⟨ob, 1, none⟩ (.slice pq lq cq)) m1 r2 c1 ob f nq s1 (fun z => left z && !decide (z = 0)) cnt2 nq x1 (.slice pq lq cq) v1) :=
              ⟨hrg4, HSUP.out, ((HBE2.out.trans (hb3.mono HBE2.out.size)).setCell (p := ⟨ob, 0, none⟩) HRO.out.2.2 _).setCell (p := ⟨ob, 1, none⟩) HRO.out.2.2 _, HRO.out.2.1, hout4, HRO.out.2.2, (fun _ => rfl), (fun hz => HD.out.2 (by simpa using hz)), HRO.out.1⟩
            clear hq hb3 hnq hl1 hout3 hrg3 hout4 hbut4 hrg4 t0 t1 HCL
            go_wp2_with fail
            go_roundw
            case rel => exact ⟨_, cnt2, _, _, _, _, HB4⟩
            case measure => rw [RangeAt.left_eq HB4.out.rg, HRL.out]; exact HLT.out
          · obtain rfl : a = ⟨b1, o1, none⟩ := by rw [HF.out.2] at hfx; exact (Option.some.inj hfx).symm
            have hbe2 : Below w.heap.size w w2 := HBB.out.be.grown hg2 HBB.out.be.size (fun k e => by cases e; exact HBB.out.rb)
            have hout2 : w2.heap[ob]? = _ := (hg2.block ob (heap_lt_of HBB.out.out) (fun e => by injection e with e; have := HBB.out.ro; omega)).trans HBB.out.out
            have hp : PAt w2 b1 o1 ⟨s1, none, 0, 0⟩ := ⟨(hbe2.cell (World.block_lt_of_cell? w _ HP.out.2.c0)).trans HP.out.2.c0, (hbe2.cell (World.block_lt_of_cell? w _ HP.out.2.c1)).trans HP.out.2.c1⟩
            have t0 := hp.c0
            have t1 := hp.c1
            simp only at t0 t1
            have HCL := Lib.hid (clone_any (.mk s1 []) ⟨s1, none, 0, 0⟩ w2 (IsP.leaf (fun _ => True) w2 s1) (by rw [sizeP_mk]; decide))
            have HRG := Lib.hid hrg2
            have HBE2 := Lib.hid hbe2
            have HOUT2 := Lib.hid hout2
            have HSUP := Lib.hid (fun z (hz : (fun z => left z && !decide (z = 1)) z = true) => HBB.out.sup z (by simp at hz; exact hz.1))
            have HD := Lib.hid (And.intro HBB.out.d0 HBB.out.d1)
            have HRO := Lib.hid (And.intro HBB.out.ro (And.intro HBB.out.rb HBB.out.obge))
            have HLT := Lib.hid hlt2
            clear hkx hlx hfx hrg2 hlt2 hg2 hs2 hen HBB hbe2 hout2 hp
            go_wp2_with fail
            refine HCL.out.mono ?_
            rintro e w3 ⟨⟨nq, pq, lq, cq⟩, rfl, hq, hb3⟩
            obtain ⟨hnq, -⟩ := hq.parts
            have hnq2 : nq = s1 := hnq
            subst hnq2
            have hl1 : m1 < w.heap.size := MapAt.lt HSV.out.sol
            have hout3 := (hb3.block ob (heap_lt_of HOUT2.out)).trans HOUT2.out
            have hrg3 := HRG.out.same (hb3.block m1 (Nat.lt_of_lt_of_le hl1 HBE2.out.size)) (hb3.block r2 (RangeAt.lt HRG.out))
            have e0 : w3.cell? ⟨ob, 2, none⟩ = some (.string x1) := by rw [Lib.cell_of_heap hout3]; rfl
            have e1 : (w3.setCell ⟨ob, 2, none⟩ (.string nq)).cell? ⟨ob, 3, none⟩ = some v1 := by rw [Lib.cell_of_heap (heap_setCell_same _ _ 2 _ _ (.string nq) hout3)]; rfl
            have f0 : w3.frozen? ⟨ob, 2, none⟩ = false := Lib.frozen_of_heap hout3 2
            have f1 : w3.frozen? ⟨ob, 3, none⟩ = false := Lib.frozen_of_heap hout3 3
            have hout4 := heap_setCell_same _ _ 3 _ _ (.slice pq lq cq) (heap_setCell_same _ _ 2 _ _ (.string nq) hout3)
            have hbut4 : But (fun a => a.block = ob) w3 ((w3.setCell ⟨ob, 2, none⟩ (.string nq)).setCell ⟨ob, 3, none⟩ (.slice pq lq cq)) := (But.setCell (M := fun a => a.block = ob) _ ⟨ob, 2, none⟩ _ rfl).trans (But.setCell (M := fun a => a.block = ob) _ ⟨ob, 3, none⟩ _ rfl)
            have hrg4 := hrg3.same (hbut4.block m1 (Nat.lt_of_lt_of_le hl1 (Nat.le_trans HBE2.out.size hb3.size)) (fun a e q => by have h1 := HRO.out.2.2; have q' : a.block = ob := q; omega)) (hbut4.block r2 (Nat.lt_of_lt_of_le (RangeAt.lt HRG.out) hb3.size) (fun a e q => by have h1 := HRO.out.1; have q' : a.block = ob := q; omega))
            have HB4 : Hid (LiB w ((w3.setCell ⟨ob, 2, none⟩ (.string nq)).setCell ⟨ob, 3, none⟩ (.slice pq lq cq)) m1 r2 c1 ob f s0 nq (fun z => left z && !decide (z = 1)) cnt2 x0 nq v0 (.slice pq lq cq)) :=
              ⟨hrg4, HSUP.out, ((HBE2.out.trans (hb3.mono HBE2.out.size)).setCell (p := ⟨ob, 2, none⟩) HRO.out.2.2 _).setCell (p := ⟨ob, 3, none⟩) HRO.out.2.2 _, HRO.out.2.1, hout4, HRO.out.2.2, (fun hz => HD.out.1 (by simpa using hz)), (fun _ => rfl), HRO.out.1⟩
            clear hq hb3 hnq hl1 hout3 hrg3 hout4 hbut4 hrg4 t0 t1 HCL
            go_wp2_with fail
            go_roundw
            case rel => exact ⟨_, cnt2, _, _, _, _, HB4⟩
            case measure => rw [RangeAt.left_eq HB4.out.rg, HRL.out]; exact HLT.out
    · intro x a w2 cnt2 hkx hlx hfx hrg2 hlt2 hg2 hs2 hen
      have hen' : (Instr.entry (.pointer (some ⟨r, 0, none⟩))).run Try.prog w2 = .ok (.tuple #[.int .i64 x, .pointer (some a)]) w2 := hen
      have hx01 := HK.out x (by rw [hfx]; rfl)
      have HA2 : Hid (LiA w w2 m1 r c1 f (fun z => left z && !decide (z = x)) cnt2) := ⟨hrg2, fun z hz => HA.out.sup z (by simp at hz; exact hz.1), HA.out.be.grown hg2 HA.out.be.size (fun k e => by cases e; exact HA.out.rb), HA.out.rb⟩
      have HL2 := Lib.hid (HL.out.next hx01 hlx)
      have HLT := Lib.hid hlt2
      have hw : IntKind.i64.wrap (x + 1) = x + 1 := IntWalk.i64_in _ (by rcases hx01 with rfl | rfl <;> decide)
      clear hkx hlx hfx hrg2 hlt2 hg2 hs2 hen HA HL hx01
      go_wp2_with fail
      go_roundw
      case rel => exact ⟨_, _, cnt2, rfl, HA2, by rw [show (if Li < x + 1 then x + 1 else Li) = max Li (x + 1) by rw [Int.max_def]; split <;> split <;> omega]; exact HL2⟩
      case measure => rw [RangeAt.left_eq HA2.out.rg, HRL.out]; exact HLT.out
end Go.Proofs.Ytbnnokibjccdaaa

/-
  CONTRACT: Solve of the two equations of the sanity check.
-/
namespace Go.Proofs.Ytbnnokibjccdaaa
open Go Go.RowKit Go.Maps Go.Shelf
set_option linter.unusedVariables false
set_option linter.unusedSimpArgs false
set_option maxRecDepth 100000

def nm0 : ByteArray := ⟨#[63, 48]⟩
def nm1 : ByteArray := ⟨#[63, 49]⟩
def nmI : ByteArray := ⟨#[105, 110, 116]⟩
theorem var0 : varV nm0 0 = 0 := by decide
theorem var1 : varV nm1 0 = 1 := by decide
theorem varI : varV nmI 0 = -1 := by decide
/-- the solution behind i equations -/
def fS (eb i : Nat) : Int → Option Addr := if i = 0 then fun _ => none else if i = 1 then updM (fun _ => none) 1 (some ⟨eb, 0, none⟩) else updM (updM (fun _ => none) 1 (some ⟨eb, 0, none⟩)) 0 (some ⟨eb, 6, none⟩)
/-- how far Solve is -/
structure StS (w3 wr : World) (S m1 m2 base eb i : Nat) : Prop where
  sv : ∃ (lat : Value) (p : Option Addr) (c c1 c2 : Nat) (g : Int → Option Bool), Sv wr S m1 m2 c1 c2 (fS eb i) g lat (.slice p 0 c) ∧ c1 ≤ i ∧ c2 ≤ i ∧ PRow wr base (.slice p 0 c) []
  be : Fb S m1 m2 base w3 wr
/-- the two equations -/
structure EqA (w : World) (eb : Nat) : Prop where
  a : PAt w eb 0 ⟨nm0, none, 0, 0⟩
  b : PAt w eb 2 ⟨nm1, none, 0, 0⟩
  c : PAt w eb 4 ⟨nm1, none, 0, 0⟩
  d : PAt w eb 6 ⟨nmI, none, 0, 0⟩
theorem StS.next {w3 wr : World} {S m1 m2 base eb i : Nat} (h : StS w3 wr S m1 m2 base eb i) (he : EqA w3 eb) (hi : i < 2) (hb : S < base ∧ m1 < base ∧ m2 < base) (hbs : base ≤ w3.heap.size) (heb : eb < base ∧ eb ≠ S ∧ eb ≠ m1 ∧ eb ≠ m2) :
    Calls Try.prog 48 #[.pointer (some ⟨S, 0, none⟩), .pointer (some ⟨eb, i * 4, none⟩)] wr fun e w' => e = .returned (.bool true) ∧ StS w3 w' S m1 m2 base eb (i + 1) := by
  obtain ⟨lat, p, c, c1, c2, g, hsv, h1, h2, hp⟩ := h.sv
  have hbr := Nat.le_trans hbs h.be.size
  have e0 : nm0.toList ≠ [] := by rw [Lib.toList_data]; decide
  have e1 : nm1.toList ≠ [] := by rw [Lib.toList_data]; decide
  have eI : nmI.toList ≠ [] := by rw [Lib.toList_data]; decide
  have z0 : nm0.size ≤ 1000000000000 := by decide
  have z1 : nm1.size ≤ 1000000000000 := by decide
  have zI : nmI.size ≤ 1000000000000 := by decide
  have hi2 : i = 0 ∨ i = 1 := by omega
  rcases hi2 with rfl | rfl
  · refine (add_any S m1 m2 c1 c2 base eb 0 eb 0 eb 2 _ _ _ _ (fS eb 0) g lat p c wr hsv hp hb hbr ⟨he.a.fb h.be heb, he.a.fb h.be heb, heb, heb, z0, z0, rfl, .inl ⟨rfl, rfl⟩, rfl⟩ ⟨he.b.fb h.be heb, he.b.fb h.be heb, heb, heb, z1, z1, rfl, .inl ⟨rfl, rfl⟩, rfl⟩ (by show varV nm0 0 ≠ varV nm1 0; rw [var0, var1]; decide) (by omega) (by omega) e0 e1).mono ?_
    rintro e w' ⟨rfl, ⟨lat', p', c', c1', c2', g', q1, q2, q3, q4⟩, q5⟩
    refine ⟨rfl, ⟨lat', p', c', c1', c2', g', ?_, by omega, by omega, q4⟩, h.be.trans q5⟩
    have hf : addF (fS eb 0) (varV nm0 0) (varV nm1 0) ⟨eb, 0, none⟩ ⟨eb, 2, none⟩ = fS eb 1 := by rw [var0, var1]; rfl
    rw [← hf]
    exact q1
  · have hz : fS eb 1 0 = none := rfl
    have hz1 : fS eb 1 1 = some ⟨eb, 0, none⟩ := rfl
    have hzI : fS eb 1 (-1) = none := rfl
    refine (add_any S m1 m2 c1 c2 base eb 4 eb 0 eb 6 _ _ _ _ (fS eb 1) g lat p c wr hsv hp hb hbr ⟨he.c.fb h.be heb, he.a.fb h.be heb, heb, heb, z1, z0, (by show fS eb 1 (varV nm0 0) = none; rw [var0]; rfl), .inr (by show fS eb 1 (varV nm1 0) = _; rw [var1]; rfl), rfl⟩ ⟨he.d.fb h.be heb, he.d.fb h.be heb, heb, heb, zI, zI, (by show fS eb 1 (varV nmI 0) = none; rw [varI]; rfl), .inl ⟨rfl, rfl⟩, rfl⟩ (by show varV nm0 0 ≠ varV nmI 0; rw [var0, varI]; decide) (by omega) (by omega) e0 eI).mono ?_
    rintro e w' ⟨rfl, ⟨lat', p', c', c1', c2', g', q1, q2, q3, q4⟩, q5⟩
    refine ⟨rfl, ⟨lat', p', c', c1', c2', g', ?_, by omega, by omega, q4⟩, h.be.trans q5⟩
    have hf : addF (fS eb 1) (varV nm0 0) (varV nmI 0) ⟨eb, 0, none⟩ ⟨eb, 6, none⟩ = fS eb 2 := by rw [var0, varI]; rfl
    rw [← hf]
    exact q1
set_option maxHeartbeats 4000000 in
theorem solve_aw (eb c : Nat) (w : World) (he : EqA w eb) :
    Calls Try.prog 25 #[.slice (some ⟨eb, 0, none⟩) 2 c] w fun e w' => ∃ (ob : Nat) (v0 v1 : Value), e = .returned (.tuple #[.slice (some ⟨ob, 0, none⟩) 2 2, .slice none 0 0]) ∧ w'.heap[ob]? = some (.cells #[.string nmI, v0, .string nm0, v1] tpT (0, 0)) ∧ Below w.heap.size w w' := by
  obtain ⟨h, hh⟩ : ∃ h, w.heap.size = h := ⟨_, rfl⟩
  have hmk1 := fun w => run_makeMap0 (P := Try.prog) mpS Try.underlying80 w
  have hmk2 := fun w => run_makeMap0 (P := Try.prog) mpI Try.underlying81 w
  have hleb : eb < h := by rw [← hh]; exact World.block_lt_of_cell? w _ he.a.c0
  have hM1 := MapAt.made keyI (fun a : Addr => Value.pointer (some a)) w
  have hM1b := hM1.alloc (.map #[] 0)
  have hM2 := MapAt.made keyI Value.bool (w.alloc (.map #[] 0))
  obtain ⟨w3, hw3⟩ : ∃ y, ((w.alloc (.map #[] 0)).alloc (.map #[] 0)).alloc (.cells #[.map (some h), .slice none 0 0, .map (some (h + 1)), .slice none 0 0, .map none] svT) = y := ⟨_, rfl⟩
  have hs1 : (w.alloc (.map #[] 0)).heap.size = h + 1 := by rw [World.size_alloc, hh]
  have hs2 : ((w.alloc (.map #[] 0)).alloc (.map #[] 0)).heap.size = h + 2 := by rw [World.size_alloc, hs1]
  have hb3 := below_box ((w.alloc (.map #[] 0)).alloc (.map #[] 0)) (.cells #[.map (some h), .slice none 0 0, .map (some (h + 1)), .slice none 0 0, .map none] svT)
  have hn3 := heap_alloc_new ((w.alloc (.map #[] 0)).alloc (.map #[] 0)) (.cells #[.map (some h), .slice none 0 0, .map (some (h + 1)), .slice none 0 0, .map none] svT)
  have hs3 : w3.heap.size = h + 3 := by rw [← hw3, World.size_alloc, hs2]
  have hB3 : Below w.heap.size w w3 := by rw [← hw3]; exact bnext (bnext (below_box w _) (below_box _ _)) (below_box _ _)
  rw [hs2, hw3] at hn3
  rw [hs1] at hM2
  rw [hh] at hM1b
  have hm1 : SolAt w3 h 0 (fun _ => none) := by rw [← hw3]; exact hM1b.alloc _
  have hm2 : InsAt w3 (h + 1) 0 (fun _ => none) := by rw [← hw3]; exact hM2.alloc _
  have hsv : Sv w3 (h + 2) h (h + 1) 0 0 (fS eb 0) (fun _ => none) (.slice none 0 0) (.slice none 0 0) := ⟨hn3, hm1, hm2, by omega, by omega, by omega⟩
  have he3 : EqA w3 eb := ⟨he.a.below hB3, he.b.below hB3, he.c.below hB3, he.d.below hB3⟩
  have HST0 : Hid (StS w3 w3 (h + 2) h (h + 1) (h + 3) eb 0) := ⟨⟨_, none, 0, 0, 0, _, hsv, Nat.le_refl _, Nat.le_refl _, OwnL.isNil _ _ _ _⟩, ⟨rfl, rfl, rfl, Nat.le_refl _, fun _ _ _ _ _ => rfl⟩⟩
  have HNX := Lib.hid (fun (i : Nat) (wr : World) (q : StS w3 wr (h + 2) h (h + 1) (h + 3) eb i) (hi : i < 2) => q.next he3 hi ⟨by omega, by omega, by omega⟩ (by omega) ⟨by omega, by omega, by omega, by omega⟩)
  have HE3 := Lib.hid he3
  have HB3 := Lib.hid hB3
  have HLE := Lib.hid hleb
  have HH := Lib.hid hh
  clear hM1 hM1b hM2 hs1 hs2 hb3 hn3 hs3 hB3 hm1 hm2 hsv he3 he hleb
  go_enter Try.func25, Try.ntmps25
  go_wp2_with fail
  clear hmk1 hmk2 hh
  go_loopw [5, 13] (fun d i wr => ∃ k : Nat, k ≤ 2 ∧ d = .slice none 0 0 ∧ i = .int .i64 (k : Int) ∧ Hid (StS w3 wr (h + 2) h (h + 1) (h + 3) eb k)) (fun _ i _ => 2 - (intOf i).toNat)
  case atStart => exact ⟨0, by omega, rfl, rfl, by first | exact HST0 | (rw [hw3]; exact HST0)⟩
  case round =>
    clear HST0
    obtain ⟨k, hk, rfl, rfl, HST⟩ := hrel
    by_cases hlt : k < 2
    · have hlti : (k : Int) < 2 := by omega
      have HC := Lib.hid (HNX.out k wr HST.out hlt)
      go_wp2_with fail
      refine HC.out.mono ?_
      rintro e w' ⟨rfl, hst⟩
      have HST2 := Lib.hid hst
      clear hst HC HST
      go_wp2_with fail
      go_roundw
      case rel => exact ⟨k + 1, by omega, rfl, by go_num, HST2⟩
      case measure => simp [intOf]; omega
    · obtain rfl : k = 2 := by omega
      have hst := HST.out
      obtain ⟨lat, p, c', c1, c2, g, hsv, -, -, -⟩ := hst.sv
      have hbe := hst.be
      have hl3 := HB3.out.size
      have heb : eb < h + 3 ∧ eb ≠ h + 2 ∧ eb ≠ h ∧ eb ≠ h + 1 := ⟨by have := HLE.out; omega, by have := HLE.out; omega, by have := HLE.out; omega, by have := HLE.out; omega⟩
      have HC := Lib.hid (list_any (h + 2) h (h + 1) c1 c2 eb 6 eb 0 nmI nm0 (fS eb 2) g lat (.slice p 0 c') wr hsv rfl rfl (fun x h0 h1 => by
        show updM (updM (fun _ => none) 1 (some (⟨eb, 0, none⟩ : Addr))) 0 (some (⟨eb, 6, none⟩ : Addr)) x = none
        rw [updM_ne _ _ h0, updM_ne _ _ h1]) (HE3.out.d.fb hbe heb) (HE3.out.a.fb hbe heb))
      have hbw : Below w.heap.size w3 wr := ⟨hbe.os, hbe.tape, hbe.output, hbe.size, fun i hi => hbe.block i (by have := HH.out; omega) (by have := HH.out; omega) (by have := HH.out; omega) (by have := HH.out; omega)⟩
      have HBF := Lib.hid (HB3.out.trans hbw)
      clear hbw hst hsv hbe hl3 heb HST
      go_wp2_with fail
      refine HC.out.mono ?_
      rintro e w' ⟨ob, v0, v1, rfl, ho, hb⟩
      have HO := Lib.hid ho
      have HB := Lib.hid (bnext HBF.out hb)
      clear ho hb HC
      go_wp2_with fail
      go_ret2
      exact ⟨ob, v0, v1, rfl, HO.out, HB.out⟩
end Go.Proofs.Ytbnnokibjccdaaa
