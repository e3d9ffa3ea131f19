/-
  PROVED: for any two texts and any list of numbers, the difference of the texts, of one and of both together, and of the texts of a program before and behind an edit, is what the document's reference returns, and applying it makes the one of the other; no condition.
-/
import Derived.Test.YtflcpcefjliijaaRows
import Derived.Test.YtflcpcefjliijaaApartPlain
import Derived.Test.YtflcpcefjliijaaRefDiff
import Derived.Test.YtflcpcefjliijaaAwake
import Derived.Test.YtflcpcefjliijaaRolls
import Derived.WalkKit
import Derived.ProofKit
import Derived.OpenShut
import Derived.ShutString
import Derived.BigQuiet
import Derived.Deep.QuietTactic
namespace Go.Proofs.Ytflcpcefjliijaa.sourceDiffs
open Go Go.ChangeShapes Go.WideShapes Go.ChangeAt Go.RowKit
open Go.ChangeMaps (open_string shut_string)
set_option linter.unusedVariables false
set_option linter.unusedSimpArgs false

attribute [local go_sem] tyIs_f tyNum_f tyStr_f

theorem own : ownKnob Try.prog.godebug = none := by kernel_rfl
theorem laidOut : laidOutB Try.prog = true := by kernel_rfl

/-- the four pairs -/
def Q4 (a b T0 T1 : ByteArray) : List Src := [(a, b), (a, a ++ b), (a ++ b, b), (T0, T1)]
theorem Q4_size (a b T0 T1 : ByteArray) (ha : a.size ≤ 3000) (hb : b.size ≤ 3000) (h0 : T0.size ≤ 12400) (h1 : T1.size ≤ 12432) (j : Nat) (hj : j < 4) : ((Q4 a b T0 T1).getD j empty2).1.size ≤ 20000 ∧ ((Q4 a b T0 T1).getD j empty2).2.size ≤ 20000 := by
  have hs : (a ++ b).size = a.size + b.size := ByteArray.size_append
  match j, hj with
  | 0, _ => exact ⟨by show a.size ≤ _; omega, by show b.size ≤ _; omega⟩
  | 1, _ => exact ⟨by show a.size ≤ _; omega, by show (a ++ b).size ≤ _; omega⟩
  | 2, _ => exact ⟨by show (a ++ b).size ≤ _; omega, by show b.size ≤ _; omega⟩
  | 3, _ => exact ⟨by show T0.size ≤ _; omega, by show T1.size ≤ _; omega⟩
/-- four pairs of texts, in a block -/
def tyPairs (a b T0 T1 : ByteArray) : Ty LeW := ⟨{x : Nat // True}, ⟨⟨0, trivial⟩⟩, fun x => .slice (some ⟨x.1, 0, none⟩) 4 4, fun x w => CellsAt w x.1 0 (srcCells (Q4 a b T0 T1)),
  fun x w w' hl h => fun j v hv => by rw [Below.cell hl (World.block_lt_of_cell? w _ (h j v hv))]; exact h j v hv⟩
theorem tyPairs_f (a b T0 T1 : ByteArray) (x : Nat) (hx : True) : (tyPairs a b T0 T1).f ⟨x, hx⟩ = .slice (some ⟨x, 0, none⟩) 4 4 := rfl
theorem tyPairs_p (a b T0 T1 : ByteArray) (x : Nat) (hx : True) (w : World) : (tyPairs a b T0 T1).φ ⟨x, hx⟩ w = CellsAt w x 0 (srcCells (Q4 a b T0 T1)) := rfl
theorem fact_at {md : Region.Mode} {o : Oper} {F : Facts} {w : World} (h : leans md o F w) {j : Nat} (hj : (o.after.any fun e => Region.binds md e && (e.on == j)) = true) : F j w := by
  obtain ⟨e, he, h2⟩ := Array.any_eq_true'.1 hj
  simp only [Bool.and_eq_true, beq_iff_eq] at h2
  rw [← h2.2]
  exact h e he h2.1
theorem pairs_at (a b T0 T1 : ByteArray) (t : TypeId) (w : World) : CellsAt (w.alloc (.cells #[.string a, .string b, .string a, .string (a ++ b), .string (a ++ b), .string b, .string T0, .string T1] t)) w.heap.size 0 (srcCells (Q4 a b T0 T1)) := by
  intro j v hv
  rw [Lib.cell_of_heap (heap_alloc_new w _), Nat.zero_add]
  rw [← hv, ← Array.getElem?_toList]
  rfl

set_option maxHeartbeats 4000000 in
set_option maxRecDepth 100000 in
theorem walk (a b : ByteArray) (p : Option Addr) (n cap : Nat) (w : World) (has : a.size ≤ maxLen) (hbs : b.size ≤ maxLen) (hn : n ≤ maxLen) (hr : Rolls w p n) (hb : ∀ b o, p = some ⟨b, o, none⟩ → b < w.heap.size) :
    Calls Try.prog 4 #[.string a, .string b, .slice p n cap] w fun e w' => e = .returned (.bool true) ∧ Below w.heap.size w w' := by
  by_cases h1 : 400 < n ∨ 3000 < a.size ∨ 3000 < b.size
  · clear hr hb
    by_cases h2 : 400 < n
    · go_enter Try.func4, Try.ntmps4
      go_wp2_with fail
      refine (light_no p n cap _ h2 hn).mono ?_
      rintro e w1 ⟨rfl, rfl⟩
      go_wp2_with fail
      refine (awake_any _).mono ?_
      rintro e w1 ⟨rfl, hb⟩
      have HB := Lib.hid hb
      clear hb
      go_wp2_with fail
      go_ret
      exact ⟨rfl, HB.out⟩
    · by_cases h3 : 3000 < a.size
      · have h4 : (3000 : Int) < (a.size : Int) := by omega
        go_enter Try.func4, Try.ntmps4
        go_wp2_with fail
        refine (light_yes p n cap _ (by omega)).mono ?_
        rintro e w1 ⟨rfl, rfl⟩
        go_wp2_with fail
        refine (awake_any _).mono ?_
        rintro e w1 ⟨rfl, hb⟩
        have HB := Lib.hid hb
        clear hb
        go_wp2_with fail
        go_ret
        exact ⟨rfl, HB.out⟩
      · have h4 : ¬ (3000 : Int) < (a.size : Int) := by omega
        have h5 : (3000 : Int) < (b.size : Int) := by omega
        go_enter Try.func4, Try.ntmps4
        go_wp2_with fail
        refine (light_yes p n cap _ (by omega)).mono ?_
        rintro e w1 ⟨rfl, rfl⟩
        go_wp2_with fail
        refine (awake_any _).mono ?_
        rintro e w1 ⟨rfl, hb⟩
        have HB := Lib.hid hb
        clear hb
        go_wp2_with fail
        go_ret
        exact ⟨rfl, HB.out⟩
  · have h4 : ¬ (3000 : Int) < (a.size : Int) := by omega
    have h5 : ¬ (3000 : Int) < (b.size : Int) := by omega
    have ha3 : a.size ≤ 3000 := by omega
    have hb3 : b.size ≤ 3000 := by omega
    have HDW := Lib.hid (rolled (cap := cap) (show n ≤ 400 by omega) hr hb)
    clear hr hb
    go_enter Try.func4, Try.ntmps4
    go_wp2_with fail
    refine (light_yes p n cap _ (by omega)).mono ?_
    rintro e w2 ⟨rfl, rfl⟩
    go_wp2_with fail
    refine (roll_any p n cap _).mono ?_
    rintro e w3 ⟨rfl, rfl⟩
    clear h1 h4 h5 has hbs hn
    go_wp2_with fail
    generalize hd : (⟨w2.heap.size, p, n, cap⟩ : Dice) = d at *
    have hdD : w2.heap.size = d.D := by rw [← hd]
    rw [hdD]
    have HB3 : Hid (Below d.D w2 (w2.alloc (.cells #[.slice p n cap, .int .i64 0] 63))) := by rw [← hdD]; exact below_box w2 _
    have HD2 := Lib.hid hdD
    clear hdD
    generalize w2.alloc (.cells #[.slice p n cap, .int .i64 0] 63) = w3 at *
    refine (sources_any d w3 HDW.out.1 (by rw [← hd]; exact HDW.out.2)).mono ?_
    intro e w4 hp
    obtain ⟨L, v, rfl, hprg⟩ := hp.prg
    have hD3 : d.D < w3.heap.size := World.block_lt_of_cell? w3 _ HDW.out.1.at_
    have hrow4 : ∀ b o, d.p = some ⟨b, o, none⟩ → b < w4.heap.size := fun b o e => by have := HDW.out.2 b o (by rw [← hd] at e; exact e); have := hprg.2.2.2.size; omega
    obtain ⟨p1, m1, cap1, rfl, hn1, hpc1, hpb1⟩ := hprg.1.open
    have hlen := hprg.len
    have HB4 : Hid (Below w2.heap.size w2 w4) := by
      have e := HD2.out
      rw [e]
      exact HB3.out.trans (hprg.2.2.2.base d.D (Nat.le_refl _) (Nat.le_of_lt hD3))
    obtain ⟨ho, hsz, -, hfd⟩ := hprg
    have HO4 := Lib.hid (ho.mono (B' := d.D + 1) (by omega))
    have HPC := Lib.hid hpc1
    have HPB : Hid (∀ b o, p1 = some ⟨b, o, none⟩ → b ≠ d.D) := fun b o e => by have := hpb1 b o e; omega
    have HR4 := Lib.hid hrow4
    have HF4 := Lib.hid hfd.dice
    have HD24 : Hid (w2.heap.size ≤ d.D) := Nat.le_of_eq HD2.out
    have HN1 := Lib.hid hn1
    have HSZ := Lib.hid hsz
    have hm1 : 1 ≤ m1 := by omega
    have hm3 : m1 ≤ 3 := by omega
    clear hp hn1 hpc1 hpb1 hD3 hrow4 ho hsz hfd HB3 HDW HD2 hlen
    go_wp2_with fail
    refine (edit_any d p1 m1 cap1 L w4 HF4.out (by omega) (by omega) HO4.out.srcs (fun j hj => by have := HSZ.out j hj; omega) HPB.out HR4.out).mono ?_
    rintro e w5 ⟨i, xm, xs, xt, xa, xc, hi, hgx, hxa, hxt, rfl, htx⟩
    have hxs : xs.size ≤ 12400 := by have := HSZ.out i (by rw [← HN1.out]; exact hi); rw [hgx] at this; exact this
    have HL5 : Hid (SrcIs w5 (.slice p1 m1 cap1) L) := (HO4.out.thrown htx (by omega)).srcs
    have HB5 := Lib.hid (HB4.out.trans (htx.but.below (B := w2.heap.size) HB4.out.size (fun q hq => by unfold isAt at hq; subst hq; exact HD24.out)))
    clear htx hgx hi HO4 HB4 HR4 HF4 HPB HD24
    go_wp2_with fail
    have HL6 := Lib.hid (HL5.out.below (below_box w5 (.cells #[.string xm, .int .i64 (xa : Int), .int .i64 (xc : Int), .string xt] 31)))
    have HB6 := Lib.hid (bnext HB5.out (below_box w5 (.cells #[.string xm, .int .i64 (xa : Int), .int .i64 (xc : Int), .string xt] 31)))
    clear HL5 HB5
    generalize w5.alloc (.cells #[.string xm, .int .i64 (xa : Int), .int .i64 (xc : Int), .string xt] 31) = w6 at *
    refine (madeApply_any p1 m1 cap1 L xm xt xa xc w6 (by omega) HL6.out HPC.out (fun j hj => by have := HSZ.out j hj; omega) (by omega) (by omega) (by omega)).mono ?_
    rintro e w7 ⟨v7, rfl, ho7, hb7⟩
    have hL0 : 0 < L.length := by rw [← HN1.out]; omega
    have hM0 : 0 < (L.map (edTo xm xt xa xc)).length := by rw [List.length_map]; exact hL0
    have hT1 : ((L.map (edTo xm xt xa xc)).getD 0 empty2).2.size ≤ 12432 := by
      rw [getD_map_edTo _ _ _ _ _ _ hL0]
      exact size_edTo xm xt xa xc _ 12400 (HSZ.out 0 hL0) hxt
    have hT0 := HSZ.out 0 hL0
    have HB7 := Lib.hid (bnext HB6.out hb7)
    have hl7 := HL6.out.below hb7
    obtain ⟨p2, m2, cap2, rfl, hn2, -, -⟩ := ho7.open
    have hm2 : 0 < m2 := by rw [hn2]; exact hM0
    obtain ⟨-, -, -, hl1⟩ := hl7.lies
    obtain ⟨-, -, -, hl2⟩ := ho7.srcs.lies
    obtain ⟨b1, o1, rfl, hc1⟩ := hl1 (by omega)
    obtain ⟨b2, o2, rfl, hc2⟩ := hl2 hm2
    have z1 := hc1.text 0 hL0
    have z2 := hc2.text 0 hM0
    generalize (L.getD 0 empty2).2 = T0 at *
    generalize ((L.map (edTo xm xt xa xc)).getD 0 empty2).2 = T1 at *
    simp only [Nat.zero_mul, Nat.add_zero] at z1 z2
    have Z1 := Lib.hid z1
    have Z2 := Lib.hid z2
    have hm10 : 0 < m1 := by omega
    have hm1i : (0 : Int) < (m1 : Int) := by omega
    have hm2i : (0 : Int) < (m2 : Int) := by omega
    clear hl7 hn2 hl1 hl2 hc1 hc2 z1 z2 ho7 hb7 HL6 HB6 HN1 HSZ HPC hL0 hM0
    go_wp2_with fail
    have HB8 := Lib.hid (bnext HB7.out ((Below.refl _ w7).drew))
    have r3 : ∀ u : World, (Op.stringOp .add a b).run Try.prog u = .ok (.string (a ++ b)) u := fun u => run_string_add_sum u a b (by omega)
    apply wp_region_rel LeW.refl LeW.trans
    case hm => kernel_rfl
    case hB => kernel_rfl
    apply wpRel_cons (t := tyIs _ _)
    case h1 => (intro w' hl hd2; have c1 : w'.cell? ⟨b1, o1 + 1, none⟩ = some (.string T0) := (by rw [Below.cell hl (World.block_lt_of_cell? w7 _ Z1.out)]; exact Z1.out); have c2 : w'.cell? ⟨b2, o2 + 1, none⟩ = some (.string T1) := (by rw [Below.cell hl (World.block_lt_of_cell? w7 _ Z2.out)]; exact Z2.out); clear hl hd2; unfold relAt; go_simp; exact rel_is LeW.refl)
    intro _
    rw [tyIs_f]
    go_simp
    apply wpRel_cons (t := tyIs _ _)
    case h1 => (intro w' hl hd2; have c1 : w'.cell? ⟨b1, o1 + 1, none⟩ = some (.string T0) := (by rw [Below.cell hl (World.block_lt_of_cell? w7 _ Z1.out)]; exact Z1.out); have c2 : w'.cell? ⟨b2, o2 + 1, none⟩ = some (.string T1) := (by rw [Below.cell hl (World.block_lt_of_cell? w7 _ Z2.out)]; exact Z2.out); clear hl hd2; unfold relAt; go_simp; exact rel_is LeW.refl)
    intro _
    rw [tyIs_f]
    go_simp
    apply wpRel_cons (t := tyIs _ _)
    case h1 => (intro w' hl hd2; have c1 : w'.cell? ⟨b1, o1 + 1, none⟩ = some (.string T0) := (by rw [Below.cell hl (World.block_lt_of_cell? w7 _ Z1.out)]; exact Z1.out); have c2 : w'.cell? ⟨b2, o2 + 1, none⟩ = some (.string T1) := (by rw [Below.cell hl (World.block_lt_of_cell? w7 _ Z2.out)]; exact Z2.out); clear hl hd2; unfold relAt; go_simp; exact rel_is LeW.refl)
    intro _
    rw [tyIs_f]
    go_simp
    apply wpRel_cons (t := tyIs _ _)
    case h1 => (intro w' hl hd2; have c1 : w'.cell? ⟨b1, o1 + 1, none⟩ = some (.string T0) := (by rw [Below.cell hl (World.block_lt_of_cell? w7 _ Z1.out)]; exact Z1.out); have c2 : w'.cell? ⟨b2, o2 + 1, none⟩ = some (.string T1) := (by rw [Below.cell hl (World.block_lt_of_cell? w7 _ Z2.out)]; exact Z2.out); clear hl hd2; unfold relAt; go_simp; exact rel_is LeW.refl)
    intro _
    rw [tyIs_f]
    go_simp
    apply wpRel_cons (t := tyIs _ _)
    case h1 => (intro w' hl hd2; have c1 : w'.cell? ⟨b1, o1 + 1, none⟩ = some (.string T0) := (by rw [Below.cell hl (World.block_lt_of_cell? w7 _ Z1.out)]; exact Z1.out); have c2 : w'.cell? ⟨b2, o2 + 1, none⟩ = some (.string T1) := (by rw [Below.cell hl (World.block_lt_of_cell? w7 _ Z2.out)]; exact Z2.out); clear hl hd2; unfold relAt; go_simp; exact rel_is LeW.refl)
    intro _
    rw [tyIs_f]
    go_simp
    apply wpRel_cons (t := tyIs _ _)
    case h1 => (intro w' hl hd2; have c1 : w'.cell? ⟨b1, o1 + 1, none⟩ = some (.string T0) := (by rw [Below.cell hl (World.block_lt_of_cell? w7 _ Z1.out)]; exact Z1.out); have c2 : w'.cell? ⟨b2, o2 + 1, none⟩ = some (.string T1) := (by rw [Below.cell hl (World.block_lt_of_cell? w7 _ Z2.out)]; exact Z2.out); clear hl hd2; unfold relAt; go_simp; exact rel_is LeW.refl)
    intro _
    rw [tyIs_f]
    go_simp
    apply wpRel_cons (t := tyIs _ (.string (a ++ b)))
    case h1 => (intro w' hl hd2; have c1 : w'.cell? ⟨b1, o1 + 1, none⟩ = some (.string T0) := (by rw [Below.cell hl (World.block_lt_of_cell? w7 _ Z1.out)]; exact Z1.out); have c2 : w'.cell? ⟨b2, o2 + 1, none⟩ = some (.string T1) := (by rw [Below.cell hl (World.block_lt_of_cell? w7 _ Z2.out)]; exact Z2.out); clear hl hd2; unfold relAt; go_simp; exact rel_is LeW.refl)
    intro _
    rw [tyIs_f]
    go_simp
    apply wpRel_cons (t := tyIs _ _)
    case h1 => (intro w' hl hd2; have c1 : w'.cell? ⟨b1, o1 + 1, none⟩ = some (.string T0) := (by rw [Below.cell hl (World.block_lt_of_cell? w7 _ Z1.out)]; exact Z1.out); have c2 : w'.cell? ⟨b2, o2 + 1, none⟩ = some (.string T1) := (by rw [Below.cell hl (World.block_lt_of_cell? w7 _ Z2.out)]; exact Z2.out); clear hl hd2; unfold relAt; go_simp; exact rel_is LeW.refl)
    intro _
    rw [tyIs_f]
    go_simp
    apply wpRel_cons (t := tyIs _ _)
    case h1 => (intro w' hl hd2; have c1 : w'.cell? ⟨b1, o1 + 1, none⟩ = some (.string T0) := (by rw [Below.cell hl (World.block_lt_of_cell? w7 _ Z1.out)]; exact Z1.out); have c2 : w'.cell? ⟨b2, o2 + 1, none⟩ = some (.string T1) := (by rw [Below.cell hl (World.block_lt_of_cell? w7 _ Z2.out)]; exact Z2.out); clear hl hd2; unfold relAt; go_simp; exact rel_is LeW.refl)
    intro _
    rw [tyIs_f]
    go_simp
    apply wpRel_cons (t := tyIs _ _)
    case h1 => (intro w' hl hd2; have c1 : w'.cell? ⟨b1, o1 + 1, none⟩ = some (.string T0) := (by rw [Below.cell hl (World.block_lt_of_cell? w7 _ Z1.out)]; exact Z1.out); have c2 : w'.cell? ⟨b2, o2 + 1, none⟩ = some (.string T1) := (by rw [Below.cell hl (World.block_lt_of_cell? w7 _ Z2.out)]; exact Z2.out); clear hl hd2; unfold relAt; go_simp; exact rel_is LeW.refl)
    intro _
    rw [tyIs_f]
    go_simp
    apply wpRel_cons (t := tyIs _ (.string (a ++ b)))
    case h1 => (intro w' hl hd2; have c1 : w'.cell? ⟨b1, o1 + 1, none⟩ = some (.string T0) := (by rw [Below.cell hl (World.block_lt_of_cell? w7 _ Z1.out)]; exact Z1.out); have c2 : w'.cell? ⟨b2, o2 + 1, none⟩ = some (.string T1) := (by rw [Below.cell hl (World.block_lt_of_cell? w7 _ Z2.out)]; exact Z2.out); clear hl hd2; unfold relAt; go_simp; exact rel_is LeW.refl)
    intro _
    rw [tyIs_f]
    go_simp
    apply wpRel_cons (t := tyIs _ _)
    case h1 => (intro w' hl hd2; have c1 : w'.cell? ⟨b1, o1 + 1, none⟩ = some (.string T0) := (by rw [Below.cell hl (World.block_lt_of_cell? w7 _ Z1.out)]; exact Z1.out); have c2 : w'.cell? ⟨b2, o2 + 1, none⟩ = some (.string T1) := (by rw [Below.cell hl (World.block_lt_of_cell? w7 _ Z2.out)]; exact Z2.out); clear hl hd2; unfold relAt; go_simp; exact rel_is LeW.refl)
    intro _
    rw [tyIs_f]
    go_simp
    apply wpRel_cons (t := tyIs _ _)
    case h1 => (intro w' hl hd2; have c1 : w'.cell? ⟨b1, o1 + 1, none⟩ = some (.string T0) := (by rw [Below.cell hl (World.block_lt_of_cell? w7 _ Z1.out)]; exact Z1.out); have c2 : w'.cell? ⟨b2, o2 + 1, none⟩ = some (.string T1) := (by rw [Below.cell hl (World.block_lt_of_cell? w7 _ Z2.out)]; exact Z2.out); clear hl hd2; unfold relAt; go_simp; exact rel_is LeW.refl)
    intro _
    rw [tyIs_f]
    go_simp
    apply wpRel_cons (t := tyIs _ _)
    case h1 => (intro w' hl hd2; have c1 : w'.cell? ⟨b1, o1 + 1, none⟩ = some (.string T0) := (by rw [Below.cell hl (World.block_lt_of_cell? w7 _ Z1.out)]; exact Z1.out); have c2 : w'.cell? ⟨b2, o2 + 1, none⟩ = some (.string T1) := (by rw [Below.cell hl (World.block_lt_of_cell? w7 _ Z2.out)]; exact Z2.out); clear hl hd2; unfold relAt; go_simp; exact rel_is LeW.refl)
    intro _
    rw [tyIs_f]
    go_simp
    apply wpRel_cons (t := tyIs _ _)
    case h1 => (intro w' hl hd2; have c1 : w'.cell? ⟨b1, o1 + 1, none⟩ = some (.string T0) := (by rw [Below.cell hl (World.block_lt_of_cell? w7 _ Z1.out)]; exact Z1.out); have c2 : w'.cell? ⟨b2, o2 + 1, none⟩ = some (.string T1) := (by rw [Below.cell hl (World.block_lt_of_cell? w7 _ Z2.out)]; exact Z2.out); clear hl hd2; unfold relAt; go_simp; exact rel_is LeW.refl)
    intro _
    rw [tyIs_f]
    go_simp
    apply wpRel_cons (t := tyIs _ _)
    case h1 => (intro w' hl hd2; have c1 : w'.cell? ⟨b1, o1 + 1, none⟩ = some (.string T0) := (by rw [Below.cell hl (World.block_lt_of_cell? w7 _ Z1.out)]; exact Z1.out); have c2 : w'.cell? ⟨b2, o2 + 1, none⟩ = some (.string T1) := (by rw [Below.cell hl (World.block_lt_of_cell? w7 _ Z2.out)]; exact Z2.out); clear hl hd2; unfold relAt; go_simp; exact rel_is LeW.refl)
    intro _
    rw [tyIs_f]
    go_simp
    apply wpRel_cons (t := tyIs _ (.string T0))
    case h1 => (intro w' hl hd2; have c1 : w'.cell? ⟨b1, o1 + 1, none⟩ = some (.string T0) := (by rw [Below.cell hl (World.block_lt_of_cell? w7 _ Z1.out)]; exact Z1.out); have c2 : w'.cell? ⟨b2, o2 + 1, none⟩ = some (.string T1) := (by rw [Below.cell hl (World.block_lt_of_cell? w7 _ Z2.out)]; exact Z2.out); clear hl hd2; unfold relAt; go_simp; exact rel_is LeW.refl)
    intro _
    rw [tyIs_f]
    go_simp
    apply wpRel_cons (t := tyIs _ _)
    case h1 => (intro w' hl hd2; have c1 : w'.cell? ⟨b1, o1 + 1, none⟩ = some (.string T0) := (by rw [Below.cell hl (World.block_lt_of_cell? w7 _ Z1.out)]; exact Z1.out); have c2 : w'.cell? ⟨b2, o2 + 1, none⟩ = some (.string T1) := (by rw [Below.cell hl (World.block_lt_of_cell? w7 _ Z2.out)]; exact Z2.out); clear hl hd2; unfold relAt; go_simp; exact rel_is LeW.refl)
    intro _
    rw [tyIs_f]
    go_simp
    apply wpRel_cons (t := tyIs _ _)
    case h1 => (intro w' hl hd2; have c1 : w'.cell? ⟨b1, o1 + 1, none⟩ = some (.string T0) := (by rw [Below.cell hl (World.block_lt_of_cell? w7 _ Z1.out)]; exact Z1.out); have c2 : w'.cell? ⟨b2, o2 + 1, none⟩ = some (.string T1) := (by rw [Below.cell hl (World.block_lt_of_cell? w7 _ Z2.out)]; exact Z2.out); clear hl hd2; unfold relAt; go_simp; exact rel_is LeW.refl)
    intro _
    rw [tyIs_f]
    go_simp
    apply wpRel_cons (t := tyIs _ _)
    case h1 => (intro w' hl hd2; have c1 : w'.cell? ⟨b1, o1 + 1, none⟩ = some (.string T0) := (by rw [Below.cell hl (World.block_lt_of_cell? w7 _ Z1.out)]; exact Z1.out); have c2 : w'.cell? ⟨b2, o2 + 1, none⟩ = some (.string T1) := (by rw [Below.cell hl (World.block_lt_of_cell? w7 _ Z2.out)]; exact Z2.out); clear hl hd2; unfold relAt; go_simp; exact rel_is LeW.refl)
    intro _
    rw [tyIs_f]
    go_simp
    apply wpRel_cons (t := tyIs _ (.string T1))
    case h1 => (intro w' hl hd2; have c1 : w'.cell? ⟨b1, o1 + 1, none⟩ = some (.string T0) := (by rw [Below.cell hl (World.block_lt_of_cell? w7 _ Z1.out)]; exact Z1.out); have c2 : w'.cell? ⟨b2, o2 + 1, none⟩ = some (.string T1) := (by rw [Below.cell hl (World.block_lt_of_cell? w7 _ Z2.out)]; exact Z2.out); clear hl hd2; unfold relAt; go_simp; exact rel_is LeW.refl)
    intro _
    rw [tyIs_f]
    go_simp
    apply wpRel_cons (t := tyIs _ _)
    case h1 => (intro w' hl hd2; have c1 : w'.cell? ⟨b1, o1 + 1, none⟩ = some (.string T0) := (by rw [Below.cell hl (World.block_lt_of_cell? w7 _ Z1.out)]; exact Z1.out); have c2 : w'.cell? ⟨b2, o2 + 1, none⟩ = some (.string T1) := (by rw [Below.cell hl (World.block_lt_of_cell? w7 _ Z2.out)]; exact Z2.out); clear hl hd2; unfold relAt; go_simp; exact rel_is LeW.refl)
    intro _
    rw [tyIs_f]
    go_simp
    apply wpRel_cons (t := tyPairs a b T0 T1)
    case h1 => (intro w' hl hd2; clear hl hd2; unfold relAt; go_simp; refine ⟨below_box _ _, ⟨_, trivial⟩, rfl, ?_⟩; rw [tyPairs_p]; exact pairs_at a b T0 T1 _ w')
    rintro ⟨pb, -⟩
    rw [tyPairs_f]
    go_simp
    apply wpRel_cons (t := tyPairs a b T0 T1)
    case h1 => (intro w' hl hd2; have hx := fact_at hd2 (j := 22) (by kernel_rfl); clear hl hd2; simp [upd, tyPairs_p] at hx; unfold relAt; go_simp; exact ⟨LeW.refl _, ⟨pb, trivial⟩, rfl, hx⟩)
    rintro ⟨pb2, -⟩
    rw [tyPairs_f]
    go_simp
    apply wpRel_nil (Ts := [])
    intro w9 hl hF
    have hx := hF 23
    simp [upd, tyPairs_p] at hx
    have HC := Lib.hid hx
    have HB9 := Lib.hid (bnext HB8.out hl)
    clear hx hl hF r3 HB8 HB7 Z1 Z2
    have HQS := Lib.hid (Q4_size a b T0 T1 ha3 hb3 hT0 hT1)
    have hQl : (Q4 a b T0 T1).length = 4 := rfl
    generalize Q4 a b T0 T1 = Q at *
    have HQL := Lib.hid hQl
    clear hQl hT0 hT1 hm1i hm2i
    go_wp2_with fail
    clear hm10
    go_loopw [6, 12, 13, 14, 15, 16, 17, 18, 19, 20, 21, 22] (fun _ i _ _ _ _ _ _ _ _ _ _ wr => ∃ j : Nat, j ≤ 4 ∧ i = .int .i64 j ∧ Hid (Below w9.heap.size w9 wr)) (fun _ i _ _ _ _ _ _ _ _ _ _ _ => 4 - (intOf i).toNat)
    case atStart => exact ⟨0, Nat.zero_le _, rfl, Below.refl _ _⟩
    case round =>
      obtain ⟨j, hj, rfl, hb⟩ := hrel
      by_cases hlt : j < 4
      · have hji : (j : Int) < 4 := by omega
        have hjQ : j < Q.length := by rw [HQL.out]; exact hlt
        have c0 : wr.cell? ⟨pb2, j * 2, none⟩ = some (.string (Q.getD j empty2).1) := by
          have := HC.out.name j hjQ
          rw [Nat.zero_add] at this
          rw [hb.out.cell (World.block_lt_of_cell? w9 _ this)]
          exact this
        have c1 : wr.cell? ⟨pb2, j * 2 + 1, none⟩ = some (.string (Q.getD j empty2).2) := by
          have := HC.out.text j hjQ
          rw [Nat.zero_add] at this
          rw [hb.out.cell (World.block_lt_of_cell? w9 _ this)]
          exact this
        have hsz := HQS.out j hlt
        generalize Q.getD j empty2 = y at *
        obtain ⟨old, now⟩ := y
        simp only at c0 c1 hsz
        have ho := hsz.1
        have hn := hsz.2
        have HBR := Lib.hid hb.out
        clear hsz hjQ hb
        go_wp2_with fail
        go_quiet (fail)
        have HBQ := Lib.hid (below_drewN HBR.out nq)
        clear HBR c0 c1
        go_wp2_with fail
        refine (diff_any old now _ (by omega) (by omega)).mono ?_
        rintro e w10 ⟨rfl, mq, hw10⟩
        have HB10 : Hid (Below w9.heap.size w9 w10) := by rw [hw10]; exact below_drewN HBQ.out mq
        have hcnt : (old.size : Int) - (editAt old now : Nat) - (editEnd old now : Nat) = ((old.size - editAt old now - editEnd old now : Nat) : Int) := by
          have := editEnd_left old now
          omega
        rw [hcnt]
        have hap := apply_one old (now.extract (editAt old now) (now.size - editEnd old now)) (editAt old now : Nat) ((old.size - editAt old now - editEnd old now : Nat) : Int) ho (diff_err old now hn)
        rw [edit_diff old now] at hap
        have HAP := Lib.hid hap
        have HCNT := Lib.hid hcnt
        have HREF := Lib.hid (fun w => refDiff_any old now w (by omega) (by omega))
        have hx1 : editAt old now ≤ 20000 := by have := editEnd_left old now; omega
        have hx2 : old.size - editAt old now - editEnd old now ≤ 20000 := by omega
        have hx3 : (now.extract (editAt old now) (now.size - editEnd old now)).size ≤ 20000 := by rw [ByteArray.size_extract]; omega
        rw [HCNT.out] at HREF
        generalize editAt old now = eA at *
        generalize old.size - eA - editEnd old now = eC at *
        generalize now.extract eA (now.size - editEnd old now) = eT at *
        clear hcnt hap HBQ hw10 HCNT
        go_wp2_with fail
        refine (HREF.out _).mono ?_
        rintro e w11 ⟨rfl, mq2, hw11⟩
        have HB11 : Hid (Below w9.heap.size w9 w11) := by rw [hw11]; exact below_drewN HB10.out mq2
        clear hw11 HREF HB10
        go_wp2_with fail
        have hsrc : SrcIs (w11.alloc (.cells #[.string ⟨#[109]⟩, .string old] 35)) (.slice (some ⟨w11.heap.size, 0, none⟩) 1 1) [(⟨#[109]⟩, old)] := ⟨_, 1, rfl, Nat.le_refl _, by unfold maxLen; omega, lies_one (box_name w11 _ _ _) (box_text w11 _ _ _)⟩
        have hfit : Fits [((⟨#[109]⟩ : ByteArray), old)] := by
          intro x hx
          simp at hx
          subst hx
          unfold maxLen
          exact ⟨by show (1 : Nat) ≤ _; omega, by show old.size ≤ _; omega⟩
        have HB12 := Lib.hid (HB11.out.trans ((below_box w11 (.cells #[.string ⟨#[109]⟩, .string old] 35)).mono HB11.out.size))
        clear HB11
        refine (apply_any (some ⟨w11.heap.size, 0, none⟩) 1 1 _ ⟨#[109]⟩ eT (eA : Int) (eC : Int) _ (by omega) hsrc hfit (by omega) (by omega) (by omega) (by omega) (by omega)).mono ?_
        rintro e w13 ⟨v13, he, hv13, hb⟩
        rw [HAP.out] at he hv13
        subst he
        simp only at hv13
        have HB13 := Lib.hid (HB12.out.trans (hb.mono HB12.out.size))
        obtain ⟨bq, oq, cq, hve, hct⟩ : ∃ bq oq cq, v13 = .slice (some ⟨bq, oq, none⟩) 1 cq ∧ w13.cell? ⟨bq, oq + 1, none⟩ = some (.string now) := by
          obtain ⟨q, c, e, _, _, hl⟩ := hv13
          obtain ⟨bq, oq, rfl, hcq⟩ := hl (by simp)
          have := hcq.text 0 (by simp)
          exact ⟨bq, oq, c, e, by simpa [List.getD] using this⟩
        subst hve
        clear hsrc hfit HB12 hb hv13 HAP hx1 hx2 hx3
        go_wp2_with fail
        go_roundw
        case rel => exact ⟨j + 1, by omega, by go_num, by first | exact HB13.out | exact below_drewN HB13.out _⟩
        case measure => simp [intOf]; omega
      · have hj4 : j = 4 := by omega
        subst hj4
        have HBR := Lib.hid (bnext HB9.out hb.out)
        clear hb hlt hj
        go_wp2_with fail
        refine (awake_any _).mono ?_
        rintro e w10 ⟨rfl, hb⟩
        have HBX := Lib.hid (bnext HBR.out hb)
        clear hb
        go_wp2_with fail
        go_ret
        exact ⟨rfl, HBX.out⟩

set_option maxRecDepth 100000 in
theorem lifted (os : Os) (started : os.Started) (H : Type) (enc : TypeId × Value → H) :
    ReturnsInHanded {} Try.checked os 4 .any (Rows.sourceDiffsSpec.pre6 enc Try.prog Try.f4 Rows.sourceDiffsRow.domain false) (Rows.sourceDiffsSpec.post enc Try.prog Try.f4 false true false false) := by
  refine returnsInHanded_of_change (C := Try.checked) own started (by kernel_rfl) Try.func4
    (ChangeSpec.witness6 (enc := enc) (C := Try.checked) false ⟨#[], #[.string ByteArray.empty, .string ByteArray.empty, .slice none 0 0], []⟩ 8 (by kernel_rfl) (by kernel_rfl) (by kernel_rfl) (by kernel_rfl)) ?_
  intro W base args ds gs before hval0 hW hcnd _
  have hval : ∀ (j : Nat) t v, Try.f4.params[j]? = some t → args[j]? = some v → Value.okWide Try.prog W .any base t v := hval0
  have hW' := hW
  obtain ⟨p, q, hA0, hV, rfl, hfz, hnd⟩ := hW
  have hA : DataW.TrodAll enc Try.prog W 0 (fun _ => true) true Try.f4.params.toList args.toList ds p := hA0
  rw [Try.params4] at hA hval
  obtain ⟨v0, vs0, d0, ds0, p0, q0, hargs, rfl, rfl, h0, r0⟩ := trodAll_cons hA
  obtain ⟨v1, vs1, d1, ds1, p1, q1, rfl, rfl, rfl, h1, r1⟩ := trodAll_cons r0
  obtain ⟨v2, vs2, d2, ds2, p2, q2, rfl, rfl, rfl, h2, r2⟩ := trodAll_cons r1
  obtain ⟨rfl, rfl, rfl⟩ := trodAll_nil r2
  obtain rfl : args = #[v0, v1, v2] := by cases args; simp_all
  obtain ⟨rfl, rfl⟩ := trodVars_none hV
  have k0 := h0
  have lt0 : ∀ x ∈ p0, x.block < W.heap.size := by obtain ⟨m, hm⟩ := k0; exact DataW.trod_lt m _ _ _ hm
  have k1 := h1
  have lt1 : ∀ x ∈ p1, x.block < W.heap.size := by obtain ⟨m, hm⟩ := k1; exact DataW.trod_lt m _ _ _ hm
  have k2 := h2
  have lt2 : ∀ x ∈ p2, x.block < W.heap.size := by obtain ⟨m, hm⟩ := k2; exact DataW.trod_lt m _ _ _ hm
  obtain ⟨s0, rfl, _, _, ws0⟩ := open_string Try.underlying9 (hval 0 9 v0 rfl rfl) h0
  obtain ⟨s1, rfl, _, _, ws1⟩ := open_string Try.underlying9 (hval 1 9 v1 rfl rfl) h1
  obtain ⟨p', n, cap, rfl, hn, hro, hin⟩ := open_rolls (hval 2 22 v2 rfl rfl) h2
  clear hA0 hval0
  refine (walk s0 s1 p' n cap W ws0 ws1 hn hro hin).mono fun e W' ⟨he, bel⟩ => ?_
  subst he
  exact ⟨_, rfl, _, _, _, [], _, [], hW', trodAll_mk1 (shut_bool Try.underlying4 _), (trodAll_cons_mk (Below.trod laidOut (by kernel_rfl) (of_decide_eq_true (by kernel_rfl)) k0 bel lt0) (trodAll_cons_mk (Below.trod laidOut (by kernel_rfl) (of_decide_eq_true (by kernel_rfl)) k1 bel lt1) (trodAll_cons_mk (Below.trod laidOut (by kernel_rfl) (of_decide_eq_true (by kernel_rfl)) k2 bel lt2) trodAll_mk0))), rfl, bel.frame _, fun h => by cases h⟩

theorem proved : Rows.SourceDiffsSaid :=
  OpenClaim.holds_of_wide 4 Try.f4 rfl rfl rfl rfl rfl rfl rfl ⟨rfl, rfl, rfl, rfl, rfl⟩ rfl rfl rfl rfl rfl (by kernel_rfl) Try.func4 (by kernel_rfl)
    (of_decide_eq_true (by kernel_rfl)) (by unfold Func.isWrapper; first | (rw [if_pos (by decide +kernel)]; kernel_rfl) | (rw [if_neg (by decide +kernel)]; exact ⟨rfl, rfl⟩))
    (fun os started H enc _ => lifted os started H enc)
end Go.Proofs.Ytflcpcefjliijaa.sourceDiffs
