/-
  PROVED: for any list of numbers, of the program that the numbers make and two edits of it: two edits at different places can be done in any order, and an edit is undone by the one back; no condition.
-/
import Derived.Test.YtflcpcefjliijaaRows
import Derived.Test.YtflcpcefjliijaaApartPlain
import Derived.Test.YtflcpcefjliijaaSame
import Derived.Test.YtflcpcefjliijaaAwake
import Derived.Test.YtflcpcefjliijaaRolls
import Derived.WalkKit
import Derived.ProofKit
import Derived.OpenShut
import Derived.ShutString
namespace Go.Proofs.Ytflcpcefjliijaa.sourceApart
open Go Go.ChangeShapes Go.WideShapes Go.ChangeAt Go.RowKit
set_option linter.unusedVariables false
set_option linter.unusedSimpArgs false

attribute [local go_sem] tyIs_f tyNum_f tyStr_f

theorem own : ownKnob Try.prog.godebug = none := by kernel_rfl
theorem laidOut : laidOutB Try.prog = true := by kernel_rfl

/-- the program and both edits -/
structure Ap (p : Option Addr) (n cap : Nat) (L : List Src) (xb yb : Nat) (xm xt : ByteArray) (xa xc : Int) (ym yt : ByteArray) (ya yc : Int) (w : World) : Prop where
  list : SrcIs w (.slice p n cap) L
  x : w.heap[xb]? = some (.cells (edC xm xa xc xt) 31 (0, 0))
  y : w.heap[yb]? = some (.cells (edC ym ya yc yt) 31 (0, 0))
theorem Ap.below {p : Option Addr} {n cap : Nat} {L : List Src} {xb yb : Nat} {xm xt : ByteArray} {xa xc : Int} {ym yt : ByteArray} {ya yc : Int} {w w' : World} (h : Ap p n cap L xb yb xm xt xa xc ym yt ya yc w) (hb : Below w.heap.size w w') : Ap p n cap L xb yb xm xt xa xc ym yt ya yc w' :=
  ⟨h.list.below hb, by rw [hb.block xb (heap_lt h.x)]; exact h.x, by rw [hb.block yb (heap_lt h.y)]; exact h.y⟩
theorem edcells {w : World} {xb : Nat} {m tx : ByteArray} {a c : Int} (h : w.heap[xb]? = some (.cells (edC m a c tx) 31 (0, 0))) :
    w.cell? ⟨xb, 0, none⟩ = some (.string m) ∧ w.cell? ⟨xb, 1, none⟩ = some (.int .i64 a) ∧ w.cell? ⟨xb, 2, none⟩ = some (.int .i64 c) ∧ w.cell? ⟨xb, 3, none⟩ = some (.string tx) ∧ ∀ i, w.frozen? ⟨xb, i, none⟩ = false :=
  ⟨by rw [Lib.cell_of_heap h]; rfl, by rw [Lib.cell_of_heap h]; rfl, by rw [Lib.cell_of_heap h]; rfl, by rw [Lib.cell_of_heap h]; rfl, fun i => Lib.frozen_of_heap h i⟩
theorem fits_PL (k : Nat) (T : Nat → ByteArray) (h : ∀ i, i < k → (T i).size ≤ 20000) : Fits (PL k T) := by
  intro x hx
  obtain ⟨i, hi, rfl⟩ := List.mem_map.1 hx
  have := h i (List.mem_range.1 hi)
  unfold maxLen
  exact ⟨by show (letterOf i).size ≤ _; rw [size_letter]; omega, by show (T i).size ≤ _; omega⟩
theorem find_PL (k i : Nat) (T : Nat → ByteArray) (hk : k ≤ 3) (hi : i < k) : findB (PL k T) (letterOf i) = true ∧ findT (PL k T) (letterOf i) = T i := by
  have h2 := idx_PL k i T hk hi
  exact ⟨by unfold findB; rw [h2, PL_len]; exact decide_eq_true hi, by unfold findT; rw [h2, PL_len, if_pos hi, PL_at k T i hi]⟩
theorem err_ok (n a c m : Nat) (h1 : a + c ≤ n) (h2 : n - c + m ≤ 20000) : editErr n (a : Int) (c : Int) m = 0 := by
  unfold editErr
  rw [if_neg (by omega), if_neg (by omega)]
theorem PL_congr (k : Nat) {T U : Nat → ByteArray} (h : ∀ i, i < k → T i = U i) : PL k T = PL k U := by
  unfold PL
  exact List.map_congr_left (fun i hi => by rw [h i (List.mem_range.1 hi)])

/-- a new edit, empty -/
def tyEdN (B : Nat) : Ty LeW := ⟨{b : Nat // True}, ⟨⟨0, trivial⟩⟩, fun b => .pointer (some ⟨b.1, 0, none⟩), fun b w => w.heap[b.1]? = some (.cells (edC ⟨#[]⟩ 0 0 ⟨#[]⟩) 31 (0, 0)) ∧ B ≤ b.1,
  fun x w w' hl h => ⟨by rw [Below.block hl x.1 (heap_lt h.1)]; exact h.1, h.2⟩⟩
theorem tyEdN_f (B b : Nat) (hb : True) : (tyEdN B).f ⟨b, hb⟩ = .pointer (some ⟨b, 0, none⟩) := rfl
theorem tyEdN_p (B b : Nat) (hb : True) (w : World) : (tyEdN B).φ ⟨b, hb⟩ w = (w.heap[b]? = some (.cells (edC ⟨#[]⟩ 0 0 ⟨#[]⟩) 31 (0, 0)) ∧ B ≤ b) := rfl

set_option maxHeartbeats 4000000 in
set_option maxRecDepth 100000 in
theorem walk (p : Option Addr) (n cap : Nat) (w : World) (hn : n ≤ maxLen) (hr : Rolls w p n) (hb : ∀ b o, p = some ⟨b, o, none⟩ → b < w.heap.size) :
    Calls Try.prog 5 #[.slice p n cap] w fun e w' => e = .returned (.bool true) ∧ Below w.heap.size w w' := by
  by_cases h1 : 400 < n
  · clear hr hb
    go_enter Try.func5, Try.ntmps5
    go_wp2_with fail
    refine (light_no p n cap _ h1 hn).mono ?_
    rintro e w1 ⟨rfl, rfl⟩
    go_wp2_with fail
    refine (awake_any _).mono ?_
    rintro e w1 ⟨rfl, hb⟩
    have HB := Lib.hid hb
    clear hb
    go_wp2_with fail
    go_ret
    exact ⟨rfl, HB.out⟩
  · have HDW := Lib.hid (rolled (cap := cap) (show n ≤ 400 by omega) hr hb)
    clear hr hb
    go_enter Try.func5, Try.ntmps5
    go_wp2_with fail
    refine (light_yes p n cap _ (by omega)).mono ?_
    rintro e w2 ⟨rfl, rfl⟩
    go_wp2_with fail
    refine (roll_any p n cap _).mono ?_
    rintro e w3 ⟨rfl, rfl⟩
    go_wp2_with fail
    generalize hd : (⟨w2.heap.size, p, n, cap⟩ : Dice) = d at *
    have hdD : w2.heap.size = d.D := by rw [← hd]
    rw [hdD]
    have HB3 : Hid (Below d.D w2 (w2.alloc (.cells #[.slice p n cap, .int .i64 0] 63))) := by rw [← hdD]; exact below_box w2 _
    have HD2 := Lib.hid hdD
    clear hdD
    generalize w2.alloc (.cells #[.slice p n cap, .int .i64 0] 63) = w3 at *
    refine (sources_any d w3 HDW.out.1 (by rw [← hd]; exact HDW.out.2)).mono ?_
    intro e w4 hp
    obtain ⟨L, v, rfl, hprg⟩ := hp.prg
    have hD3 : d.D < w3.heap.size := World.block_lt_of_cell? w3 _ HDW.out.1.at_
    have hrow4 : ∀ b o, d.p = some ⟨b, o, none⟩ → b < w4.heap.size := fun b o e => by have := HDW.out.2 b o (by rw [← hd] at e; exact e); have := hprg.2.2.2.size; omega
    obtain ⟨p1, m1, cap1, rfl, hn1, hpc1, hpb1⟩ := hprg.1.open
    have HB4 : Hid (Below w2.heap.size w2 w4) := by
      have e := HD2.out
      rw [e]
      exact HB3.out.trans (hprg.2.2.2.base d.D (Nat.le_refl _) (Nat.le_of_lt hD3))
    obtain ⟨ho, hsz, ⟨K, hK1, hK3, hKL⟩, hfd⟩ := hprg
    have hPL := PL_of hKL
    have HSZ : Hid (∀ i, i < K → ((fun i => (L.getD i empty2).2) i).size ≤ 12400) := fun i hi => hsz i (by have := congrArg List.length hKL; simp at this; omega)
    generalize (fun i => (L.getD i empty2).2) = T at *
    subst hPL
    have hmK : m1 = K := by rw [hn1, PL_len]
    subst hmK
    have HO4 := Lib.hid (ho.mono (B' := d.D + 1) (by omega))
    have HPC := Lib.hid hpc1
    have HPB : Hid (∀ b o, p1 = some ⟨b, o, none⟩ → b ≠ d.D) := fun b o e => by have := hpb1 b o e; omega
    have HR4 := Lib.hid hrow4
    have HF4 := Lib.hid hfd.dice
    have HD24 : Hid (w2.heap.size ≤ d.D) := Nat.le_of_eq HD2.out
    clear hp hn1 hpc1 hpb1 hD3 hrow4 ho hsz hKL hfd HB3 HDW HD2
    go_wp2_with fail
    refine (edit_any d p1 m1 cap1 (PL m1 T) w4 HF4.out (by omega) (by omega) HO4.out.srcs (fun j hj => by rw [PL_len] at hj; rw [PL_at m1 T j hj]; have := HSZ.out j hj; show (T j).size ≤ _; omega) HPB.out HR4.out).mono ?_
    rintro e w5 ⟨i, xm, xs, xt, xa, xc, hi, hgx, hxa, hxt, rfl, htx⟩
    rw [PL_at m1 T i hi] at hgx
    injection hgx with hx1 hx2
    subst hx1; subst hx2
    have HO5 := Lib.hid (HO4.out.thrown htx (by omega))
    have HTX := Lib.hid htx
    clear htx
    go_wp2_with fail
    refine (edit_any d p1 m1 cap1 (PL m1 T) w5 HTX.out.good (by omega) (by omega) HO5.out.srcs (fun j hj => by rw [PL_len] at hj; rw [PL_at m1 T j hj]; have := HSZ.out j hj; show (T j).size ≤ _; omega) HPB.out (fun b o e => by have := HR4.out b o e; have := HTX.out.but.size; omega)).mono ?_
    rintro e w6 ⟨j, ym, ys, yt, ya, yc, hj, hgy, hya, hyt, rfl, hty⟩
    rw [PL_at m1 T j hj] at hgy
    injection hgy with hy1 hy2
    subst hy1; subst hy2
    have HL6 : Hid (SrcIs w6 (.slice p1 m1 cap1) (PL m1 T)) := (HO5.out.thrown hty (by omega)).srcs
    have HB6 : Hid (Below w2.heap.size w2 w6) := by
      have q1 := HB4.out.trans (HTX.out.but.below (B := w2.heap.size) HB4.out.size (fun q hq => by unfold isAt at hq; subst hq; exact HD24.out))
      exact q1.trans (hty.but.below q1.size (fun q hq => by unfold isAt at hq; subst hq; exact HD24.out))
    clear hty HTX HO5 HO4 HB4 HR4 HF4 HPB HD24
    have hs7 : (w6.alloc (.cells #[.string (letterOf i), .int .i64 (xa : Int), .int .i64 (xc : Int), .string xt] 31)).heap.size = w6.heap.size + 1 := by simp
    have HA7 : Hid (Ap p1 m1 cap1 (PL m1 T) w6.heap.size (w6.heap.size + 1) (letterOf i) xt xa xc (letterOf j) yt ya yc ((w6.alloc (.cells #[.string (letterOf i), .int .i64 (xa : Int), .int .i64 (xc : Int), .string xt] 31)).alloc (.cells #[.string (letterOf j), .int .i64 (ya : Int), .int .i64 (yc : Int), .string yt] 31))) := by
      refine ⟨(HL6.out.below (below_box w6 _)).below (below_box _ _), ?_, ?_⟩
      · rw [(below_box (w6.alloc _) _).block _ (by rw [hs7]; omega)]
        exact heap_alloc_new w6 _
      · have := heap_alloc_new (w6.alloc (.cells #[.string (letterOf i), .int .i64 (xa : Int), .int .i64 (xc : Int), .string xt] 31)) (.cells #[.string (letterOf j), .int .i64 (ya : Int), .int .i64 (yc : Int), .string yt] 31)
        rw [hs7] at this
        exact this
    have HB7 := Lib.hid (bnext (bnext HB6.out (below_box w6 (.cells #[.string (letterOf i), .int .i64 (xa : Int), .int .i64 (xc : Int), .string xt] 31))) (below_box _ (.cells #[.string (letterOf j), .int .i64 (ya : Int), .int .i64 (yc : Int), .string yt] 31)))
    have szi : (T i).size ≤ 12400 := HSZ.out i hi
    have szj : (T j).size ≤ 12400 := HSZ.out j hj
    have hT2 : ∀ q, q < m1 → (T q).size ≤ 20000 := fun q hq => by have : (T q).size ≤ 12400 := HSZ.out q hq; omega
    have HFT := Lib.hid (fits_PL m1 T hT2)
    have hap := apply_PL m1 i T (xa : Int) (xc : Int) xt hK3 hi hT2 (err_ok _ _ _ _ hxa (by omega))
    have hE1 := editText_size (T i) xt xa xc hxa
    have hbk := edit_back (T i) xt xa xc hxa
    have HT2 := Lib.hid hT2
    have HAP := Lib.hid hap
    have HBK := Lib.hid hbk
    have HE1 := Lib.hid hE1
    have HFD := Lib.hid (find_PL m1 i T hK3 hi)
    clear hT2 hap hbk hE1 hs7 HL6 HB6
    have HP7 : Hid (∀ (e : Ap p1 m1 cap1 (PL m1 T) w6.heap.size (w6.heap.size + 1) (letterOf i) xt xa xc (letterOf j) yt ya yc ((w6.alloc (.cells #[.string (letterOf i), .int .i64 (xa : Int), .int .i64 (xc : Int), .string xt] 31)).alloc (.cells #[.string (letterOf j), .int .i64 (ya : Int), .int .i64 (yc : Int), .string yt] 31))), True) := fun _ => trivial
    clear HP7
    go_wp2_with fail
    generalize (w6.alloc (.cells #[.string (letterOf i), .int .i64 (xa : Int), .int .i64 (xc : Int), .string xt] 31)).alloc (.cells #[.string (letterOf j), .int .i64 (ya : Int), .int .i64 (yc : Int), .string yt] 31) = w7 at *
    generalize w6.heap.size + 1 = yb at *
    generalize w6.heap.size = xb at *
    refine (refFind_any p1 m1 cap1 (PL m1 T) (letterOf i) w7 (by omega) HA7.out.list).mono ?_
    rintro e w8 ⟨rfl, rfl⟩
    rw [HFD.out.1, HFD.out.2]
    clear HFD
    obtain ⟨x0, x1, x2, x3, -⟩ := edcells HA7.out.x
    go_wp2_with fail
    refine (apply_any p1 m1 cap1 (PL m1 T) (letterOf i) xt (xa : Int) (xc : Int) _ (by omega) HA7.out.list HFT.out (by omega) (by omega) (by omega) (by omega) (by omega)).mono ?_
    rintro e w9 ⟨v9, he, hv9, hb⟩
    rw [HAP.out] at he hv9
    subst he
    simp only at hv9
    have HV9 := Lib.hid hv9
    have HA9 := Lib.hid (HA7.out.below hb)
    have HB9 := Lib.hid (bnext HB7.out hb)
    clear hb hv9 x0 x1 x2 x3 HA7 HB7
    go_wp2_with fail
    have HB10 := Lib.hid (bnext HB9.out ((Below.refl _ w9).drew))
    have HAA := Lib.hid (HA9.out.below ((Below.refl _ w9).drew))
    have HVV := Lib.hid (HV9.out.below ((Below.refl _ w9).drew))
    have hwr : IntKind.i64.wrap ((xa : Int) + (xc : Int)) = ((xa + xc : Nat) : Int) := by rw [IntWalk.i64_in _ (by omega)]; omega
    generalize hE : xa + xc = E at *
    have HE := Lib.hid hE
    have hxc : xc ≤ 12400 := by omega
    have hxa0 : xa ≤ 12400 := by omega
    have g1 : (xa : Int) ≤ (E : Int) := by omega
    have g2 : (E : Int) ≤ ((T i).size : Int) := by omega
    clear HA9 HV9 HB9 hE
    apply wp_region_relT LeW.refl LeW.trans 18
    case hm => kernel_rfl
    case hB => kernel_rfl
    simp only [List.take_succ_cons, List.take_zero, List.drop_succ_cons, List.drop_zero]
    apply wpRel_cons (t := tyIs _ _)
    case h1 => (intro w' hl hd2; obtain ⟨x0, x1, x2, x3, -⟩ := edcells (HAA.out.below hl).x; clear hl hd2; unfold relAt; go_simp; exact rel_is LeW.refl)
    intro _
    rw [tyIs_f]
    go_simp
    apply wpRel_cons (t := tyIs _ (.string (letterOf i)))
    case h1 => (intro w' hl hd2; obtain ⟨x0, x1, x2, x3, -⟩ := edcells (HAA.out.below hl).x; clear hl hd2; unfold relAt; go_simp; exact rel_is LeW.refl)
    intro _
    rw [tyIs_f]
    go_simp
    apply wpRel_cons (t := tyIs _ _)
    case h1 => (intro w' hl hd2; obtain ⟨x0, x1, x2, x3, -⟩ := edcells (HAA.out.below hl).x; clear hl hd2; unfold relAt; go_simp; exact rel_is LeW.refl)
    intro _
    rw [tyIs_f]
    go_simp
    apply wpRel_cons (t := tyIs _ (.int .i64 (xa : Int)))
    case h1 => (intro w' hl hd2; obtain ⟨x0, x1, x2, x3, -⟩ := edcells (HAA.out.below hl).x; clear hl hd2; unfold relAt; go_simp; exact rel_is LeW.refl)
    intro _
    rw [tyIs_f]
    go_simp
    apply wpRel_cons (t := tyIs _ _)
    case h1 => (intro w' hl hd2; obtain ⟨x0, x1, x2, x3, -⟩ := edcells (HAA.out.below hl).x; clear hl hd2; unfold relAt; go_simp; exact rel_is LeW.refl)
    intro _
    rw [tyIs_f]
    go_simp
    apply wpRel_cons (t := tyIs _ (.string xt))
    case h1 => (intro w' hl hd2; obtain ⟨x0, x1, x2, x3, -⟩ := edcells (HAA.out.below hl).x; clear hl hd2; unfold relAt; go_simp; exact rel_is LeW.refl)
    intro _
    rw [tyIs_f]
    go_simp
    apply wpRel_cons (t := tyIs _ _)
    case h1 => (intro w' hl hd2; obtain ⟨x0, x1, x2, x3, -⟩ := edcells (HAA.out.below hl).x; clear hl hd2; unfold relAt; go_simp; exact rel_is LeW.refl)
    intro _
    rw [tyIs_f]
    go_simp
    apply wpRel_cons (t := tyIs _ _)
    case h1 => (intro w' hl hd2; obtain ⟨x0, x1, x2, x3, -⟩ := edcells (HAA.out.below hl).x; clear hl hd2; unfold relAt; go_simp; exact rel_is LeW.refl)
    intro _
    rw [tyIs_f]
    go_simp
    apply wpRel_cons (t := tyIs _ _)
    case h1 => (intro w' hl hd2; obtain ⟨x0, x1, x2, x3, -⟩ := edcells (HAA.out.below hl).x; clear hl hd2; unfold relAt; go_simp; exact rel_is LeW.refl)
    intro _
    rw [tyIs_f]
    go_simp
    apply wpRel_cons (t := tyIs _ (.int .i64 (xa : Int)))
    case h1 => (intro w' hl hd2; obtain ⟨x0, x1, x2, x3, -⟩ := edcells (HAA.out.below hl).x; clear hl hd2; unfold relAt; go_simp; exact rel_is LeW.refl)
    intro _
    rw [tyIs_f]
    go_simp
    apply wpRel_cons (t := tyIs _ _)
    case h1 => (intro w' hl hd2; obtain ⟨x0, x1, x2, x3, -⟩ := edcells (HAA.out.below hl).x; clear hl hd2; unfold relAt; go_simp; exact rel_is LeW.refl)
    intro _
    rw [tyIs_f]
    go_simp
    apply wpRel_cons (t := tyIs _ (.int .i64 (xa : Int)))
    case h1 => (intro w' hl hd2; obtain ⟨x0, x1, x2, x3, -⟩ := edcells (HAA.out.below hl).x; clear hl hd2; unfold relAt; go_simp; exact rel_is LeW.refl)
    intro _
    rw [tyIs_f]
    go_simp
    apply wpRel_cons (t := tyIs _ _)
    case h1 => (intro w' hl hd2; obtain ⟨x0, x1, x2, x3, -⟩ := edcells (HAA.out.below hl).x; clear hl hd2; unfold relAt; go_simp; exact rel_is LeW.refl)
    intro _
    rw [tyIs_f]
    go_simp
    apply wpRel_cons (t := tyIs _ (.int .i64 (xc : Int)))
    case h1 => (intro w' hl hd2; obtain ⟨x0, x1, x2, x3, -⟩ := edcells (HAA.out.below hl).x; clear hl hd2; unfold relAt; go_simp; exact rel_is LeW.refl)
    intro _
    rw [tyIs_f]
    go_simp
    apply wpRel_cons (t := tyIs _ (.int .i64 (E : Int)))
    case h1 => (intro w' hl hd2; obtain ⟨x0, x1, x2, x3, -⟩ := edcells (HAA.out.below hl).x; clear hl hd2; unfold relAt; go_simp; exact rel_is LeW.refl)
    intro _
    rw [tyIs_f]
    go_simp
    apply wpRel_cons (t := tyIs _ (.string ((T i).extract xa E)))
    case h1 => (intro w' hl hd2; obtain ⟨x0, x1, x2, x3, -⟩ := edcells (HAA.out.below hl).x; clear hl hd2; unfold relAt; go_simp; exact rel_is LeW.refl)
    intro _
    rw [tyIs_f]
    go_simp
    apply wpRel_cons (t := tyIs _ _)
    case h1 => (intro w' hl hd2; obtain ⟨x0, x1, x2, x3, -⟩ := edcells (HAA.out.below hl).x; clear hl hd2; unfold relAt; go_simp; exact rel_is LeW.refl)
    intro _
    rw [tyIs_f]
    go_simp
    apply wpRel_cons (t := tyEdN w9.drew.heap.size)
    case h1 => (intro w' hl hd2; have hsz := Below.size hl; clear hl hd2; unfold relAt; go_simp; refine ⟨below_box _ _, ⟨_, trivial⟩, rfl, ?_⟩; rw [tyEdN_p]; exact ⟨heap_alloc_new _ _, hsz⟩)
    rintro ⟨eb, -⟩
    rw [tyEdN_f]
    go_simp
    apply wpRel_nil (Ts := [])
    intro w10 hl hF
    have hx := hF 17
    simp [upd, tyEdN_p] at hx
    have d0 : w10.cell? ⟨eb, 0, none⟩ = some (.string ⟨#[]⟩) := by rw [Lib.cell_of_heap hx.1]; rfl
    have d1 : w10.cell? ⟨eb, 1, none⟩ = some (.int .i64 0) := by rw [Lib.cell_of_heap hx.1]; rfl
    have d2 : w10.cell? ⟨eb, 2, none⟩ = some (.int .i64 0) := by rw [Lib.cell_of_heap hx.1]; rfl
    have d3 : w10.cell? ⟨eb, 3, none⟩ = some (.string ⟨#[]⟩) := by rw [Lib.cell_of_heap hx.1]; rfl
    have f0 : ∀ i, w10.frozen? ⟨eb, i, none⟩ = false := fun i => Lib.frozen_of_heap hx.1 i
    have HLT : Hid (w9.drew.heap.size ≤ eb) := hx.2
    have HBD : Hid (Below w9.drew.heap.size w9.drew w10) := hl
    clear hx hl hF hwr g1 g2
    obtain ⟨p9, c9, hv9e⟩ : ∃ p9 c9, v9 = .slice p9 m1 c9 := by
      obtain ⟨q, c, e, _⟩ := HVV.out
      exact ⟨q, c, by rw [e, PL_len]⟩
    subst hv9e
    go_wp2_with fail
    have HBE : Hid (Below w9.drew.heap.size w9.drew ((((w10.setCell ⟨eb, 0, none⟩ (.string (letterOf i))).setCell ⟨eb, 1, none⟩ (.int .i64 (xa : Int))).setCell ⟨eb, 2, none⟩ (.int .i64 (xt.size : Int))).setCell ⟨eb, 3, none⟩ (.string ((T i).extract xa E)))) :=
      (((HBD.out.setCell (p := ⟨eb, 0, none⟩) HLT.out _).setCell (p := ⟨eb, 1, none⟩) HLT.out _).setCell (p := ⟨eb, 2, none⟩) HLT.out _).setCell (p := ⟨eb, 3, none⟩) HLT.out _
    clear d0 d1 d2 d3 f0 HBD HLT
    generalize (((w10.setCell ⟨eb, 0, none⟩ (.string (letterOf i))).setCell ⟨eb, 1, none⟩ (.int .i64 (xa : Int))).setCell ⟨eb, 2, none⟩ (.int .i64 (xt.size : Int))).setCell ⟨eb, 3, none⟩ (.string ((T i).extract xa E)) = w11 at *
    have HA11 := Lib.hid (HAA.out.below HBE.out)
    have HV11 := Lib.hid (HVV.out.below HBE.out)
    have HB11 := Lib.hid (bnext HB10.out HBE.out)
    clear HAA HVV HB10 HBE
    have hexs : ((T i).extract xa E).size = xc := by rw [ByteArray.size_extract]; have := HE.out; omega
    have hAsz : ∀ q, q < m1 → (updT T i (editText (T i) (xa : Int) (xc : Int) xt) q).size ≤ 20000 := fun q hq => by
      by_cases e : q = i
      · rw [e, updT_same, HE1.out]; omega
      · rw [updT_ne T _ e]; exact HT2.out q hq
    have hap2 : applyR (PL m1 (updT T i (editText (T i) (xa : Int) (xc : Int) xt))) (letterOf i) (xa : Int) (xt.size : Int) ((T i).extract xa E) = (PL m1 T, 0) := by
      rw [apply_PL m1 i _ (xa : Int) (xt.size : Int) _ hK3 hi hAsz (by rw [updT_same]; exact err_ok _ _ _ _ (by rw [HE1.out]; have := HE.out; omega) (by rw [HE1.out, hexs]; omega))]
      rw [updT_same, HBK.out]
      refine congrArg (fun L => (L, (0 : Int))) (PL_congr m1 fun q hq => ?_)
      by_cases e : q = i
      · rw [e, updT_same]
      · rw [updT_ne _ _ e, updT_ne _ _ e]
    have HAS := Lib.hid hAsz
    have HAP2 := Lib.hid hap2
    have HFA := Lib.hid (fits_PL m1 _ hAsz)
    clear hAsz hap2
    refine (apply_any p9 m1 c9 _ (letterOf i) ((T i).extract xa E) (xa : Int) (xt.size : Int) _ (by omega) HV11.out HFA.out (by omega) (by omega) (by omega) (by omega) (by omega)).mono ?_
    rintro e w12 ⟨v12, he, hv12, hb⟩
    rw [HAP2.out] at he hv12
    subst he
    simp only at hv12
    have HV12 := Lib.hid hv12
    have HA12 := Lib.hid (HA11.out.below hb)
    have HU12 := Lib.hid (HV11.out.below hb)
    have HB12 := Lib.hid (bnext HB11.out hb)
    clear hb hv12 HA11 HV11 HB11 HAP2 hexs
    go_wp2_with fail
    refine (awake_any _).mono ?_
    rintro e w13 ⟨rfl, hb⟩
    have HV13 := Lib.hid (HV12.out.below hb)
    have HA13 := Lib.hid (HA12.out.below hb)
    have HU13 := Lib.hid (HU12.out.below hb)
    have HB13 := Lib.hid (bnext HB12.out hb)
    clear hb HV12 HA12 HU12 HB12
    go_wp2_with fail
    refine (same_any v12 (.slice p1 m1 cap1) (PL m1 T) _ (by rw [PL_len]; omega) HV13.out HA13.out.list).mono ?_
    rintro e w14 ⟨rfl, hb⟩
    have HA14 := Lib.hid (HA13.out.below hb)
    have HU14 := Lib.hid (HU13.out.below hb)
    have HB14 := Lib.hid (bnext HB13.out hb)
    clear hb HV13 HA13 HU13 HB13
    obtain ⟨x0, x1, x2, x3, -⟩ := edcells HA14.out.x
    obtain ⟨y0, y1, y2, y3, -⟩ := edcells HA14.out.y
    have hE2s := editText_size (T j) yt ya yc hya
    have hT2E : ∀ q, q < m1 → (updT T j (editText (T j) (ya : Int) (yc : Int) yt) q).size ≤ 20000 := fun q hq => by
      by_cases e : q = j
      · rw [e, updT_same, hE2s]; omega
      · rw [updT_ne T _ e]; exact HT2.out q hq
    have hapy := apply_PL m1 j T (ya : Int) (yc : Int) yt hK3 hj HT2.out (err_ok _ _ _ _ hya (by omega))
    have HAPY := Lib.hid hapy
    have HTE := Lib.hid hT2E
    have HES := Lib.hid hE2s
    have HFE := Lib.hid (fits_PL m1 _ hT2E)
    clear hapy hT2E hE2s
    by_cases hij : i = j
    · subst hij
      have hself : ((letterOf i).toList == (letterOf i).toList) = true := beq_self_eq_true _
      have hwr : IntKind.i64.wrap ((xa : Int) + (xc : Int)) = (E : Int) := by rw [IntWalk.i64_in _ (by omega)]; have := HE.out; omega
      by_cases h17 : ya < E
      · have g17 : (ya : Int) < (E : Int) := by omega
        clear hself
        go_wp2_with fail
        go_ret
        exact ⟨rfl, HB14.out⟩
      · by_cases h18 : ya = xa
        · subst h18
          have g17 : ¬ (ya : Int) < (E : Int) := by omega
          go_wp2_with fail
          go_ret
          exact ⟨rfl, HB14.out⟩
        · have g17 : ¬ (ya : Int) < (E : Int) := by omega
          have g18 : ((ya : Int) == (xa : Int)) = false := by rw [beq_eq_false_iff_ne]; omega
          have hxy : xa + xc ≤ ya := by have := HE.out; omega
          have hsw := edit_swap (T i) xt yt xa xc ya yc hxy hya
          have hz0 : IntKind.i64.wrap ((xt.size : Int) - (xc : Int)) = (xt.size : Int) - (xc : Int) := IntWalk.i64_in _ (by omega)
          have hz1 : IntKind.i64.wrap ((ya : Int) + ((xt.size : Int) - (xc : Int))) = ((ya - xc + xt.size : Nat) : Int) := by rw [IntWalk.i64_in _ (by omega)]; omega
          have hapz : applyR (PL m1 (updT T i (editText (T i) (xa : Int) (xc : Int) xt))) (letterOf i) ((ya - xc + xt.size : Nat) : Int) (yc : Int) yt = (PL m1 (updT T i (editText (editText (T i) (ya : Int) (yc : Int) yt) (xa : Int) (xc : Int) xt)), 0) := by
            rw [apply_PL m1 i _ _ _ _ hK3 hi HAS.out (by rw [updT_same]; exact err_ok _ _ _ _ (by rw [HE1.out]; omega) (by rw [HE1.out]; omega)), updT_same, hsw]
            refine congrArg (fun L => (L, (0 : Int))) (PL_congr m1 fun q hq => ?_)
            by_cases e : q = i
            · rw [e, updT_same, updT_same]
            · rw [updT_ne _ _ e, updT_ne _ _ e, updT_ne _ _ e]
          have hapx : applyR (PL m1 (updT T i (editText (T i) (ya : Int) (yc : Int) yt))) (letterOf i) (xa : Int) (xc : Int) xt = (PL m1 (updT T i (editText (editText (T i) (ya : Int) (yc : Int) yt) (xa : Int) (xc : Int) xt)), 0) := by
            rw [apply_PL m1 i _ _ _ _ hK3 hi HTE.out (by rw [updT_same]; exact err_ok _ _ _ _ (by rw [HES.out]; have := HE.out; omega) (by rw [HES.out]; have := HE.out; omega)), updT_same]
            refine congrArg (fun L => (L, (0 : Int))) (PL_congr m1 fun q hq => ?_)
            by_cases e : q = i
            · rw [e, updT_same, updT_same]
            · rw [updT_ne _ _ e, updT_ne _ _ e, updT_ne _ _ e]
          generalize hZ : ya - xc + xt.size = Z at *
          have hZ2 : Z ≤ 100000 := by omega
          have HAPZ := Lib.hid hapz
          have HAPX := Lib.hid hapx
          have X2 : ∀ o, (w14.alloc o).cell? ⟨xb, 2, none⟩ = some (.int .i64 (xc : Int)) := fun o => by rw [(below_box w14 o).cell (p := ⟨xb, 2, none⟩) (heap_lt HA14.out.x)]; exact x2
          have X3 : ∀ o, (w14.alloc o).cell? ⟨xb, 3, none⟩ = some (.string xt) := fun o => by rw [(below_box w14 o).cell (p := ⟨xb, 3, none⟩) (heap_lt HA14.out.x)]; exact x3
          clear hsw hapz hapx hxy hZ h17 h18
          go_wp2_with fail
          have HA15 := Lib.hid (HA14.out.below (below_box w14 (.cells #[.string (letterOf i), .int .i64 (Z : Int), .int .i64 (yc : Int), .string yt] 31)))
          have HU15 := Lib.hid (HU14.out.below (below_box w14 (.cells #[.string (letterOf i), .int .i64 (Z : Int), .int .i64 (yc : Int), .string yt] 31)))
          have HB15 := Lib.hid (bnext HB14.out (below_box w14 (.cells #[.string (letterOf i), .int .i64 (Z : Int), .int .i64 (yc : Int), .string yt] 31)))
          generalize w14.alloc (.cells #[.string (letterOf i), .int .i64 (Z : Int), .int .i64 (yc : Int), .string yt] 31) = w15 at *
          refine (apply_any p9 m1 c9 _ (letterOf i) yt (Z : Int) (yc : Int) _ (by omega) HU15.out HFA.out (by omega) (by omega) (by omega) (by omega) (by omega)).mono ?_
          rintro e w16 ⟨v16, he, hv16, hb⟩
          rw [HAPZ.out] at he hv16
          subst he
          simp only at hv16
          have HV16 := Lib.hid hv16
          have HA16 := Lib.hid (HA15.out.below hb)
          have HB16 := Lib.hid (bnext HB15.out hb)
          clear hb hv16 x0 x1 x2 x3 y0 y1 y2 y3 X2 X3 hwr hz0 hz1 g17 g18 hself
          obtain ⟨y0, y1, y2, y3, -⟩ := edcells HA16.out.y
          go_wp2_with fail
          refine (apply_any p1 m1 cap1 _ (letterOf i) yt (ya : Int) (yc : Int) _ (by omega) HA16.out.list HFT.out (by omega) (by omega) (by omega) (by omega) (by omega)).mono ?_
          rintro e w17 ⟨v17, he, hv17, hb⟩
          rw [HAPY.out] at he hv17
          subst he
          simp only at hv17
          obtain ⟨p17, c17, hv17e⟩ : ∃ p17 c17, v17 = .slice p17 m1 c17 := by
            obtain ⟨q, c, e, _⟩ := hv17
            exact ⟨q, c, by rw [e, PL_len]⟩
          subst hv17e
          have HV17 := Lib.hid hv17
          have HU17 := Lib.hid (HV16.out.below hb)
          have HA17 := Lib.hid (HA16.out.below hb)
          have HB17 := Lib.hid (bnext HB16.out hb)
          clear hb hv17 y0 y1 y2 y3
          obtain ⟨x0, x1, x2, x3, -⟩ := edcells HA17.out.x
          go_wp2_with fail
          refine (apply_any p17 m1 c17 _ (letterOf i) xt (xa : Int) (xc : Int) _ (by omega) HV17.out HFE.out (by omega) (by omega) (by omega) (by omega) (by omega)).mono ?_
          rintro e w18 ⟨v18, he, hv18, hb⟩
          rw [HAPX.out] at he hv18
          subst he
          simp only at hv18
          have HV18 := Lib.hid hv18
          have HU18 := Lib.hid (HU17.out.below hb)
          have HB18 := Lib.hid (bnext HB17.out hb)
          clear hb hv18 x0 x1 x2 x3
          go_wp2_with fail
          refine (same_any v18 v16 _ _ (by rw [PL_len]; omega) HV18.out HU18.out).mono ?_
          rintro e w19 ⟨rfl, hb⟩
          have HB19 := Lib.hid (bnext HB18.out hb)
          clear hb
          go_wp2_with fail
          go_ret
          exact ⟨rfl, HB19.out⟩
    · have hne : ((letterOf i).toList == (letterOf j).toList) = false := by rw [letter_inj i j (by omega) (by omega)]; exact decide_eq_false hij
      have hji : ¬ j = i := fun e => hij e.symm
      have hapy2 : applyR (PL m1 (updT T i (editText (T i) (xa : Int) (xc : Int) xt))) (letterOf j) (ya : Int) (yc : Int) yt = (PL m1 (updT (updT T i (editText (T i) (xa : Int) (xc : Int) xt)) j (editText (T j) (ya : Int) (yc : Int) yt)), 0) := by
        rw [apply_PL m1 j _ _ _ _ hK3 hj HAS.out (by rw [updT_ne _ _ hji]; exact err_ok _ _ _ _ hya (by omega)), updT_ne _ _ hji]
      have hapx : applyR (PL m1 (updT T j (editText (T j) (ya : Int) (yc : Int) yt))) (letterOf i) (xa : Int) (xc : Int) xt = (PL m1 (updT (updT T i (editText (T i) (xa : Int) (xc : Int) xt)) j (editText (T j) (ya : Int) (yc : Int) yt)), 0) := by
        rw [apply_PL m1 i _ _ _ _ hK3 hi HTE.out (by rw [updT_ne _ _ hij]; exact err_ok _ _ _ _ (by have := HE.out; omega) (by omega)), updT_ne _ _ hij]
        refine congrArg (fun L => (L, (0 : Int))) (PL_congr m1 fun q hq => ?_)
        by_cases e : q = i
        · rw [e, updT_same, updT_ne _ _ hij, updT_same]
        · rw [updT_ne _ _ e]
          by_cases e2 : q = j
          · rw [e2, updT_same, updT_same]
          · rw [updT_ne _ _ e2, updT_ne _ _ e2, updT_ne _ _ e]
      have HAPY2 := Lib.hid hapy2
      have HAPX := Lib.hid hapx
      clear hapy2 hapx
      go_wp2_with fail
      refine (apply_any p9 m1 c9 _ (letterOf j) yt (ya : Int) (yc : Int) _ (by omega) HU14.out HFA.out (by omega) (by omega) (by omega) (by omega) (by omega)).mono ?_
      rintro e w15 ⟨v15, he, hv15, hb⟩
      rw [HAPY2.out] at he hv15
      subst he
      simp only at hv15
      have HV15 := Lib.hid hv15
      have HA15 := Lib.hid (HA14.out.below hb)
      have HB15 := Lib.hid (bnext HB14.out hb)
      clear hb hv15 x0 x1 x2 x3 y0 y1 y2 y3 hne
      obtain ⟨y0, y1, y2, y3, -⟩ := edcells HA15.out.y
      go_wp2_with fail
      refine (apply_any p1 m1 cap1 _ (letterOf j) yt (ya : Int) (yc : Int) _ (by omega) HA15.out.list HFT.out (by omega) (by omega) (by omega) (by omega) (by omega)).mono ?_
      rintro e w16 ⟨v16, he, hv16, hb⟩
      rw [HAPY.out] at he hv16
      subst he
      simp only at hv16
      obtain ⟨p16, c16, hv16e⟩ : ∃ p16 c16, v16 = .slice p16 m1 c16 := by
        obtain ⟨q, c, e, _⟩ := hv16
        exact ⟨q, c, by rw [e, PL_len]⟩
      subst hv16e
      have HV16 := Lib.hid hv16
      have HU16 := Lib.hid (HV15.out.below hb)
      have HA16 := Lib.hid (HA15.out.below hb)
      have HB16 := Lib.hid (bnext HB15.out hb)
      clear hb hv16 y0 y1 y2 y3
      obtain ⟨x0, x1, x2, x3, -⟩ := edcells HA16.out.x
      go_wp2_with fail
      refine (apply_any p16 m1 c16 _ (letterOf i) xt (xa : Int) (xc : Int) _ (by omega) HV16.out HFE.out (by omega) (by omega) (by omega) (by omega) (by omega)).mono ?_
      rintro e w17 ⟨v17, he, hv17, hb⟩
      rw [HAPX.out] at he hv17
      subst he
      simp only at hv17
      have HV17 := Lib.hid hv17
      have HU17 := Lib.hid (HU16.out.below hb)
      have HB17 := Lib.hid (bnext HB16.out hb)
      clear hb hv17 x0 x1 x2 x3
      go_wp2_with fail
      refine (same_any v17 v15 _ _ (by rw [PL_len]; omega) HV17.out HU17.out).mono ?_
      rintro e w18 ⟨rfl, hb⟩
      have HB18 := Lib.hid (bnext HB17.out hb)
      clear hb
      go_wp2_with fail
      go_ret
      exact ⟨rfl, HB18.out⟩

set_option maxRecDepth 100000 in
theorem lifted (os : Os) (started : os.Started) (H : Type) (enc : TypeId × Value → H) :
    ReturnsInHanded {} Try.checked os 5 .any (Rows.sourceApartSpec.pre6 enc Try.prog Try.f5 Rows.sourceApartRow.domain false) (Rows.sourceApartSpec.post enc Try.prog Try.f5 false true false false) := by
  refine returnsInHanded_of_change (C := Try.checked) own started (by kernel_rfl) Try.func5
    (ChangeSpec.witness6 (enc := enc) (C := Try.checked) false ⟨#[], #[.slice none 0 0], []⟩ 8 (by kernel_rfl) (by kernel_rfl) (by kernel_rfl) (by kernel_rfl)) ?_
  intro W base args ds gs before hval0 hW hcnd _
  have hval : ∀ (j : Nat) t v, Try.f5.params[j]? = some t → args[j]? = some v → Value.okWide Try.prog W .any base t v := hval0
  have hW' := hW
  obtain ⟨p, q, hA0, hV, rfl, hfz, hnd⟩ := hW
  have hA : DataW.TrodAll enc Try.prog W 0 (fun _ => true) true Try.f5.params.toList args.toList ds p := hA0
  rw [Try.params5] at hA hval
  obtain ⟨v0, vs0, d0, ds0, p0, q0, hargs, rfl, rfl, h0, r0⟩ := trodAll_cons hA
  obtain ⟨rfl, rfl, rfl⟩ := trodAll_nil r0
  obtain rfl : args = #[v0] := by cases args; simp_all
  obtain ⟨rfl, rfl⟩ := trodVars_none hV
  have k0 := h0
  have lt0 : ∀ x ∈ p0, x.block < W.heap.size := by obtain ⟨m, hm⟩ := k0; exact DataW.trod_lt m _ _ _ hm
  obtain ⟨p', n, cap, rfl, hn, hro, hin⟩ := open_rolls (hval 0 22 v0 rfl rfl) h0
  clear hA0 hval0
  refine (walk p' n cap W hn hro hin).mono fun e W' ⟨he, bel⟩ => ?_
  subst he
  exact ⟨_, rfl, _, _, _, [], _, [], hW', trodAll_mk1 (shut_bool Try.underlying4 _), (trodAll_cons_mk (Below.trod laidOut (by kernel_rfl) (of_decide_eq_true (by kernel_rfl)) k0 bel lt0) trodAll_mk0), rfl, bel.frame _, fun h => by cases h⟩

theorem proved : Rows.SourceApartSaid :=
  OpenClaim.holds_of_wide 5 Try.f5 rfl rfl rfl rfl rfl rfl rfl ⟨rfl, rfl, rfl, rfl, rfl⟩ rfl rfl rfl rfl rfl (by kernel_rfl) Try.func5 (by kernel_rfl)
    (of_decide_eq_true (by kernel_rfl)) (by unfold Func.isWrapper; first | (rw [if_pos (by decide +kernel)]; kernel_rfl) | (rw [if_neg (by decide +kernel)]; exact ⟨rfl, rfl⟩))
    (fun os started H enc _ => lifted os started H enc)
end Go.Proofs.Ytflcpcefjliijaa.sourceApart
