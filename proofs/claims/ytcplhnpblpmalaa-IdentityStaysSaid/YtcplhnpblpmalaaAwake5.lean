/-
  CONTRACT: the sanity check of the statements of identity.
-/
import Derived.Test.YtcplhnpblpmalaaItems5
namespace Go.Proofs.Ytcplhnpblpmalaa.Idn
open Go Go.RowKit Go.Maps
set_option linter.unusedVariables false
set_option maxRecDepth 1000000
set_option linter.unusedSimpArgs false

theorem byId_asc_self {Z : List En} (h : Z.Pairwise fun a b => a.1 < b.1) : byId Z = Z :=
  asc_eq (byId_perm Z) (byId_asc (h.imp fun {a b} h => by omega)) h
def i5a : It := (⟨#[109]⟩, ⟨#[97]⟩, ⟨#[49]⟩)
def i5b : It := (⟨#[109]⟩, ⟨#[98]⟩, ⟨#[50]⟩)
def i5c : It := (⟨#[110]⟩, ⟨#[99]⟩, ⟨#[50]⟩)
def L5a : List En := [(1, i5a), (2, i5b)]
def L5b : List En := [(1, i5a), (2, i5c)]
theorem g5a : given 1 [] [i5a, i5b] = L5a := by decide
theorem n5a : nextV 1 [] [i5a, i5b] = 3 := by decide
theorem g5b : given 3 L5a [i5a, i5c] = L5b := by decide
theorem n5b : nextV 3 L5a [i5a, i5c] = 3 := by decide
theorem m5 : movesV L5a L5b = [(2, i5c)] := by decide
theorem f5 : foundV L5b (⟨#[110]⟩, ⟨#[99]⟩) = .tuple #[.int .i64 2, .bool true] := by
  have : at? L5b (⟨#[110]⟩, ⟨#[99]⟩) = some (2, i5c) := by decide
  unfold foundV
  rw [this]
theorem c5z : Chk 1 [] := ⟨by decide, by decide, List.Pairwise.nil, fun _ h => (by cases h), List.Pairwise.nil⟩
theorem fit5 {l : List It} (h : ∀ x ∈ l, x.1.size ≤ 100 ∧ x.2.1.size ≤ 100 ∧ x.2.2.size ≤ 100) : FitsI l := fun x hx => by
  have := h x hx
  unfold FitI maxLen
  exact ⟨by omega, by omega, by omega⟩
theorem fit5a : FitsI [i5a, i5b] := fit5 (by decide)
theorem fit5b : FitsI [i5a, i5c] := fit5 (by decide)
theorem asc5a : L5a.Pairwise fun a b => a.1 < b.1 := by decide
theorem asc5b : L5b.Pairwise fun a b => a.1 < b.1 := by decide
theorem asci5 {a b : It} (h : (Op.bytesLess a.1.data.toList b.1.data.toList || (a.1.data.toList == b.1.data.toList && Op.bytesLess a.2.1.data.toList b.2.1.data.toList)) = true) : ascI [a, b] = true := by
  unfold ascI befB ltS
  rw [ByteArray.toList_eq, ByteArray.toList_eq, ByteArray.toList_eq, ByteArray.toList_eq, h]
  rfl
theorem asci5a : ascI [i5a, i5b] = true := asci5 (by decide)
theorem asci5b : ascI [i5a, i5c] = true := asci5 (by decide)
theorem fits5a : FitsE L5a := fun y hy => by
  unfold L5a at hy
  rcases List.mem_cons.1 hy with rfl | hy
  · exact ⟨fit5a _ (by simp), by decide⟩
  · rcases List.mem_cons.1 hy with rfl | hy
    · exact ⟨fit5a _ (by simp), by decide⟩
    · cases hy
theorem fits5b : FitsE L5b := fun y hy => by
  unfold L5b at hy
  rcases List.mem_cons.1 hy with rfl | hy
  · exact ⟨fit5b _ (by simp), by decide⟩
  · rcases List.mem_cons.1 hy with rfl | hy
    · exact ⟨fit5b _ (by simp), by decide⟩
    · cases hy
theorem c5a : Chk 3 L5a := by
  have h := upd_chk c5z (asc_dif asci5a) (by rw [n5a]; decide)
  rw [n5a, g5a, byId_asc_self asc5a] at h
  exact h
theorem c5b : Chk 3 L5b := by
  have h := upd_chk c5a (asc_dif asci5b) (by rw [n5b]; decide)
  rw [n5b, g5b, byId_asc_self asc5b] at h
  exact h
theorem upd5a (b : Nat) (W : World) (h : CellsAt W b 0 (encIt.all [i5a, i5b])) :
    Calls Try.prog 16 #[.agg #[.int .i64 1, .slice none 0 0], .slice (some ⟨b, 0, none⟩) 2 2] W fun e w' => ∃ q m c, e = .returned (.tuple #[.agg #[.int .i64 3, .slice q m c], .int .i64 0]) ∧ SlIs encEn w' (.slice q m c) L5a ∧ Below W.heap.size W w' := by
  have := updateOk_any 1 none 0 0 [] (some ⟨b, 0, none⟩) 2 2 [i5a, i5b] W c5z asci5a (SlIs.isNil _ _) (fun y hy => by cases hy) (by simp) ⟨_, 2, rfl, by simp, by decide, fun _ => ⟨b, 0, rfl, h⟩⟩ fit5a (by simp) (by rw [n5a]; decide)
  rw [n5a, g5a, byId_asc_self asc5a] at this
  exact this
theorem upd5b (q : Option Addr) (m c b : Nat) (W : World) (hs : SlIs encEn W (.slice q m c) L5a) (h : CellsAt W b 0 (encIt.all [i5a, i5c])) :
    Calls Try.prog 16 #[.agg #[.int .i64 3, .slice q m c], .slice (some ⟨b, 0, none⟩) 2 2] W fun e w' => ∃ q m c, e = .returned (.tuple #[.agg #[.int .i64 3, .slice q m c], .int .i64 0]) ∧ SlIs encEn w' (.slice q m c) L5b ∧ Below W.heap.size W w' := by
  have := updateOk_any 3 q m c L5a (some ⟨b, 0, none⟩) 2 2 [i5a, i5c] W c5a asci5b hs fits5a (by decide) ⟨_, 2, rfl, by simp, by decide, fun _ => ⟨b, 0, rfl, h⟩⟩ fit5b (by simp) (by rw [n5b]; decide)
  rw [n5b, g5b, byId_asc_self asc5b] at this
  exact this

theorem lit2 (w1 : World) (o : Obj) : CellsAt ((w1.alloc o).alloc (.cells #[.string ⟨#[109]⟩, .string ⟨#[97]⟩, .string ⟨#[49]⟩, .string ⟨#[110]⟩, .string ⟨#[99]⟩, .string ⟨#[50]⟩] itT)) (w1.heap.size + 1) 0 (encIt.all [i5a, i5c]) := by
  have := cellsAt_alloc (w1.alloc o) [.string ⟨#[109]⟩, .string ⟨#[97]⟩, .string ⟨#[49]⟩, .string ⟨#[110]⟩, .string ⟨#[99]⟩, .string ⟨#[50]⟩] itT
  rw [World.size_alloc] at this
  exact this

set_option maxHeartbeats 4000000 in
set_option maxRecDepth 1000000 in
theorem awake_any (w : World) : Calls Try.prog 9 #[] w fun e w' => e = .returned (.bool true) ∧ Below w.heap.size w w' := by
  have HC1 : Hid (CellsAt (w.alloc (.cells #[.string ⟨#[109]⟩, .string ⟨#[97]⟩, .string ⟨#[49]⟩, .string ⟨#[109]⟩, .string ⟨#[98]⟩, .string ⟨#[50]⟩] itT)) w.heap.size 0 (encIt.all [i5a, i5b])) := cellsAt_alloc w [.string ⟨#[109]⟩, .string ⟨#[97]⟩, .string ⟨#[49]⟩, .string ⟨#[109]⟩, .string ⟨#[98]⟩, .string ⟨#[50]⟩] itT
  have HU1 := Lib.hid (upd5a w.heap.size _ HC1.out)
  go_enter Try.func9, Try.ntmps9
  go_wp2_with (first
    | (go_at_call 16; refine HU1.out.mono ?_; rintro e w1 ⟨q1, m1, k1, rfl, hs1, hb1⟩; have HS1 := Lib.hid hs1; have HB1 := Lib.hid (bnext (below_box w (.cells #[.string ⟨#[109]⟩, .string ⟨#[97]⟩, .string ⟨#[49]⟩, .string ⟨#[109]⟩, .string ⟨#[98]⟩, .string ⟨#[50]⟩] itT)) hb1); have HX1 := Lib.hid (cellsAt_alloc w1 [.int .i64 3, .slice q1 m1 k1] 29); have HC2 : Hid (CellsAt ((w1.alloc (.cells #[.int .i64 3, .slice q1 m1 k1] 29)).alloc (.cells #[.string ⟨#[109]⟩, .string ⟨#[97]⟩, .string ⟨#[49]⟩, .string ⟨#[110]⟩, .string ⟨#[99]⟩, .string ⟨#[50]⟩] itT)) (w1.heap.size + 1) 0 (encIt.all [i5a, i5c])) := (lit2 w1 _); have HU2 := Lib.hid (upd5b q1 m1 k1 (w1.heap.size + 1) _ ((HS1.out.below (below_box w1 (.cells #[.int .i64 3, .slice q1 m1 k1] 29))).below (below_box _ (.cells #[.string ⟨#[109]⟩, .string ⟨#[97]⟩, .string ⟨#[49]⟩, .string ⟨#[110]⟩, .string ⟨#[99]⟩, .string ⟨#[50]⟩] itT))) HC2.out); clear hs1 hb1 HU1 HC1)
    | (go_at_call 16; refine HU2.out.mono ?_; rintro e w2 ⟨q2, m2, k2, rfl, hs2, hb2⟩; have HB2 := Lib.hid (bnext HB1.out (bnext (below_box w1 (.cells #[.int .i64 3, .slice q1 m1 k1] 29)) (bnext (below_box _ (.cells #[.string ⟨#[109]⟩, .string ⟨#[97]⟩, .string ⟨#[49]⟩, .string ⟨#[110]⟩, .string ⟨#[99]⟩, .string ⟨#[50]⟩] itT)) hb2))); have HX2 := Lib.hid (((HX1.out.below (below_box _ (.cells #[.string ⟨#[109]⟩, .string ⟨#[97]⟩, .string ⟨#[49]⟩, .string ⟨#[110]⟩, .string ⟨#[99]⟩, .string ⟨#[50]⟩] itT))).below hb2).below (below_box w2 (.cells #[.int .i64 3, .slice q2 m2 k2] 29))); have HS1b := Lib.hid ((((HS1.out.below (below_box w1 (.cells #[.int .i64 3, .slice q1 m1 k1] 29))).below (below_box _ (.cells #[.string ⟨#[109]⟩, .string ⟨#[97]⟩, .string ⟨#[49]⟩, .string ⟨#[110]⟩, .string ⟨#[99]⟩, .string ⟨#[50]⟩] itT))).below hb2).below (below_box w2 (.cells #[.int .i64 3, .slice q2 m2 k2] 29))); have HS2 := Lib.hid (hs2.below (below_box w2 (.cells #[.int .i64 3, .slice q2 m2 k2] 29))); have HY2 := Lib.hid (cellsAt_alloc w2 [.int .i64 3, .slice q2 m2 k2] 29); have HF2 := Lib.hid (find_any 3 q2 m2 k2 L5b ⟨#[110]⟩ ⟨#[99]⟩ (w2.alloc (.cells #[.int .i64 3, .slice q2 m2 k2] 29)) (by decide) HS2.out); have HBY := Lib.hid (bnext HB2.out (below_box w2 (.cells #[.int .i64 3, .slice q2 m2 k2] 29))); clear hs2 hb2 HU2 HC2 HS1 HX1 HB1 HB2)
    | (go_at_call 19; refine HF2.out.mono ?_; rintro e w3 ⟨rfl, hb3⟩; rw [f5]; have HB3 := Lib.hid (bnext HBY.out hb3); have HM3 := Lib.hid (moves_any 3 q1 m1 k1 L5a 3 q2 m2 k2 L5b w3 (by decide) (HS1b.out.below hb3) fits5a (by decide) (HS2.out.below hb3) fits5b); have HX3 := Lib.hid (HX2.out.below hb3); have HY3 := Lib.hid (HY2.out.below hb3); have HS3 := Lib.hid (HS2.out.below hb3); obtain ⟨x0, x1⟩ := en2 HX3.out; obtain ⟨y0, y1⟩ := en2 HY3.out; clear hb3 HF2 HX2 HY2 HS1b HS2 HBY)
    | (go_at_call 31; refine HM3.out.mono ?_; rintro e w4 ⟨v, rfl, hv, hb4⟩; rw [m5] at hv; obtain ⟨pv, cv, rfl, -, -, hvc⟩ := hv; obtain ⟨vb, vo, rfl, hcl⟩ := hvc (by decide); have HB4 := Lib.hid (bnext HB3.out hb4); have HS4 := Lib.hid (HS3.out.below hb4); have HK4 := Lib.hid (checkOk_any 3 q2 m2 k2 L5b w4 (by decide) HS4.out fits5b c5b); clear x0 x1 y0 y1; obtain ⟨x0, x1⟩ := en2 (HX3.out.below hb4); obtain ⟨y0, y1⟩ := en2 (HY3.out.below hb4); obtain ⟨-, -, z2, -⟩ := enAt hcl 0 (by decide); simp only [Nat.zero_mul, Nat.add_zero] at z2; have z3 : w4.cell? ⟨vb, vo + 2, none⟩ = some (.string ⟨#[99]⟩) := z2; clear hb4 hvc hcl HM3 HX3 HY3 HS3 HB3 z2)
    | (go_at_call 17; refine HK4.out.mono ?_; rintro e w5 ⟨rfl, hb5⟩; have HB5 := Lib.hid (bnext HB4.out hb5); clear hb5)
    | go_in)
  go_ret
  exact ⟨rfl, HB5.out⟩
end Go.Proofs.Ytcplhnpblpmalaa.Idn
