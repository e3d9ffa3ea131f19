/-
  CONTRACTS: the solver of types (layer 9), for types without args: its variables and closures.
-/
import Derived.Test.YtbnnokibjccdaaaTpN
import Derived.Test.YtbnnokibjccdaaaTpG
import Derived.Test.YtbnnokibjccdaaaMapP
import Derived.Test.YtbnnokibjccdaaaGrow
import Derived.BigRegion
import Derived.RegionTactic
import Derived.Test.YtbnnokibjccdaaaTpNd
import Derived.Shelf.Abstract
import Derived.Test.YtbnnokibjccdaaaTpK
namespace Go.Proofs.Ytbnnokibjccdaaa
open Go Go.RowKit Go.Maps
set_option linter.unusedVariables false
set_option linter.unusedSimpArgs false
set_option maxRecDepth 100000

abbrev keyI : KeyT Try.prog 3 Int := intKeys Try.underlying3
/-- a map from numbers to addresses of types; one from numbers to truths -/
def SolAt (w : World) (b cnt : Nat) (f : Int → Option Addr) : Prop := MapAt keyI (fun a : Addr => Value.pointer (some a)) w b cnt f
def InsAt (w : World) (b cnt : Nat) (g : Int → Option Bool) : Prop := MapAt keyI Value.bool w b cnt g
theorem ok_int (n : Int) (h0 : -9223372036854775808 ≤ n) (h1 : n ≤ 9223372036854775807) : keyI.ok n := by
  show (Lit.int .i64 n).wf = true
  simp [Lit.wf, IntKind.min, IntKind.max, IntKind.bits, IntKind.signed]
  omega
/-! a type without args: its variable is met -/
set_option maxHeartbeats 2000000 in
theorem eachVar_none (F : FuncId) (bs : Array Value) (s : ByteArray) (p : Option Addr) (c : Nat) (w : World) (hs : s.size ≤ 1000000000000) (hv : varV s 0 = -1) :
    Calls Try.prog 89 #[.agg #[.string s, .slice p 0 c], .func (.func F) #[] bs] w fun e w' => e = .returned (.bool true) ∧ Below w.heap.size w w' := by
  have hb1 := below_box w (.cells #[.string s, .slice p 0 c] tpT)
  obtain ⟨x0, x1⟩ := box_p w ⟨s, p, 0, c⟩ tpT
  simp only [Nat.zero_add] at x0 x1
  obtain ⟨w1, hw1⟩ : ∃ y, w.alloc (.cells #[.string s, .slice p 0 c] tpT) = y := ⟨_, rfl⟩
  obtain ⟨xb, hxb⟩ : ∃ y, w.heap.size = y := ⟨_, rfl⟩
  rw [hw1] at hb1 x0 x1
  have HV := Lib.hid (fun w => variable_any s p 0 c w hs)
  rw [hv] at HV
  have HB1 := Lib.hid hb1
  have HX := Lib.hid (World.block_lt_of_cell? w1 _ x1)
  have HX1 := Lib.hid x1
  rw [hxb] at x0 x1
  clear hb1 hv
  go_enter Try.func89, Try.ntmps89
  go_wp2_with fail
  clear hw1
  refine (HV.out _).mono ?_
  rintro e w2 ⟨rfl, hb2⟩
  have HB2 := Lib.hid (bnext HB1.out hb2)
  have y1 := (hb2.cell HX.out).trans HX1.out
  rw [hxb] at y1
  clear hb2 x0 x1
  go_wp2_with fail
  go_loopw [18] (fun i wr => i = .int .i64 0 ∧ wr = w2) (fun _ _ => 0)
  case atStart => exact ⟨rfl, rfl⟩
  case round =>
    obtain ⟨rfl, rfl⟩ := hrel
    go_wp2_with fail
    go_ret
    exact ⟨rfl, HB2.out⟩
set_option maxHeartbeats 2000000 in
theorem eachVar_var (F : FuncId) (bs : Array Value) (s : ByteArray) (p : Option Addr) (c k : Nat) (w : World) (hs : s.size ≤ 1000000000000) (hv : varV s 0 = (k : Int)) (R : World → Prop)
    (hF : ∀ args w, (callFunc F args).run Try.prog w = .ok (.enter F args) w)
    (hC : ∀ w1, Below w.heap.size w w1 → Calls Try.prog F (#[.int .i64 (k : Int)] ++ bs) w1 fun e w2 => e = .returned (.bool true) ∧ R w2) :
    Calls Try.prog 89 #[.agg #[.string s, .slice p 0 c], .func (.func F) #[] bs] w fun e w' => e = .returned (.bool true) ∧ R w' := by
  have hb1 := below_box w (.cells #[.string s, .slice p 0 c] tpT)
  obtain ⟨x0, x1⟩ := box_p w ⟨s, p, 0, c⟩ tpT
  simp only [Nat.zero_add] at x0 x1
  obtain ⟨w1, hw1⟩ : ∃ y, w.alloc (.cells #[.string s, .slice p 0 c] tpT) = y := ⟨_, rfl⟩
  obtain ⟨xb, hxb⟩ : ∃ y, w.heap.size = y := ⟨_, rfl⟩
  rw [hw1] at hb1 x0 x1
  have HV := Lib.hid (fun w => variable_any s p 0 c w hs)
  rw [hv] at HV
  have HB1 := Lib.hid hb1
  have HC := Lib.hid hC
  rw [hxb] at x0 x1
  have hk0 : (0 : Int) ≤ (k : Int) := by omega
  clear hb1 hv hC
  go_enter Try.func89, Try.ntmps89
  go_wp2_with fail
  clear hw1
  refine (HV.out _).mono ?_
  rintro e w2 ⟨rfl, hb2⟩
  have HC2 := Lib.hid (HC.out w2 (bnext HB1.out hb2))
  clear hb2 x0 x1 HC
  go_wp2_with fail
  refine HC2.out.mono ?_
  rintro e w3 ⟨rfl, hR⟩
  have HR := Lib.hid hR
  clear hR HC2
  go_wp2_with fail
  go_ret
  exact ⟨rfl, HR.out⟩
end Go.Proofs.Ytbnnokibjccdaaa

/-
  CONTRACTS: the solver's closures and occurs, for types without args.
-/
namespace Go.Proofs.Ytbnnokibjccdaaa
open Go Go.RowKit Go.Maps Go.Shelf
set_option linter.unusedVariables false
set_option linter.unusedSimpArgs false
set_option maxRecDepth 100000

abbrev mpS : TypeId := 80
abbrev mpI : TypeId := 81
theorem zero_ptr (w : World) : (zeroValue 108).run Try.prog w = .ok (.pointer none) w := Try.zeroValue108 w
set_option maxHeartbeats 2000000 in
/-- occurs$1 of a variable that has no type -/
theorem occ1_any (x1 x2 x3 x4 S m1 cnt : Nat) (m n : Int) (f : Int → Option Addr) (w : World) (h1 : w.cell? ⟨x1, 0, none⟩ = some (.pointer (some ⟨S, 0, none⟩))) (h2 : w.cell? ⟨x2, 0, none⟩ = some (.int .i64 n)) (hS : w.cell? ⟨S, 0, none⟩ = some (.map (some m1)))
    (hM : SolAt w m1 cnt f) (hf : f m = none) (hm : keyI.ok m) (hmn : m ≠ n) :
    Calls Try.prog 98 #[.int .i64 m, .pointer (some ⟨x1, 0, none⟩), .pointer (some ⟨x2, 0, none⟩), .pointer (some ⟨x3, 0, none⟩), .pointer (some ⟨x4, 0, none⟩)] w fun e w' => e = .returned (.bool true) ∧ Below w.heap.size w w' := by
  have hl := MapAt.look_ok hM Try.underlying80 (zero_ptr w) m hm
  rw [hf] at hl
  have hl2 : (Instr.lookup mpS (.map (some m1)) (.int .i64 m) true).run Try.prog w = .ok (.tuple #[.pointer none, .bool false]) w := hl
  have hne : (m != n) = true := by rw [bne_iff_ne]; exact hmn
  clear hl hM hf hm hmn
  go_enter Try.func98, Try.ntmps98
  go_wp2_with fail
  go_quiet (fail)
  go_wp2_with fail
  go_ret
  exact ⟨rfl, drew_below _⟩
set_option maxHeartbeats 2000000 in
/-- give$1: a variable is inside -/
theorem giv1_any (x1 S m2 cnt : Nat) (m : Int) (g : Int → Option Bool) (w : World) (h1 : w.cell? ⟨x1, 0, none⟩ = some (.pointer (some ⟨S, 0, none⟩))) (hS : w.cell? ⟨S, 2, none⟩ = some (.map (some m2)))
    (hM : InsAt w m2 cnt g) (hn : cnt < maxLen) (hm : keyI.ok m) :
    Calls Try.prog 90 #[.int .i64 m, .pointer (some ⟨x1, 0, none⟩)] w fun e w' => e = .returned (.bool true) ∧ InsAt w' m2 (cntPut g m cnt) (updM g m (some true)) ∧ w.mapTurned w' m2 := by
  have HM := Lib.hid hM
  clear hM
  go_enter Try.func90, Try.ntmps90
  go_wp2_with (at_mapUpdate; refine wpList_store (K := keyI) (val := Value.bool) _ rfl _ _ _ mpI 4 rfl Try.underlying81 hn rfl HM.out m rfl hm true rfl ?_)
  intro w2 h2 ht
  have H2 := Lib.hid h2
  have HT := Lib.hid ht
  clear h2 ht
  go_wp2_with fail
  go_ret
  exact ⟨rfl, H2.out, HT.out⟩
theorem run_makeMap0 {P : Program} (t : TypeId) {k e : TypeId} (ht : P.underlying t = some (.map k e)) (w : World) : (Instr.makeMap t none).run P w = .ok (.map (some w.heap.size)) (w.alloc (.map #[] 0)) := by
  simp [Instr.makeMap, run_underlying ht, Result.andThen]
abbrev ptS : TypeId := 79
abbrev slP : TypeId := 143
abbrev ptT : TypeId := 108
theorem app_at {α : Type} (a b : Array α) (k : Nat) : (a ++ b)[a.size + k]? = b[k]? := by
  rw [Array.getElem?_append_right (Nat.le_add_right _ _)]
  congr 1
  omega
/-- the boxes of occurs -/
structure OccB (w w6 : World) (h S tb to : Nat) (n : Int) (k : Nat) : Prop where
  be : Below h w w6
  x1 : w6.cell? ⟨h, 0, none⟩ = some (.pointer (some ⟨S, 0, none⟩))
  x2 : w6.cell? ⟨h + 1, 0, none⟩ = some (.int .i64 n)
  el : w6.cell? ⟨(h + 1 + 1 + 1 + 1), 0, none⟩ = some (.pointer (some ⟨tb, to, none⟩))
  left : w6.heap[(h + 1 + 1 + 1 + 1 + 1)]? = some (.cells #[.slice (some ⟨(h + 1 + 1 + 1 + 1), 0, none⟩) k 1] slP (0, 0))
theorem occ_boxes (w : World) (h S tb to : Nat) (n : Int) (hw : w.heap.size = h) :
    OccB w ((((((w.alloc (.cells #[.pointer (some ⟨S, 0, none⟩)] ptS)).alloc (.cells #[.int .i64 n] 3)).alloc (.map #[] 0)).alloc (.cells #[.map (some (h + 1 + 1))] mpI)).alloc (.cells #[.pointer (some ⟨tb, to, none⟩)] ptT)).alloc (.cells #[.slice (some ⟨(h + 1 + 1 + 1 + 1), 0, none⟩) 1 1] slP)) h S tb to n 1 := by
  subst hw
  obtain ⟨w6, e⟩ : ∃ w6, w6 = ((((((w.alloc (.cells #[.pointer (some ⟨S, 0, none⟩)] ptS)).alloc (.cells #[.int .i64 n] 3)).alloc (.map #[] 0)).alloc (.cells #[.map (some (w.heap.size + 1 + 1))] mpI)).alloc (.cells #[.pointer (some ⟨tb, to, none⟩)] ptT)).alloc (.cells #[.slice (some ⟨(w.heap.size + 1 + 1 + 1 + 1), 0, none⟩) 1 1] slP)) := ⟨_, rfl⟩
  rw [← e]
  have hb : Below w.heap.size w w6 := by
    subst e
    exact bnext (bnext (bnext (bnext (bnext (below_box w _) (below_box _ _)) (below_box _ _)) (below_box _ _)) (below_box _ _)) (below_box _ _)
  have hh : w6.heap = w.heap ++ #[.cells #[.pointer (some ⟨S, 0, none⟩)] ptS (0, 0), .cells #[.int .i64 n] 3 (0, 0), .map #[] 0, .cells #[.map (some (w.heap.size + 1 + 1))] mpI (0, 0), .cells #[.pointer (some ⟨tb, to, none⟩)] ptT (0, 0), .cells #[.slice (some ⟨(w.heap.size + 1 + 1 + 1 + 1), 0, none⟩) 1 1] slP (0, 0)] := by
    subst e
    apply Array.ext'
    show ((((((w.heap.push _).push _).push _).push _).push _).push _).toList = _
    simp only [Array.toList_push, Array.toList_append, List.append_assoc, List.cons_append, List.nil_append]
  have key : ∀ k o, (#[.cells #[.pointer (some ⟨S, 0, none⟩)] ptS (0, 0), .cells #[.int .i64 n] 3 (0, 0), .map #[] 0, .cells #[.map (some (w.heap.size + 1 + 1))] mpI (0, 0), .cells #[.pointer (some ⟨tb, to, none⟩)] ptT (0, 0), .cells #[.slice (some ⟨(w.heap.size + 1 + 1 + 1 + 1), 0, none⟩) 1 1] slP (0, 0)] : Array Obj)[k]? = some o → w6.heap[w.heap.size + k]? = some o := fun k o h => by
    rw [hh, app_at]
    exact h
  have k0 : w6.heap[w.heap.size]? = _ := key 0 _ rfl
  have k1 : w6.heap[w.heap.size + 1]? = _ := key 1 _ rfl
  have k4 : w6.heap[(w.heap.size + 1 + 1 + 1 + 1)]? = _ := key 4 _ rfl
  have k5 : w6.heap[(w.heap.size + 1 + 1 + 1 + 1 + 1)]? = _ := key 5 _ rfl
  exact ⟨hb, by rw [Lib.cell_of_heap k0]; rfl, by rw [Lib.cell_of_heap k1]; rfl, by rw [Lib.cell_of_heap k4]; rfl, k5⟩
theorem OccB.on {w w6 w7 : World} {h S tb to k : Nat} {n : Int} (q : OccB w w6 h S tb to n k) (hb : Below w6.heap.size w6 w7) : OccB w w7 h S tb to n k := by
  have hl := heap_lt_of q.left
  have h0 := World.block_lt_of_cell? w6 _ q.x1
  have h1 := World.block_lt_of_cell? w6 _ q.x2
  have h4 := World.block_lt_of_cell? w6 _ q.el
  exact ⟨q.be.trans (hb.mono (Nat.le_of_lt h0)), (hb.cell h0).trans q.x1, (hb.cell h1).trans q.x2, (hb.cell h4).trans q.el, (hb.block _ hl).trans q.left⟩
theorem OccB.pop {w w6 : World} {h S tb to k k2 : Nat} {n : Int} (q : OccB w w6 h S tb to n k) : OccB w (w6.setCell ⟨(h + 1 + 1 + 1 + 1 + 1), 0, none⟩ (.slice (some ⟨(h + 1 + 1 + 1 + 1), 0, none⟩) k2 1)) h S tb to n k2 := by
  have key : ∀ (a : Addr) v, w6.cell? a = some v → a.block ≠ (h + 1 + 1 + 1 + 1 + 1) → (w6.setCell ⟨(h + 1 + 1 + 1 + 1 + 1), 0, none⟩ (.slice (some ⟨(h + 1 + 1 + 1 + 1), 0, none⟩) k2 1)).cell? a = some v := fun a v hc hn => by
    rw [World.cell?_setCell_other _ _ _ _ (fun e => hn (by rw [← e]))]
    exact hc
  refine ⟨q.be.setCell (p := ⟨(h + 1 + 1 + 1 + 1 + 1), 0, none⟩) (by show h ≤ (h + 1 + 1 + 1 + 1 + 1); omega) _, key _ _ q.x1 (by show h ≠ (h + 1 + 1 + 1 + 1 + 1); omega), key _ _ q.x2 (by show h + 1 ≠ (h + 1 + 1 + 1 + 1 + 1); omega), key _ _ q.el (by show (h + 1 + 1 + 1 + 1) ≠ (h + 1 + 1 + 1 + 1 + 1); omega), ?_⟩
  rw [heap_setCell_same _ _ 0 _ _ _ q.left]
  rfl
/-- how much is left to look at -/
def leftN (h : Nat) (w : World) : Nat := match w.cell? ⟨(h + 1 + 1 + 1 + 1 + 1), 0, none⟩ with | some (.slice _ n _) => n | _ => 0
theorem OccB.leftN {w w6 : World} {h S tb to k : Nat} {n : Int} (q : OccB w w6 h S tb to n k) : leftN h w6 = k := by
  unfold Go.Proofs.Ytbnnokibjccdaaa.leftN
  rw [Lib.cell_of_heap q.left]
  rfl
set_option maxHeartbeats 4000000 in
/-- occurs: a variable in a type without args, which is no variable, or one that has no type -/
theorem occurs_any (S m1 cnt tb to : Nat) (n : Int) (f : Int → Option Addr) (s : ByteArray) (p : Option Addr) (c : Nat) (w : World) (hS : w.cell? ⟨S, 0, none⟩ = some (.map (some m1))) (hM : SolAt w m1 cnt f)
    (ht : PAt w tb to ⟨s, p, 0, c⟩) (hs : s.size ≤ 1000000000000) (hv : varV s 0 = -1 ∨ ∃ k : Nat, varV s 0 = (k : Int) ∧ f k = none ∧ keyI.ok k ∧ (k : Int) ≠ n) :
    Calls Try.prog 88 #[.pointer (some ⟨S, 0, none⟩), .int .i64 n, .pointer (some ⟨tb, to, none⟩)] w fun e w' => e = .returned (.bool false) ∧ Below w.heap.size w w' := by
  obtain ⟨h, hh⟩ : ∃ h, w.heap.size = h := ⟨_, rfl⟩
  have HBX := Lib.hid (occ_boxes w h S tb to n hh)
  have hmk := fun w => run_makeMap0 (P := Try.prog) mpI Try.underlying81 w
  have HT := Lib.hid ht
  have HM := Lib.hid hM
  have HS := Lib.hid hS
  have HV := Lib.hid hv
  have hlS : S < w.heap.size := World.block_lt_of_cell? w _ hS
  have hlt : tb < w.heap.size := World.block_lt_of_cell? w _ ht.c0
  have hlm : m1 < w.heap.size := MapAt.lt hM
  have HLS : Hid (S < h ∧ tb < h ∧ m1 < h) := by rw [← hh]; exact ⟨hlS, hlt, hlm⟩
  clear ht hM hS hv hlS hlt hlm
  go_enter Try.func88, Try.ntmps88
  go_wp2_with fail
  clear hmk
  generalize (((((w.alloc (.cells #[.pointer (some ⟨S, 0, none⟩)] ptS)).alloc (.cells #[.int .i64 n] 3)).alloc (.map #[] 0)).alloc (.cells #[.map (some (h + 1 + 1))] mpI)).alloc (.cells #[.pointer (some ⟨tb, to, none⟩)] ptT)).alloc (.cells #[.slice (some ⟨h + 1 + 1 + 1 + 1, 0, none⟩) 1 1] slP) = w6 at HBX ⊢
  go_loopw [2] (fun tt wr => tt = .pointer (some ⟨tb, to, none⟩) ∧ ∃ k : Nat, k ≤ 1 ∧ Hid (OccB w wr h S tb to n k)) (fun _ wr => leftN h wr)
  case atStart => exact ⟨rfl, 1, Nat.le_refl _, HBX⟩
  case round =>
    clear HBX
    obtain ⟨rfl, k, hk, HBX⟩ := hrel
    obtain ⟨wx, rfl⟩ : ∃ x, x = wr := ⟨wr, rfl⟩
    have HLF := Lib.hid (HBX.out.leftN)
    have z5 : wx.cell? ⟨h + 1 + 1 + 1 + 1 + 1, 0, none⟩ = some (.slice (some ⟨h + 1 + 1 + 1 + 1, 0, none⟩) k 1) := by rw [Lib.cell_of_heap HBX.out.left]; rfl
    have f5 : wx.frozen? ⟨h + 1 + 1 + 1 + 1 + 1, 0, none⟩ = false := Lib.frozen_of_heap HBX.out.left 0
    by_cases hk0 : k = 0
    · subst hk0
      go_wp2_with fail
      go_ret
      exact ⟨rfl, by have := HBX.out.be; rwa [← hh] at this⟩
    · obtain rfl : k = 1 := by omega
      have z4 := HBX.out.el
      have hq := (HBX.out.pop (k2 := 0)).on (w7 := (wx.setCell ⟨h + 1 + 1 + 1 + 1 + 1, 0, none⟩ (.slice (some ⟨h + 1 + 1 + 1 + 1, 0, none⟩) 0 1)).drew) ((Below.refl _ _).drew)
      have HQ := Lib.hid hq
      clear hq HBX
      go_wp2_with fail
      go_region
      generalize (wx.setCell ⟨h + 1 + 1 + 1 + 1 + 1, 0, none⟩ (.slice (some ⟨h + 1 + 1 + 1 + 1, 0, none⟩) 0 1)).drew = w7 at HQ ⊢
      clear z5 f5 z4
      have t0 : w7.cell? ⟨tb, to, none⟩ = some (.string s) := (HQ.out.be.cell (p := ⟨tb, to, none⟩) HLS.out.2.1).trans HT.out.c0
      have t1 : w7.cell? ⟨tb, to + 1, none⟩ = some (.slice p 0 c) := (HQ.out.be.cell (p := ⟨tb, to + 1, none⟩) HLS.out.2.1).trans HT.out.c1
      have hcall : Calls Try.prog 89 #[.agg #[.string s, .slice p 0 c], .func (.func 98) #[] #[.pointer (some ⟨h, 0, none⟩), .pointer (some ⟨h + 1, 0, none⟩), .pointer (some ⟨h + 1 + 1 + 1, 0, none⟩), .pointer (some ⟨h + 1 + 1 + 1 + 1 + 1, 0, none⟩)]] w7 fun e w' => e = .returned (.bool true) ∧ Below w7.heap.size w7 w' := by
        rcases HV.out with hv | ⟨m, hv, hf, hok, hmn⟩
        · exact eachVar_none _ _ s p c w7 hs hv
        · refine eachVar_var _ _ s p c m w7 hs hv (fun w' => Below w7.heap.size w7 w') (enters_of Try.func98 (by kernel_rfl) rfl) (fun w1 hb1 => ?_)
          have q1 := HQ.out.on hb1
          refine (occ1_any h (h + 1) (h + 1 + 1 + 1) (h + 1 + 1 + 1 + 1 + 1) S m1 cnt m n f w1 q1.x1 q1.x2 ((q1.be.cell (p := ⟨S, 0, none⟩) HLS.out.1).trans HS.out) (MapAt.below HM.out q1.be HLS.out.2.2) hf hok hmn).mono ?_
          rintro e w' ⟨rfl, hb⟩
          exact ⟨rfl, bnext hb1 hb⟩
      have HC := Lib.hid hcall
      clear hcall
      go_wp2_with fail
      refine HC.out.mono ?_
      rintro e w8 ⟨rfl, hb8⟩
      have HQ8 := Lib.hid (HQ.out.on hb8)
      clear hb8 t0 t1 HC
      go_wp2_with fail
      go_roundw
      case rel => exact ⟨rfl, 0, Nat.zero_le _, HQ8⟩
      case measure => rw [HLF.out, HQ8.out.leftN]; decide
end Go.Proofs.Ytbnnokibjccdaaa

/-
  CONTRACTS: the solver's outer, for chains of one step.
-/
namespace Go.Proofs.Ytbnnokibjccdaaa
open Go Go.RowKit Go.Maps Go.Shelf
set_option linter.unusedVariables false
set_option linter.unusedSimpArgs false
set_option maxRecDepth 100000

theorem but_turned {w w' : World} {b : Nat} (h : w.mapTurned w' b) : But (fun a => a.block = b) w w' := by
  have hg := h.grown
  have hf := h.frozen
  obtain ⟨es, clock, es', clock', hb, rfl⟩ := h
  refine ⟨rfl, rfl, rfl, hg.size, fun a ha hm => World.cell?_of_block (w := w) (hg.block a.block ha (fun e => hm (by injection e))), fun a _ => hf a, fun k hk hm => hg.block k hk (fun e => ?_)⟩
  injection e with e
  exact hm ⟨k, 0, none⟩ rfl e
/-- where a step of outer is: at the end of the chain, or before it -/
def endMu (b o : Nat) (v : Value) : Nat := match v with
  | .pointer (some a) => if a.block = b ∧ a.off = o then 0 else 1
  | _ => 0
set_option maxHeartbeats 4000000 in
theorem outer_any (S m1 cnt b o b2 o2 : Nat) (f : Int → Option Addr) (r r2 : Rw) (w : World) (hS : w.cell? ⟨S, 0, none⟩ = some (.map (some m1))) (hM : SolAt w m1 cnt f) (h1 : PAt w b o r) (h2 : PAt w b2 o2 r2)
    (hr1 : r.name.size ≤ 1000000000000) (hr2 : r2.name.size ≤ 1000000000000) (hz : f (varV r2.name r2.n) = none) (hst : (b = b2 ∧ o = o2) ∨ f (varV r.name r.n) = some ⟨b2, o2, none⟩) :
    Calls Try.prog 63 #[.pointer (some ⟨S, 0, none⟩), .pointer (some ⟨b, o, none⟩)] w fun e w' => e = .returned (.pointer (some ⟨b2, o2, none⟩)) ∧ Below w.heap.size w w' := by
  have hrng : ∀ q : Rw, -1 ≤ varV q.name q.n ∧ varV q.name q.n ≤ 1000000 := fun q => by
    unfold varV varL
    split
    · omega
    · split
      · split
        · split
          · omega
          · exact ⟨digsV_ge _ _, digsV_le _ _ (by omega)⟩
        · omega
      · omega
  have HM := Lib.hid hM
  have HS := Lib.hid hS
  have HP := Lib.hid (And.intro h1 h2)
  have HV := Lib.hid (fun (q : Rw) (hq : q.name.size ≤ 1000000000000) w => variable_any q.name q.p q.n q.cap w hq)
  have HZ := Lib.hid hz
  have HST := Lib.hid hst
  clear hM hS h1 h2 hz hst
  go_enter Try.func63, Try.ntmps63
  go_wp2_with fail
  go_loopw [1] (fun t wr => Hid (Below w.heap.size w wr) ∧ (t = .pointer (some ⟨b, o, none⟩) ∨ t = .pointer (some ⟨b2, o2, none⟩))) (fun t _ => endMu b2 o2 t)
  case atStart => exact ⟨Below.refl _ _, .inl rfl⟩
  case round =>
    obtain ⟨HB, ht⟩ := hrel
    obtain ⟨wx, rfl⟩ : ∃ x, x = wr := ⟨wr, rfl⟩
    by_cases hend : u1 = .pointer (some ⟨b2, o2, none⟩)
    · subst hend
      have HPX : Hid (PAt w b2 o2 r2) := HP.out.2
      have HFX : Hid (f (varV r2.name r2.n) = none) := HZ.out
      have hc0 := fun p => cell_grew (w := wx) (a := ⟨b2, o2, none⟩) (v := .string r2.name) ((HB.out.cell (World.block_lt_of_cell? w _ HPX.out.c0)).trans HPX.out.c0) p
      have hc1 := fun p => cell_grew (w := wx) (a := ⟨b2, o2 + 1, none⟩) (v := .slice r2.p r2.n r2.cap) ((HB.out.cell (World.block_lt_of_cell? w _ HPX.out.c1)).trans HPX.out.c1) p
      have hs0 := fun p => cell_grew (w := wx) (a := ⟨S, 0, none⟩) (v := .map (some m1)) ((HB.out.cell (World.block_lt_of_cell? w _ HS.out)).trans HS.out) p
      have hlk : ∀ p, (Instr.lookup mpS (.map (some m1)) (.int .i64 (varV r2.name r2.n)) true).run Try.prog (grew wx p) = .ok (.tuple #[.pointer none, .bool false]) (grew wx p) := fun p => by
        have hm : SolAt (grew wx p) m1 cnt f := MapAt.below HM.out (HB.out.trans ((grew_below wx p).mono HB.out.size)) (MapAt.lt HM.out)
        have := MapAt.look_ok hm Try.underlying80 (zero_ptr _) (varV r2.name r2.n) (ok_int _ (by have := hrng r2; omega) (by have := hrng r2; omega))
        rw [HFX.out] at this
        exact this
      have HVX := Lib.hid (fun w => HV.out r2 (by assumption) w)
      go_wp2_with fail
      refine wp_region_grew (by kernel_rfl) (by kernel_rfl) ?_
      repeat (go_big_quiet_step ((go_at_call 68; exact Calls.grew_of (HVX.out _))))
      refine wpQuiet_nil ?_
      intro w1 hq
      have HQ := Lib.hid (of_grew hq)
      clear hq hc0 hc1 hs0 hlk
      go_wp2_with fail
      go_ret
      exact ⟨rfl, bnext HB.out HQ.out⟩
    · obtain rfl : u1 = .pointer (some ⟨b, o, none⟩) := ht.resolve_right hend
      have hne : ¬ (b = b2 ∧ o = o2) := fun e => hend (by rw [e.1, e.2])
      have HPX : Hid (PAt w b o r) := HP.out.1
      have HFX : Hid (f (varV r.name r.n) = some ⟨b2, o2, none⟩) := HST.out.resolve_left hne
      have HNE := Lib.hid hne
      clear hend hne ht
      have hc0 := fun p => cell_grew (w := wx) (a := ⟨b, o, none⟩) (v := .string r.name) ((HB.out.cell (World.block_lt_of_cell? w _ HPX.out.c0)).trans HPX.out.c0) p
      have hc1 := fun p => cell_grew (w := wx) (a := ⟨b, o + 1, none⟩) (v := .slice r.p r.n r.cap) ((HB.out.cell (World.block_lt_of_cell? w _ HPX.out.c1)).trans HPX.out.c1) p
      have hs0 := fun p => cell_grew (w := wx) (a := ⟨S, 0, none⟩) (v := .map (some m1)) ((HB.out.cell (World.block_lt_of_cell? w _ HS.out)).trans HS.out) p
      have hlk : ∀ p, (Instr.lookup mpS (.map (some m1)) (.int .i64 (varV r.name r.n)) true).run Try.prog (grew wx p) = .ok (.tuple #[.pointer (some ⟨b2, o2, none⟩), .bool true]) (grew wx p) := fun p => by
        have hm : SolAt (grew wx p) m1 cnt f := MapAt.below HM.out (HB.out.trans ((grew_below wx p).mono HB.out.size)) (MapAt.lt HM.out)
        have := MapAt.look_ok hm Try.underlying80 (zero_ptr _) (varV r.name r.n) (ok_int _ (by have := hrng r; omega) (by have := hrng r; omega))
        rw [HFX.out] at this
        exact this
      have HVX := Lib.hid (fun w => HV.out r (by assumption) w)
      go_wp2_with fail
      refine wp_region_grew (by kernel_rfl) (by kernel_rfl) ?_
      repeat (go_big_quiet_step ((go_at_call 68; exact Calls.grew_of (HVX.out _))))
      refine wpQuiet_nil ?_
      intro w1 hq
      have HQ := Lib.hid (of_grew hq)
      clear hq hc0 hc1 hs0 hlk
      go_wp2_with fail
      go_roundw
      case rel => exact ⟨bnext HB.out HQ.out, .inr rfl⟩
      case measure => simp [endMu, HNE.out]
end Go.Proofs.Ytbnnokibjccdaaa

/-
  CONTRACTS: the solver's give, for types without args.
-/
namespace Go.Proofs.Ytbnnokibjccdaaa
open Go Go.RowKit Go.Maps Go.Shelf
set_option linter.unusedVariables false
set_option linter.unusedSimpArgs false
set_option maxRecDepth 100000

abbrev svT : TypeId := 85
/-- the solver as it lies -/
structure Sv (w : World) (S m1 m2 c1 c2 : Nat) (f : Int → Option Addr) (g : Int → Option Bool) (lat wk : Value) : Prop where
  blk : w.heap[S]? = some (.cells #[.map (some m1), lat, .map (some m2), wk, .map none] svT (0, 0))
  sol : SolAt w m1 c1 f
  ins : InsAt w m2 c2 g
  ne : m1 ≠ m2
  s1 : S ≠ m1
  s2 : S ≠ m2
theorem Sv.later {w w' : World} {S m1 m2 c1 c2 : Nat} {f : Int → Option Addr} {g : Int → Option Bool} {lat wk : Value} (h : Sv w S m1 m2 c1 c2 f g lat wk) (hb : Below w.heap.size w w') : Sv w' S m1 m2 c1 c2 f g lat wk :=
  ⟨(hb.block _ (heap_lt_of h.blk)).trans h.blk, MapAt.below h.sol hb (MapAt.lt h.sol), MapAt.below h.ins hb (MapAt.lt h.ins), h.ne, h.s1, h.s2⟩
theorem Sv.but {w w' : World} {S m1 m2 c1 c2 : Nat} {f : Int → Option Addr} {g : Int → Option Bool} {lat wk : Value} (h : Sv w S m1 m2 c1 c2 f g lat wk) {M : Addr → Prop} (hb : But M w w') (h0 : ∀ a, M a → a.block ≠ S ∧ a.block ≠ m1 ∧ a.block ≠ m2) : Sv w' S m1 m2 c1 c2 f g lat wk :=
  ⟨(hb.block _ (heap_lt_of h.blk) (fun a e q => (h0 a q).1 e)).trans h.blk, MapAt.same h.sol (hb.block _ (MapAt.lt h.sol) (fun a e q => (h0 a q).2.1 e)), MapAt.same h.ins (hb.block _ (MapAt.lt h.ins) (fun a e q => (h0 a q).2.2 e)), h.ne, h.s1, h.s2⟩
theorem Sv.solved {w w' : World} {S m1 m2 c1 c2 c1' : Nat} {f f' : Int → Option Addr} {g : Int → Option Bool} {lat wk : Value} (h : Sv w S m1 m2 c1 c2 f g lat wk) (hm : SolAt w' m1 c1' f') (ht : w.mapTurned w' m1) : Sv w' S m1 m2 c1' c2 f' g lat wk := by
  have hb := but_turned ht
  exact ⟨(hb.block _ (heap_lt_of h.blk) (fun a e q => h.s1 (by rw [← e, q]))).trans h.blk, hm, MapAt.same h.ins (hb.block _ (MapAt.lt h.ins) (fun a e q => h.ne (by rw [← e, q]))), h.ne, h.s1, h.s2⟩
theorem Sv.inside {w w' : World} {S m1 m2 c1 c2 c2' : Nat} {f : Int → Option Addr} {g g' : Int → Option Bool} {lat wk : Value} (h : Sv w S m1 m2 c1 c2 f g lat wk) (hm : InsAt w' m2 c2' g') (ht : w.mapTurned w' m2) : Sv w' S m1 m2 c1 c2' f g' lat wk := by
  have hb := but_turned ht
  exact ⟨(hb.block _ (heap_lt_of h.blk) (fun a e q => h.s2 (by rw [← e, q]))).trans h.blk, MapAt.same h.sol (hb.block _ (MapAt.lt h.sol) (fun a e q => h.ne (by rw [← q, e]))), hm, h.ne, h.s1, h.s2⟩
theorem Sv.set {w : World} {S m1 m2 c1 c2 : Nat} {f : Int → Option Addr} {g : Int → Option Bool} {lat wk : Value} (h : Sv w S m1 m2 c1 c2 f g lat wk) (i : Nat) (v lat' wk' : Value) (e : (#[.map (some m1), lat, .map (some m2), wk, .map none] : Array Value).set! i v = #[.map (some m1), lat', .map (some m2), wk', .map none]) : Sv (w.setCell ⟨S, i, none⟩ v) S m1 m2 c1 c2 f g lat' wk' := by
  have hb : But (fun a => a.block = S) w (w.setCell ⟨S, i, none⟩ v) := But.setCell w _ v rfl
  refine ⟨?_, MapAt.same h.sol (hb.block _ (MapAt.lt h.sol) (fun a e q => h.s1 (by rw [← q, e]))), MapAt.same h.ins (hb.block _ (MapAt.lt h.ins) (fun a e q => h.s2 (by rw [← q, e]))), h.ne, h.s1, h.s2⟩
  rw [heap_setCell_same _ _ i _ _ v h.blk, ← e]
  simp
/-- the blocks of a solver -/
def svM (S m1 m2 : Nat) (a : Addr) : Prop := a.block = S ∨ a.block = m1 ∨ a.block = m2
/-- what the variables of a type that was given leave -/
def GvP (S m1 m2 xb c1 c2 : Nat) (f : Int → Option Addr) (lat wk : Value) (w w' : World) : Prop := ∃ (c2' : Nat) (g' : Int → Option Bool), Sv w' S m1 m2 c1 c2' f g' lat wk ∧ c2' ≤ c2 + 1 ∧ w'.heap[xb]? = some (.cells #[.pointer (some ⟨S, 0, none⟩)] ptS (0, 0)) ∧ But (svM S m1 m2) w w'
theorem cntPut_le {α β : Type} (f : α → Option β) (x : α) (c : Nat) : cntPut f x c ≤ c + 1 := by unfold cntPut; split <;> omega
theorem inside_any (S m1 m2 xb c1 c2 : Nat) (f : Int → Option Addr) (g : Int → Option Bool) (lat wk : Value) (s : ByteArray) (p : Option Addr) (c : Nat) (w : World) (n : Int) (h : Sv w S m1 m2 c1 c2 f g lat wk) (hx : w.heap[xb]? = some (.cells #[.pointer (some ⟨S, 0, none⟩)] ptS (0, 0))) (hs : s.size ≤ 1000000000000) (hc2 : c2 ≤ 1000) (hxm : xb ≠ m2)
    (hv : varV s 0 = -1 ∨ ∃ k : Nat, varV s 0 = (k : Int) ∧ keyI.ok k) :
    Calls Try.prog 89 #[.agg #[.string s, .slice p 0 c], .func (.func 90) #[] #[.pointer (some ⟨xb, 0, none⟩)]] w fun e w' => e = .returned (.bool true) ∧ GvP S m1 m2 xb c1 c2 f lat wk w w' := by
  rcases hv with hv | ⟨k, hv, hok⟩
  · refine (eachVar_none _ _ s p c w hs hv).mono ?_
    rintro e w' ⟨rfl, hb⟩
    exact ⟨rfl, c2, g, h.later hb, Nat.le_succ _, (hb.block _ (heap_lt_of hx)).trans hx, But.of_below hb⟩
  · refine eachVar_var _ _ s p c k w hs hv (GvP S m1 m2 xb c1 c2 f lat wk w) (enters_of Try.func90 (by kernel_rfl) rfl) (fun w1 hb1 => ?_)
    have h1 := h.later hb1
    have hx1 := (hb1.block _ (heap_lt_of hx)).trans hx
    refine (giv1_any xb S m2 c2 k g w1 (by rw [Lib.cell_of_heap hx1]; rfl) (by rw [Lib.cell_of_heap h1.blk]; rfl) h1.ins (by unfold maxLen; omega) hok).mono ?_
    rintro e w2 ⟨rfl, hi, ht⟩
    have hb := but_turned ht
    exact ⟨rfl, _, _, h1.inside hi ht, cntPut_le _ _ _, (hb.block _ (heap_lt_of hx1) (fun a e q => hxm (by rw [← e, q]))).trans hx1, (But.of_below hb1).trans (But.mono hb (fun a q => .inr (.inr q)))⟩
set_option maxHeartbeats 4000000 in
theorem give_any (S m1 m2 c1 c2 b o : Nat) (n : Nat) (f : Int → Option Addr) (g : Int → Option Bool) (wk : Value) (s : ByteArray) (p : Option Addr) (c : Nat) (w : World) (h : Sv w S m1 m2 c1 c2 f g (.slice none 0 0) wk) (ht : PAt w b o ⟨s, p, 0, c⟩) (hs : s.size ≤ 1000000000000)
    (hne : s.toList ≠ []) (hn : n ≤ 1000000) (hc1 : c1 ≤ 100) (hc2 : c2 ≤ 100) (hbS : b ≠ S ∧ b ≠ m1 ∧ b ≠ m2)
    (hv : varV s 0 = -1 ∨ ∃ k : Nat, varV s 0 = (k : Int) ∧ f k = none ∧ keyI.ok k ∧ (k : Int) ≠ n) :
    Calls Try.prog 79 #[.pointer (some ⟨S, 0, none⟩), .int .i64 (n : Int), .pointer (some ⟨b, o, none⟩)] w fun e w' => e = .returned (.bool true) ∧ ∃ (lat : Value) (c1' c2' : Nat) (g' : Int → Option Bool), Sv w' S m1 m2 c1' c2' (updM f n (some ⟨b, o, none⟩)) g' lat wk ∧ c1' ≤ c1 + 1 ∧ c2' ≤ c2 + 1 ∧ But (svM S m1 m2) w w' := by
  have hb1 := below_box w (.cells #[.pointer (some ⟨S, 0, none⟩)] ptS)
  have hx1 := heap_alloc_new w (.cells #[.pointer (some ⟨S, 0, none⟩)] ptS)
  obtain ⟨w1, hw1⟩ : ∃ y, w.alloc (.cells #[.pointer (some ⟨S, 0, none⟩)] ptS) = y := ⟨_, rfl⟩
  obtain ⟨xb, hxb⟩ : ∃ y, w.heap.size = y := ⟨_, rfl⟩
  rw [hw1] at hb1 hx1
  rw [hxb] at hx1
  have hlS : S < xb := by rw [← hxb]; exact heap_lt_of h.blk
  have hlb : b < xb := by rw [← hxb]; exact World.block_lt_of_cell? w _ ht.c0
  have hl1 : m1 < xb := by rw [← hxb]; exact MapAt.lt h.sol
  have hl2 : m2 < xb := by rw [← hxb]; exact MapAt.lt h.ins
  have h1 := h.later hb1
  have ht1 := ht.below hb1
  have HOC := Lib.hid (occurs_any S m1 c1 b o n f s p c w1 (by rw [Lib.cell_of_heap h1.blk]; rfl) h1.sol ht1 hs hv)
  have HNN := Lib.hid (fun w => isNone_any s p 0 c w)
  have hnn : decide (s.toList = [] ∧ (0 : Nat) = 0) = false := decide_eq_false (fun e => hne e.1)
  rw [hnn] at HNN
  have x1 : w1.cell? ⟨xb, 0, none⟩ = some (.pointer (some ⟨S, 0, none⟩)) := by rw [Lib.cell_of_heap hx1]; rfl
  have H1 := Lib.hid h1
  have HT1 := Lib.hid ht1
  have HX1 := Lib.hid hx1
  have HB1 := Lib.hid hb1
  have HL := Lib.hid (And.intro hlS (And.intro hlb (And.intro hl1 hl2)))
  have HV := Lib.hid hv
  have HBS := Lib.hid hbS
  clear hb1 hx1 h1 ht1 hnn h ht hlS hlb hl1 hl2 hv hne hbS
  go_enter Try.func79, Try.ntmps79
  go_wp2_with fail
  clear hw1
  refine HOC.out.mono ?_
  rintro e w2 ⟨rfl, hb2⟩
  have H2 := Lib.hid (H1.out.later hb2)
  have HT2 := Lib.hid (HT1.out.below hb2)
  have HX2 := Lib.hid ((hb2.block _ (heap_lt_of HX1.out)).trans HX1.out)
  have HB2 := Lib.hid (bnext HB1.out hb2)
  have t0 := HT2.out.c0
  have t1 := HT2.out.c1
  simp only at t0 t1
  clear hb2 x1 H1 HT1 HX1 HB1 HOC
  go_wp2_with fail
  refine (HNN.out _).mono ?_
  rintro e w3 ⟨rfl, hb3⟩
  have H3 := Lib.hid (H2.out.later hb3)
  have HT3 := Lib.hid (HT2.out.below hb3)
  have HX3 := Lib.hid ((hb3.block _ (heap_lt_of HX2.out)).trans HX2.out)
  have HB3 := Lib.hid (bnext HB2.out hb3)
  have x3 : w3.cell? ⟨xb, 0, none⟩ = some (.pointer (some ⟨S, 0, none⟩)) := by rw [Lib.cell_of_heap HX3.out]; rfl
  have s0 : w3.cell? ⟨S, 0, none⟩ = some (.map (some m1)) := by rw [Lib.cell_of_heap H3.out.blk]; rfl
  clear hb3 t0 t1 H2 HT2 HX2 HB2
  go_wp2_with (at_mapUpdate; refine wpList_store (K := keyI) (val := fun a : Addr => Value.pointer (some a)) _ rfl _ _ _ mpS 108 rfl Try.underlying80 (by unfold maxLen; omega) rfl H3.out.sol (n : Int) rfl (ok_int _ (by omega) (by omega)) ⟨b, o, none⟩ rfl ?_)
  intro w4 hm4 ht4
  have H4 := Lib.hid (H3.out.solved hm4 ht4)
  have HBT4 := Lib.hid (But.mono (N := svM S m1 m2) (but_turned ht4) (fun a q => .inr (.inl q)))
  have hX4 : w4.heap[xb]? = some (.cells #[.pointer (some ⟨S, 0, none⟩)] ptS (0, 0)) := ((but_turned ht4).block _ (heap_lt_of HX3.out) (fun a e q => by have := HL.out.2.2.1; have q' : a.block = m1 := q; omega)).trans HX3.out
  have HX4 := Lib.hid hX4
  have hT4 : PAt w4 b o ⟨s, p, 0, c⟩ := ⟨(but_turned ht4).keep HT3.out.c0 (fun q => HBS.out.2.1 q), (but_turned ht4).keep HT3.out.c1 (fun q => HBS.out.2.1 q)⟩
  have HT4 := Lib.hid hT4
  have x4 : w4.cell? ⟨xb, 0, none⟩ = some (.pointer (some ⟨S, 0, none⟩)) := by rw [Lib.cell_of_heap hX4]; rfl
  have l4 : w4.cell? ⟨S, 1, none⟩ = some (.slice none 0 0) := by rw [Lib.cell_of_heap H4.out.blk]; rfl
  have f4 : w4.frozen? ⟨S, 1, none⟩ = false := Lib.frozen_of_heap H4.out.blk 1
  clear hm4 ht4 hX4 hT4 H3 HT3 HX3 x3 s0
  have hcap : ¬ 281474976710656 < Builtin.nextslicecap 1 0 * Try.t3.bytes := by decide
  have hlx : xb < w4.heap.size := heap_lt_of HX4.out
  have hlS4 : S < w4.heap.size := heap_lt_of H4.out.blk
  have x5 : (w4.alloc (.cells #[.int .i64 (n : Int)] 3)).cell? ⟨xb, 0, none⟩ = some (.pointer (some ⟨S, 0, none⟩)) := by rw [(below_box w4 _).cell (p := ⟨xb, 0, none⟩) hlx]; exact x4
  have l5 : (w4.alloc (.cells #[.int .i64 (n : Int)] 3)).cell? ⟨S, 1, none⟩ = some (.slice none 0 0) := by rw [(below_box w4 _).cell (p := ⟨S, 1, none⟩) hlS4]; exact l4
  go_wp2_with fail
  go_region
  have hbn : ∀ (lat : Value) (o1 o2 : Obj), But (svM S m1 m2) w4 (((((w4.setCell ⟨S, 1, none⟩ lat).alloc o1).alloc o2).drew).drew) := fun lat o1 o2 =>
    ((But.setCell (M := svM S m1 m2) w4 ⟨S, 1, none⟩ lat (.inl rfl)).trans (But.of_below (bnext (below_box _ o1) (below_box _ o2)))).trans ((But.drew _).trans (But.drew _))
  have hsv : ∀ (lat : Value) (o1 o2 : Obj), Sv (((((w4.setCell ⟨S, 1, none⟩ lat).alloc o1).alloc o2).drew).drew) S m1 m2 (cntPut f (n : Int) c1) c2 (updM f (n : Int) (some ⟨b, o, none⟩)) g lat wk := fun lat o1 o2 =>
    (H4.out.set 1 lat lat wk rfl).later (((bnext (below_box _ o1) (below_box _ o2)).drew).drew)
  have hxv : ∀ (lat : Value) (o1 o2 : Obj), (((((w4.setCell ⟨S, 1, none⟩ lat).alloc o1).alloc o2).drew).drew).heap[xb]? = some (.cells #[.pointer (some ⟨S, 0, none⟩)] ptS (0, 0)) := fun lat o1 o2 => by
    rw [(hbn lat o1 o2).block xb (heap_lt_of HX4.out) (fun a e q => by
      have h1 := HL.out
      rcases q with q | q | q <;> omega)]
    exact HX4.out
  have htv : ∀ (lat : Value) (o1 o2 : Obj), PAt (((((w4.setCell ⟨S, 1, none⟩ lat).alloc o1).alloc o2).drew).drew) b o ⟨s, p, 0, c⟩ := fun lat o1 o2 => by
    have key : ∀ i, ¬ svM S m1 m2 ⟨b, i, none⟩ := fun i q => by
      have h1 := HBS.out
      rcases q with q | q | q
      · exact h1.1 q
      · exact h1.2.1 q
      · exact h1.2.2 q
    exact ⟨(hbn lat o1 o2).keep HT4.out.c0 (key _), (hbn lat o1 o2).keep HT4.out.c1 (key _)⟩
  have HSV := Lib.hid hsv
  have HBN := Lib.hid hbn
  have HXV := Lib.hid hxv
  have HTV := Lib.hid htv
  have tc0 : ∀ (lat : Value) (o1 o2 : Obj), (((((w4.setCell ⟨S, 1, none⟩ lat).alloc o1).alloc o2).drew).drew).cell? ⟨b, o, none⟩ = some (.string s) := fun lat o1 o2 => (htv lat o1 o2).c0
  have tc1 : ∀ (lat : Value) (o1 o2 : Obj), (((((w4.setCell ⟨S, 1, none⟩ lat).alloc o1).alloc o2).drew).drew).cell? ⟨b, o + 1, none⟩ = some (.slice p 0 c) := fun lat o1 o2 => (htv lat o1 o2).c1
  have HCA := Lib.hid (fun (lat : Value) (o1 o2 : Obj) => inside_any S m1 m2 xb (cntPut f (n : Int) c1) c2 (updM f (n : Int) (some ⟨b, o, none⟩)) g lat wk s p c (((((w4.setCell ⟨S, 1, none⟩ lat).alloc o1).alloc o2).drew).drew) 0 (hsv lat o1 o2) (hxv lat o1 o2) hs (by omega) (by have := HL.out; omega) (by
    rcases HV.out with hv | ⟨k, hv, _, hok, _⟩
    · exact .inl hv
    · exact .inr ⟨k, hv, hok⟩))
  clear hsv hbn hxv htv
  go_wp2_with fail
  refine (HCA.out _ _ _).mono ?_
  rintro e w6 ⟨rfl, c2', g', h6, hc6, hx6, hb6⟩
  have H6 := Lib.hid h6
  have HB6 := Lib.hid ((HBN.out _ _ _).trans hb6)
  have HC6 := Lib.hid hc6
  have x6 : w6.cell? ⟨xb, 0, none⟩ = some (.pointer (some ⟨S, 0, none⟩)) := by rw [Lib.cell_of_heap hx6]; rfl
  have l6 : w6.cell? ⟨S, 4, none⟩ = some (.map none) := by rw [Lib.cell_of_heap h6.blk]; rfl
  have f6 : w6.frozen? ⟨S, 4, none⟩ = false := Lib.frozen_of_heap h6.blk 4
  clear h6 hc6 hx6 hb6 tc0 tc1 x4 l4 f4 x5 l5 hcap hlx hlS4
  generalize (Value.slice (some ⟨w4.heap.size + 1, 0, none⟩) 1 ((Question.appendCap 1 0 3).cut (w4.tape (w4.drawn + 1) (Question.appendCap 1 0 3)))) = lat5 at H6 ⊢
  go_wp2_with fail
  go_ret
  refine ⟨rfl, lat5, _, c2', g', H6.out.set 4 (.map none) lat5 wk rfl, cntPut_le _ _ _, HC6.out, ?_⟩
  exact (((But.of_below HB3.out).trans HBT4.out).trans HB6.out).trans (But.setCell (M := svM S m1 m2) _ ⟨S, 4, none⟩ _ (.inl rfl))
end Go.Proofs.Ytbnnokibjccdaaa

/-
  CONTRACTS: the solver's agree, where one side is a variable.
-/
namespace Go.Proofs.Ytbnnokibjccdaaa
open Go Go.RowKit Go.Maps Go.Shelf
set_option linter.unusedVariables false
set_option linter.unusedSimpArgs false
set_option maxRecDepth 100000

theorem varV_range (s : ByteArray) (n : Nat) : -1 ≤ varV s n ∧ varV s n ≤ 1000000 := by
  unfold varV varL
  split
  · omega
  · split
    · split
      · split
        · omega
        · exact ⟨digsV_ge _ _, digsV_le _ _ (by omega)⟩
      · omega
    · omega
set_option maxHeartbeats 4000000 in
/-- agree: the side with the greater variable gets the other one -/
theorem agree_any (S b o b2 o2 : Nat) (r r2 : Rw) (w : World) (R : World → Prop) (h1 : PAt w b o r) (h2 : PAt w b2 o2 r2) (hr1 : r.name.size ≤ 1000000000000) (hr2 : r2.name.size ≤ 1000000000000) (vm vn : Int) (hvm : varV r.name r.n = vm) (hvn : varV r2.name r2.n = vn) (hne : vm ≠ vn)
    (hG1 : vn < vm → ∀ w1, Below w.heap.size w w1 → Calls Try.prog 79 #[.pointer (some ⟨S, 0, none⟩), .int .i64 vm, .pointer (some ⟨b2, o2, none⟩)] w1 fun e w' => e = .returned (.bool true) ∧ R w')
    (hG2 : vm < vn → ∀ w1, Below w.heap.size w w1 → Calls Try.prog 79 #[.pointer (some ⟨S, 0, none⟩), .int .i64 vn, .pointer (some ⟨b, o, none⟩)] w1 fun e w' => e = .returned (.bool true) ∧ R w') :
    Calls Try.prog 62 #[.pointer (some ⟨S, 0, none⟩), .pointer (some ⟨b, o, none⟩), .pointer (some ⟨b2, o2, none⟩)] w fun e w' => e = .returned (.bool true) ∧ R w' := by
  have HV := Lib.hid (fun (s : ByteArray) (p : Option Addr) (n c : Nat) (hs : s.size ≤ 1000000000000) w => variable_any s p n c w hs)
  have a0 := fun p => cell_grew (w := w) h1.c0 p
  have a1 := fun p => cell_grew (w := w) h1.c1 p
  have b0 := fun p => cell_grew (w := w) h2.c0 p
  have b1 := fun p => cell_grew (w := w) h2.c1 p
  obtain ⟨rn, rp, rl, rc⟩ := r
  obtain ⟨qn, qp, ql, qc⟩ := r2
  simp only at a0 a1 b0 b1 hr1 hr2 hvm hvn
  have HG1 := Lib.hid hG1
  have HG2 := Lib.hid hG2
  clear h1 h2 hG1 hG2
  subst hvm
  subst hvn
  by_cases hlt : varV qn ql < varV rn rl
  · have hnl : ¬ varV rn rl < varV qn ql := by omega
    have HL := Lib.hid hlt
    go_enter Try.func62, Try.ntmps62
    go_wp2_with fail
    refine wp_region_grew (by kernel_rfl) (by kernel_rfl) ?_
    repeat (go_big_quiet_step ((go_at_call 68; exact Calls.grew_of (HV.out _ _ _ _ (by assumption) _))))
    refine wpQuiet_nil ?_
    intro w1 hq
    have HQ := Lib.hid (of_grew hq)
    clear hq a0 a1 b0 b1
    go_wp2_with fail
    refine (HG1.out HL.out w1 HQ.out).mono ?_
    rintro e w' ⟨rfl, hR⟩
    have HR := Lib.hid hR
    clear hR
    go_wp2_with fail
    go_ret
    exact ⟨rfl, HR.out⟩
  · have hnl : varV rn rl < varV qn ql := by omega
    have HL := Lib.hid hnl
    go_enter Try.func62, Try.ntmps62
    go_wp2_with fail
    refine wp_region_grew (by kernel_rfl) (by kernel_rfl) ?_
    repeat (go_big_quiet_step ((go_at_call 68; exact Calls.grew_of (HV.out _ _ _ _ (by assumption) _))))
    refine wpQuiet_nil ?_
    intro w1 hq
    have HQ := Lib.hid (of_grew hq)
    clear hq a0 a1 b0 b1
    go_wp2_with fail
    refine (HG2.out HL.out w1 HQ.out).mono ?_
    rintro e w' ⟨rfl, hR⟩
    have HR := Lib.hid hR
    clear hR
    go_wp2_with fail
    go_ret
    exact ⟨rfl, HR.out⟩
end Go.Proofs.Ytbnnokibjccdaaa

/-
  LAWS: the solver's work: a row of pairs of one's own; the kinds of its region.
-/
namespace Go.Proofs.Ytbnnokibjccdaaa
open Go Go.RowKit Go.Maps Go.Shelf
set_option linter.unusedVariables false
set_option linter.unusedSimpArgs false
set_option maxRecDepth 100000

abbrev prT : TypeId := 110
abbrev prS_ : TypeId := 82
def prCells (x : Addr × Addr) : List Value := [.pointer (some x.1), .pointer (some x.2)]
def encPr : Enc (Addr × Addr) where
  cells := prCells
  size := 2
  len := fun _ => rfl
  one := fun r v hv => by
    simp only [prCells, List.mem_cons, List.not_mem_nil, or_false] at hv
    rcases hv with rfl | rfl <;> rfl
  pos := by decide
theorem infoPr : (Try.prog.info? prT).map (fun i => (i.zero, i.size, i.bytes)) = some (some (.agg #[.pointer none, .pointer none]), 2, 16) := by kernel_rfl
abbrev PRow (w : World) (base : Nat) (v : Value) (l : List (Addr × Addr)) : Prop := OwnL encPr prT w base v l
theorem PRow.nil0 {w : World} {base : Nat} {p : Option Addr} {n c : Nat} {l : List (Addr × Addr)} (h : PRow w base (.slice p n c) l) : PRow w base (.slice p 0 c) [] := by
  obtain ⟨hx, ⟨hv, h0⟩ | ⟨g, cap, cur, hv, hb, hg, hn, hc, hs, ht⟩⟩ := h
  · injection hv with e1 e2 e3
    subst e1; subst e3
    exact OwnL.isNil _ _ _ _
  · injection hv with e1 e2 e3
    subst e1; subst e3
    exact ⟨rfl, .inr ⟨g, c, cur, rfl, hb, hg, Nat.zero_le _, hc, hs, by simp [Enc.all]⟩⟩
theorem PRow.slice {w : World} {base : Nat} {v : Value} {l : List (Addr × Addr)} (h : PRow w base v l) : ∃ p c, v = .slice p l.length c := by
  rcases h.2 with ⟨hv, h0⟩ | ⟨g, cap, cur, hv, _⟩
  · exact ⟨none, 0, by rw [hv, h0]⟩
  · exact ⟨_, _, hv⟩
/-- the one pair of a row -/
theorem PRow.one {w : World} {base : Nat} {v : Value} {x : Addr × Addr} (h : PRow w base v [x]) : ∃ b c, v = .slice (some ⟨b, 0, none⟩) 1 c ∧ base ≤ b ∧ w.cell? ⟨b, 0, none⟩ = some (.pointer (some x.1)) ∧ w.cell? ⟨b, 1, none⟩ = some (.pointer (some x.2)) ∧ 1 ≤ c := by
  have hs := h.sl
  obtain ⟨hx, ⟨hv, h0⟩ | ⟨g, cap, cur, hv, hb, hg, hn, hc, hsz, ht⟩⟩ := h
  · simp at h0
  · subst hv
    obtain ⟨hn2, h2, h3, h4⟩ := hs.lies
    obtain ⟨b, off, e, hcl⟩ := h4 (by simp)
    injection e with e
    injection e with e1 e2 _
    subst e1; subst e2
    have c0 := hcl.elem 0 (by simp) 0 (by decide) _ rfl
    have c1 := hcl.elem 0 (by simp) 1 (by decide) _ rfl
    exact ⟨g, cap, rfl, hb, c0, c1, hn⟩
theorem PRow.keep {w w' : World} {base : Nat} {v : Value} {l : List (Addr × Addr)} {M : Addr → Prop} (h : PRow w base v l) (hb : But M w w') (hM : ∀ a, M a → a.block < base) : PRow w' base v l := by
  obtain ⟨hx, ⟨hv, h0⟩ | ⟨g, cap, cur, hv, hbg, hg, rest⟩⟩ := h
  · exact ⟨hx, .inl ⟨hv, h0⟩⟩
  · exact ⟨hx, .inr ⟨g, cap, cur, hv, hbg, (hb.block g (heap_lt_of hg) (fun a e q => by have := hM a q; omega)).trans hg, rest⟩⟩
/-- one pair in a slice that was just laid -/
def tvOnePr (row : Option Nat) (p : Addr × Addr) : TyV := ⟨Nat × Nat, ⟨(0, 0)⟩, fun x => .slice (some ⟨x.1, 0, none⟩) 1 1, fun x w => CellsAt w x.1 0 (prCells p) ∧ some x.1 ≠ row ∧ x.1 < w.heap.size⟩
theorem tvOnePr_good (row : Option Nat) (p : Addr × Addr) (c k : Nat) : Good LB (fun x y => x.grownBy y row) c k (tvOnePr row p) :=
  ⟨fun x w w' hl h => ⟨cells_sameK h.1 (hl.block x.1 h.2.2), h.2.1, Nat.lt_of_lt_of_le h.2.2 hl.size⟩,
   fun _ x w w' hl h => ⟨cells_sameK h.1 (hl.block x.1 h.2.2 h.2.1), h.2.1, Nat.lt_of_lt_of_le h.2.2 hl.size⟩⟩
theorem tvOnePr_f (row : Option Nat) (p : Addr × Addr) (b d : Nat) : (tvOnePr row p).f (b, d) = .slice (some ⟨b, 0, none⟩) 1 1 := rfl
theorem tvOnePr_mk {row : Option Nat} {p : Addr × Addr} {w : World} {c k : Nat} {P : Program} {Pn : Ending → World → Prop} (hr : ∀ j, row = some j → j < w.heap.size) (h : k ≠ c) :
    oneUpon P (sel LB (fun x y => x.grownBy y row) c k) Pn (tvOnePr row p) w (.ok (.value (.slice (some ⟨w.heap.size, 0, none⟩) 1 1)) (w.alloc (.cells #[.pointer (some p.1), .pointer (some p.2)] prT))) := by
  refine ⟨?_, (w.heap.size, 0), rfl, cellsAt_alloc w (prCells p) prT, fun e => ?_, by simp⟩
  · unfold sel; rw [if_neg h]; exact below_box w _
  · have := hr _ e.symm; omega
/-- the row with the pair -/
def tvAppPr (base : Nat) (p : Addr × Addr) : TyV := ⟨Value × Nat, ⟨(undef, 0)⟩, fun x => x.1, fun x w => PRow w base x.1 [p]⟩
theorem tvAppPr_good (row : Option Nat) (base : Nat) (p : Addr × Addr) (c : Nat) : Good LB (fun x y => x.grownBy y row) c c (tvAppPr base p) :=
  ⟨fun x w w' hl h => OwnL.below h hl, fun hk => absurd rfl hk⟩
theorem tvAppPr_f (base : Nat) (p : Addr × Addr) (v : Value) (d : Nat) : (tvAppPr base p).f (v, d) = v := rfl
theorem tvAppPr_mk {row : Option Nat} {base c sb : Nat} {p : Addr × Addr} {v : Value} {w : World} {Pn : Ending → World → Prop} (hv : PRow w base v []) (hrow : row = v.ownBlock) (hx : CellsAt w sb 0 (prCells p)) (hb : base ≤ w.heap.size) (ty : TypeId) :
    ∃ v' w', (Builtin.append_ #[prS_, prS_] ty #[v, .slice (some ⟨sb, 0, none⟩) 1 1]).run Try.prog w = .ok v' w' ∧ oneUpon Try.prog (sel LB (fun x y => x.grownBy y row) c c) Pn (tvAppPr base p) w (.ok (.value v') w') := by
  obtain ⟨i0, hi0, hz0, hz1, hz2⟩ := info_parts infoPr
  obtain ⟨v', w', hr, h2, h3, _, h5⟩ := run_append_own_at (P := Try.prog) w base prS_ ty prT i0 (.agg #[.pointer none, .pointer none]) 2 16 Try.underlying82 hi0 hz0 hz1 hz2 rfl (by decide) v 0 [] hv ⟨sb, 0, none⟩ 1 1 (prCells p) rfl (fun j u hj => by rw [add_lit]; exact hx j u hj) (fun u hu => encPr.one p u hu) (by decide) (by decide) hb
  subst hrow
  refine ⟨v', w', hr, ?_, (v', 0), rfl, ?_⟩
  · unfold sel; rw [if_pos rfl]; exact h3
  · show OwnL encPr prT w' base v' [p]
    unfold OwnL
    simpa [Enc.all, encPr] using h2
theorem Sv.low {w w' : World} {S m1 m2 c1 c2 base : Nat} {f : Int → Option Addr} {g : Int → Option Bool} {lat wk : Value} (h : Sv w S m1 m2 c1 c2 f g lat wk) (hb : Below base w w') (h0 : S < base ∧ m1 < base ∧ m2 < base) : Sv w' S m1 m2 c1 c2 f g lat wk :=
  ⟨(hb.block _ h0.1).trans h.blk, MapAt.below h.sol hb h0.2.1, MapAt.below h.ins hb h0.2.2, h.ne, h.s1, h.s2⟩
end Go.Proofs.Ytbnnokibjccdaaa
