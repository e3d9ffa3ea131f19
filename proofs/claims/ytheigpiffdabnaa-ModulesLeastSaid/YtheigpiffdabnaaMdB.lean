/-
  CONTRACTS: (modules.giving).take: a bind of another module.
-/
import Derived.Test.YtheigpiffdabnaaMdA
namespace Go.Proofs.Ytheigpiffdabnaa.Mds
open Go Go.RowKit Go.Maps
set_option linter.unusedVariables false
set_option linter.unusedSimpArgs false
set_option maxRecDepth 1000000

theorem grown_below {w w1 w2 : World} {b : Nat} (h : Below w.heap.size w w1) (hg : w1.grownBy w2 (some b)) : w.grownBy w2 (some b) :=
  ⟨hg.os.trans h.os, hg.tape.trans h.tape, hg.output.trans h.output, Nat.le_trans h.size hg.size, fun k hk hne => (hg.block k (Nat.lt_of_lt_of_le hk h.size) hne).trans (h.block k hk)⟩

set_option maxHeartbeats 2000000 in
theorem take_no (o b : Nat) (own : List ByteArray) (bs : List Bd) (x : Bd) (w : World) (hx : x.1.size ≤ maxLen ∧ x.2.size ≤ maxLen) (hg : GvAt w o b own bs) (h : x.1 ∈ own ∨ x ∈ bs) :
    Calls Try.prog 49 #[.agg #[.map (some o), .map (some b)], .agg #[.string x.1, .string x.2]] w fun e w' => e = .returned (.bool false) ∧ Below w.heap.size w w' := by
  obtain ⟨x1, x2⟩ := x
  have HB0 : Hid (Below w.heap.size w ((w.alloc (.cells #[.map (some o), .map (some b)] gvT)).alloc (.cells #[.string x1, .string x2] 61))) := bnext (below_box w _) (below_box _ _)
  have HG := Lib.hid (hg.below HB0.out hg.own.lt hg.bs.lt)
  have HX := Lib.hid hx
  clear hg hx
  by_cases h1 : x1 ∈ own
  · have HE := Lib.hid (setF_mem h1)
    clear h h1
    go_enter Try.func49, Try.ntmps49
    go_wp2_with (first
      | (at_lookup; refine wpList_look (K := sKeys) (val := tt) (v := .bool true) _ rfl _ _ 80 4 rfl Try.underlying80 Try.zeroValue4 rfl HG.out.own x1 rfl HX.out.1 (by rw [HE.out]; rfl) ?_)
      | fail)
    go_ret
    exact ⟨rfl, HB0.out⟩
  · have HE := Lib.hid (setF_not h1)
    have HF := Lib.hid (setF_mem (h.resolve_left h1))
    clear h h1
    have hl2 := MapAt.look HG.out.bs Try.underlying81 (Try.zeroValue4 _) (x1, x2) HX.out
    rw [HF.out] at hl2
    have hl3 : (Instr.lookup 81 (.map (some b)) (.agg #[.string x1, .string x2]) false).run Try.prog _ = .ok (.bool true) _ := hl2
    clear hl2
    go_enter Try.func49, Try.ntmps49
    go_wp2_with (first
      | (at_lookup; refine wpList_look (K := sKeys) (val := tt) (v := .bool false) _ rfl _ _ 80 4 rfl Try.underlying80 Try.zeroValue4 rfl HG.out.own x1 rfl HX.out.1 (by rw [HE.out]) ?_)
      | fail)
    go_ret
    exact ⟨rfl, HB0.out⟩
set_option maxHeartbeats 2000000 in
theorem take_yes (o b : Nat) (own : List ByteArray) (bs : List Bd) (x : Bd) (w : World) (hx : x.1.size ≤ maxLen ∧ x.2.size ≤ maxLen) (hfew : bs.length < maxLen) (hne : o ≠ b) (hg : GvAt w o b own bs) (h1 : x.1 ∉ own) (h2 : x ∉ bs) :
    Calls Try.prog 49 #[.agg #[.map (some o), .map (some b)], .agg #[.string x.1, .string x.2]] w fun e w' => e = .returned (.bool true) ∧ w.grownBy w' (some b) ∧ MapAt bdKeys tt w' b (bs ++ [x]).length (setF (bs ++ [x])) := by
  obtain ⟨x1, x2⟩ := x
  have HB0 : Hid (Below w.heap.size w ((w.alloc (.cells #[.map (some o), .map (some b)] gvT)).alloc (.cells #[.string x1, .string x2] 61))) := bnext (below_box w _) (below_box _ _)
  have HG := Lib.hid (hg.below HB0.out hg.own.lt hg.bs.lt)
  have HX := Lib.hid hx
  have HE := Lib.hid (setF_not h1)
  have HF := Lib.hid (setF_not h2)
  have hl2 := MapAt.look HG.out.bs Try.underlying81 (Try.zeroValue4 _) (x1, x2) HX.out
  rw [HF.out] at hl2
  have hl3 : (Instr.lookup 81 (.map (some b)) (.agg #[.string x1, .string x2]) false).run Try.prog _ = .ok (.bool false) _ := hl2
  have HBL := Lib.hid hg.bs.lt
  have HNE := Lib.hid h2
  clear hl2 h1 h2 hg hx
  go_enter Try.func49, Try.ntmps49
  go_wp2_with (first
    | (at_lookup; refine wpList_look (K := sKeys) (val := tt) (v := .bool false) _ rfl _ _ 80 4 rfl Try.underlying80 Try.zeroValue4 rfl HG.out.own x1 rfl HX.out.1 (by rw [HE.out]) ?_)
    | (at_mapUpdate; refine wpList_store (K := bdKeys) (val := tt) _ rfl _ _ _ 81 4 rfl Try.underlying81 hfew rfl HG.out.bs (x1, x2) rfl HX.out () rfl ?_; intro w2 hm2 ht2; have HM2 := Lib.hid hm2; have HT2 := Lib.hid ht2.grown; clear hm2 ht2)
    | fail)
  go_ret
  refine ⟨rfl, grown_below HB0.out HT2.out, ?_⟩
  have e1 : addN bs (x1, x2) = bs ++ [(x1, x2)] := by unfold addN; rw [if_neg (fun r => HNE.out ((any_mem _ _).1 r))]
  have h3 := HM2.out
  rw [addN_set, addN_cnt, e1, List.length_append] at h3
  exact h3
end Go.Proofs.Ytheigpiffdabnaa.Mds
