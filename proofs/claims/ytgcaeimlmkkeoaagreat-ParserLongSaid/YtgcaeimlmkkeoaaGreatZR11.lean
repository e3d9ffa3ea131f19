/-
  CONTRACT: the reference's Expr and Type.
-/
import Derived.Test.YtgcaeimlmkkeoaaGreatZR10
import Derived.Test.YtgcaeimlmkkeoaaGreatZL4
set_option linter.unusedSimpArgs false
set_option linter.unusedVariables false
namespace Go.Proofs.YtgcaeimlmkkeoaaGreat
open Go Go.RowKit
theorem eql_toks (a : Addr) (n c : Nat) (w : World) : (binOp .eql 59 (.slice (some a) n c) (.slice none 0 0)).run Tryz.prog w = .ok (.bool false) w := by kernel_rfl
theorem eql_toks0 (w : World) : (binOp .eql 59 (.slice none 0 0) (.slice none 0 0)).run Tryz.prog w = .ok (.bool true) w := by kernel_rfl
attribute [local go_sem] eql_toks eql_toks0 field_tok0 field_tok1 field_tok2
set_option maxHeartbeats 4000000 in
set_option maxRecDepth 1000000 in
theorem refTokens_big (s : ByteArray) (w : World) (hs : s.size ≤ 4611686018427387904) (hbig : 20000 < s.size) :
  Calls Tryz.prog 32 #[.string s] w fun e w' => e = .returned (.slice none 0 0) ∧ Below w.heap.size w w' := by
 go_enter Tryz.func32, Tryz.ntmps32
 go_wp2_with fail
 go_ret
 exact ⟨rfl, Below.refl _ _⟩
theorem ResB.onMv {r : Rdr} {w W W' : World} (h : ResB w W) (hm : Mv r W W') (hr : w.heap.size < r.b) : ResB w W' :=
 ⟨by rw [hm.block (lt_heap h.z) (by omega)]; exact h.z, h.be.trans (But.below hm h.be.size (fun a e => by have e' : a.block = r.b := e; omega))⟩
theorem results_rexpr {tmps : Array Value} {w : World} {a0 : Addr} {v0 v1 : Value} (h0 : tmps.getD 2 undef = .pointer (some a0)) (h1 : tmps.getD 3 undef = v1)
  (l0 : (loadVar 40 a0).run Tryz.prog w = .ok v0 w) : (results Tryz.f17 tmps).run Tryz.prog w = .ok (.tuple #[v0, v1]) w := by
 have e0 : tmps[2]?.getD undef = .pointer (some a0) := by simpa using h0
 have e1 : tmps[3]?.getD undef = v1 := by simpa using h1
 simp [results, Tryz.results17, e0, e1, asAddr, l0]
set_option maxRecDepth 100000 in
set_option maxHeartbeats 1000000 in
theorem rExprTop_any (s : ByteArray) (w : World) (hs : s.size ≤ 4611686018427387904) : Calls Tryz.prog 17 #[.string s] w (WholePost (exprOf s) w) := by
 have HS1 := Lib.hid (ResB.start w)
 by_cases hbig : 20000 < s.size
 ·have hz : tokList s = [] := by unfold tokList; rw [if_neg (by omega)]
  have hX : exprOf s = none := by unfold exprOf wholeV; rw [hz]; rfl
  rw [hX]
  have HTO := Lib.hid (fun w => refTokens_big s w hs hbig)
  clear hz hX hbig
  go_enter Tryz.func17, Tryz.ntmps17
  go_wp2_with fail
  generalize w.alloc (.cells #[.int .i64 0, .string ⟨#[]⟩, .int .i64 0, .slice none 0 0] 40) = w1 at *
  refine (HTO.out w1).mono ?_
  rintro e w2 ⟨rfl, hb⟩
  have HS2 := Lib.hid (HS1.out.on hb)
  have HW := Lib.hid (HS2.out.store (q := ⟨0, ⟨#[]⟩, 0, none, 0, 0⟩) (IsT.leaf _ _ 0 ⟨#[]⟩ 0))
  obtain ⟨d0, d1, d2, d3, f0⟩ := HS2.out.cells
  clear hb HTO HS1
  go_wp2_with fail
  obtain ⟨hcell, hist, hbe⟩ := HW.out
  exact bodyPost_ret (results_rexpr rfl rfl (load_node _ _ ⟨0, ⟨#[]⟩, 0, none, 0, 0⟩ hcell)) rfl ⟨rfl, hbe⟩
 have HTO := Lib.hid (fun w => refTokens_any s w hs)
 have hz : tokList s = Lx.toks s := by unfold tokList; rw [if_pos (by omega)]
 have hTk : Toks (tokList s) := by
  rcases tokList_toks s with h | h
  ·exfalso
   have h2 := Lx.Scan.ends (Lx.toks_scan s)
   rw [← hz, h] at h2
   obtain ⟨D, e, h3, _⟩ := h2
   exact absurd h3 (by simp)
  ·exact h
 have hKn : Known (tokList s) := by rw [hz]; exact scan_known (Lx.toks_scan s)
 have hQm : EqMark (tokList s) := by rw [hz]; exact scan_eqMark (Lx.toks_scan s)
 unfold exprOf
 obtain ⟨L, hL⟩ : ∃ L, tokList s = L := ⟨_, rfl⟩
 have HTO2 : Hid (∀ w, Calls Tryz.prog 32 #[.string s] w fun e w' => ∃ v, e = .returned v ∧ SlIs tokEnc w' v L ∧ Below w.heap.size w w') := by rw [← hL]; exact HTO.out
 rw [hL] at hTk hKn hQm ⊢
 have HTK := Lib.hid hTk
 have HKN := Lib.hid hKn
 have HQM := Lib.hid hQm
 generalize hXX : wholeV L (exprT (core L)) = X
 have HX := Lib.hid hXX
 clear hXX hTk hKn hQm hL hz HTO hbig
 have hpos : 0 < L.length := by
  obtain ⟨D, e, h3, _⟩ := HTK.out.ends
  rw [h3]; simp
 go_enter Tryz.func17, Tryz.ntmps17
 go_wp2_with fail
 generalize w.alloc (.cells #[.int .i64 0, .string ⟨#[]⟩, .int .i64 0, .slice none 0 0] 40) = w1 at *
 refine (HTO2.out w1).mono ?_
 rintro e w2 ⟨v, rfl, hsl, hb⟩
 obtain ⟨tp, cap, rfl, hlc, hcm, hlies⟩ := hsl
 have HS2 := Lib.hid (HS1.out.on hb)
 have HSL : Hid (SlIs tokEnc w2 (.slice tp L.length cap) L) := ⟨tp, cap, rfl, hlc, hcm, hlies⟩
 obtain ⟨b, off, rfl, hcl⟩ := hlies hpos
 have hbl : b < w2.heap.size := World.block_lt_of_cell? w2 _ (hcl.elem 0 hpos 0 (by decide) _ rfl)
 have HBL := Lib.hid hbl
 clear hb hlc hcm hcl hbl hlies HTO2 HS1
 go_wp2_with fail
 have hbx := boxB w2 (.cells #[.slice (some ⟨b, off, none⟩) L.length cap, .int .i64 0, .int .i64 (-1), .bool false] 71)
 have hsz := lt_heap HS2.out.z
 obtain ⟨r, hr⟩ : ∃ r : Rdr, r = ⟨w2.heap.size, some ⟨b, off, none⟩, cap, L⟩ := ⟨_, rfl⟩
 have hrL : r.L = L := by rw [hr]
 have hrb : r.b = w2.heap.size := by rw [hr]
 have HR : Hid (RrAt r (.ok 0) false (w2.alloc (.cells #[.slice (some ⟨b, off, none⟩) L.length cap, .int .i64 0, .int .i64 (-1), .bool false] 71))) := by
  rw [hr]
  exact (⟨heap_alloc_new w2 _, HSL.out.below hbx, fun b' o e => by cases e; exact HBL.out, hpos, HTK.out.few, by decide⟩ : RrIn ⟨w2.heap.size, some ⟨b, off, none⟩, cap, L⟩ 0 (-1) false (w2.alloc (.cells #[.slice (some ⟨b, off, none⟩) L.length cap, .int .i64 0, .int .i64 (-1), .bool false] 71)))
 have HS3 := Lib.hid (HS2.out.on hbx)
 have HRB : Hid (w.heap.size < r.b) := by show _ < _; omega
 have HPE : Hid ((subL r 60).E = exprT (core L)) := by show exprT r = _; rw [exprT_core, hrL]
 have HLT : Hid (w2.heap.size < (w2.alloc (.cells #[.slice (some ⟨b, off, none⟩) L.length cap, .int .i64 0, .int .i64 (-1), .bool false] 71)).heap.size) := lt_heap (heap_alloc_new w2 _)
 rw [← hrb]
 rw [← hrb] at HLT
 clear hr hsz hrb hbx HSL HBL HS2
 generalize w2.alloc (.cells #[.slice (some ⟨b, off, none⟩) L.length cap, .int .i64 0, .int .i64 (-1), .bool false] 71) = w3 at *
 rw [← hrL] at HTK HKN HQM
 refine (rExprT_any r false HTK.out.endAt HKN.out HTK.out.intAt HQM.out (.ok 0) w3 HR.out).mono ?_
 rintro e w4 ⟨q, t, rfl, ht, hrr, hm, hg⟩
 rw [HPE.out] at hrr hg
 have HS4 := Lib.hid (HS3.out.onMv hm HRB.out)
 have hb4 := boxB w4 (.cells #[.int .i64 q.kind, .string q.text, .int .i64 q.at_, .slice q.p q.n q.cap] 40)
 have HS5 := Lib.hid (HS4.out.on hb4)
 have HR5 := Lib.hid (hrr.below hb4)
 have HT5 : Hid (IsT (fun b => r.b < b) (w4.alloc (.cells #[.int .i64 q.kind, .string q.text, .int .i64 q.at_, .slice q.p q.n q.cap] 40)) q t) := (ht.later hb4).mono (fun b hb => by have := HLT.out; omega)
 have HQ5 : Hid ((w4.alloc (.cells #[.int .i64 q.kind, .string q.text, .int .i64 q.at_, .slice q.p q.n q.cap] 40)).heap[w4.heap.size]? = some (.cells (ndC q) 40 (0, 0))) := heap_alloc_new w4 _
 have HG := Lib.hid hg
 have HRG : Hid (r.b < w4.heap.size) := by
  obtain ⟨_, _, hin⟩ := hrr.in2
  exact lt_heap hin.cells
 clear ht hrr hm hg hb4 HS3 HS4 HR HLT HPE
 have HQL : Hid (w4.heap.size < (w4.alloc (.cells #[.int .i64 q.kind, .string q.text, .int .i64 q.at_, .slice q.p q.n q.cap] 40)).heap.size) := lt_heap HQ5.out
 unfold ndC
 go_wp2_with fail
 obtain ⟨g, hgz⟩ : ∃ g, w4.heap.size = g := ⟨_, rfl⟩
 rw [hgz] at HQ5 HQL HRG ⊢
 clear hgz
 generalize w4.alloc (.cells #[.int .i64 q.kind, .string q.text, .int .i64 q.at_, .slice q.p q.n q.cap] 40) = w5 at *
 refine (ok_r r _ false w5 HR5.out).mono ?_
 rintro e w6 ⟨bb, rfl, rfl, hbb⟩
 cases hx : exprT (core L) 0 with
 | error k =>
  have ha : after (exprT (core L)) (.ok 0) = .error k := after_err hx
  rcases hbb with ⟨_, i, hi⟩ | ⟨rfl, _⟩
  ·rw [ha] at hi; cases hi
  have hV : wholeV L (exprT (core L)) = none := by unfold wholeV; rw [if_neg (by omega), hx]
  have hX := HX.out
  rw [hV] at hX
  subst hX
  have HW := Lib.hid (HS5.out.store (q := ⟨0, ⟨#[]⟩, 0, none, 0, 0⟩) (IsT.leaf _ _ 0 ⟨#[]⟩ 0))
  obtain ⟨d0, d1, d2, d3, f0⟩ := HS5.out.cells
  clear ha hx hV HR5 HG HT5 HQ5
  go_wp2_with fail
  obtain ⟨hcell, hist, hbe⟩ := HW.out
  exact bodyPost_ret (results_rexpr rfl rfl (load_node _ _ ⟨0, ⟨#[]⟩, 0, none, 0, 0⟩ hcell)) rfl ⟨rfl, hbe⟩
 | ok z =>
  obtain ⟨t', j⟩ := z
  have ha : after (exprT (core L)) (.ok 0) = .ok j := after_ok hx
  have ht' : t = t' := HG.out 0 _ _ rfl hx
  subst ht'
  rcases hbb with ⟨rfl, _⟩ | ⟨_, i, hi⟩
  rotate_left
  ·rw [ha] at hi; cases hi
  have hR5 := HR5.out
  rw [ha] at hR5
  have HR6 := Lib.hid hR5
  have HX2 := Lib.hid hx
  clear hR5 ha hx HR5 HG
  go_wp2_with fail
  refine (next_r r (.ok j) false _ HR6.out).mono ?_
  rintro e w7 ⟨⟨kd, tx, ax⟩, rfl, hrr, hm, hgx⟩
  have hk := hgx j _ _ rfl rfl
  have HKD : Hid (kd = (L.getD j tok0).kind) := by show kd = _; rw [← hrL, ← hk]
  have HS7 := Lib.hid (HS5.out.onMv hm HRB.out)
  have HT7 : Hid (IsT (fun b => w.heap.size < b) w7 q t) := (HT5.out.mvG hm (fun b hb => by omega)).mono (fun b hb => by have := HRB.out; omega)
  have HQ7 : Hid (w7.heap[g]? = some (.cells (ndC q) 40 (0, 0))) := by
   show w7.heap[g]? = _
   rw [hm.block HQL.out (by have := HRG.out; omega)]
   exact HQ5.out
  clear hk hgx hm hrr HT5 HS5 HQ5
  obtain ⟨d0, d1, d2, d3, f0⟩ := HS7.out.cells
  have b0 : w7.cell? ⟨g, 0, none⟩ = some (.int .i64 q.kind) := by rw [Lib.cell_of_heap HQ7.out]; rfl
  have b1 : w7.cell? ⟨g, 1, none⟩ = some (.string q.text) := by rw [Lib.cell_of_heap HQ7.out]; rfl
  have b2 : w7.cell? ⟨g, 2, none⟩ = some (.int .i64 q.at_) := by rw [Lib.cell_of_heap HQ7.out]; rfl
  have b3 : w7.cell? ⟨g, 3, none⟩ = some (.slice q.p q.n q.cap) := by rw [Lib.cell_of_heap HQ7.out]; rfl
  unfold tkC
  dsimp only
  by_cases hk0 : kd = 0
  ·have hV : wholeV L (exprT (core L)) = some t := by unfold wholeV; rw [if_neg (by omega), HX2.out]; show (if (L.getD j tok0).kind = 0 then some t else none) = _; rw [← HKD.out, if_pos hk0]
   have hX := HX.out
   rw [hV] at hX
   subst hX
   have HW := Lib.hid (HS7.out.store HT7.out)
   clear HKD
   subst hk0
   go_wp2_with fail
   obtain ⟨hcell, hist, hbe⟩ := HW.out
   exact bodyPost_ret (results_rexpr rfl rfl (load_node _ _ q hcell)) rfl ⟨q, rfl, hist, hbe⟩
  ·have hV : wholeV L (exprT (core L)) = none := by unfold wholeV; rw [if_neg (by omega), HX2.out]; show (if (L.getD j tok0).kind = 0 then some t else none) = _; rw [← HKD.out, if_neg hk0]
   have hX := HX.out
   rw [hV] at hX
   subst hX
   have hkb : (kd == 0) = false := beq_eq_false_iff_ne.2 hk0
   have HW := Lib.hid (HS7.out.store (q := ⟨0, ⟨#[]⟩, 0, none, 0, 0⟩) (IsT.leaf _ _ 0 ⟨#[]⟩ 0))
   clear HKD
   go_wp2_with fail
   obtain ⟨hcell, hist, hbe⟩ := HW.out
   exact bodyPost_ret (results_rexpr rfl rfl (load_node _ _ ⟨0, ⟨#[]⟩, 0, none, 0, 0⟩ hcell)) rfl ⟨rfl, hbe⟩
end Go.Proofs.YtgcaeimlmkkeoaaGreat
namespace Go.Proofs.YtgcaeimlmkkeoaaGreat
open Go Go.RowKit
attribute [local go_sem] eql_toks eql_toks0 field_tok0 field_tok1 field_tok2
theorem results_rtype {tmps : Array Value} {w : World} {a0 : Addr} {v0 v1 : Value} (h0 : tmps.getD 2 undef = .pointer (some a0)) (h1 : tmps.getD 3 undef = v1)
  (l0 : (loadVar 40 a0).run Tryz.prog w = .ok v0 w) : (results Tryz.f19 tmps).run Tryz.prog w = .ok (.tuple #[v0, v1]) w := by
 have e0 : tmps[2]?.getD undef = .pointer (some a0) := by simpa using h0
 have e1 : tmps[3]?.getD undef = v1 := by simpa using h1
 simp [results, Tryz.results19, e0, e1, asAddr, l0]
set_option maxRecDepth 100000 in
set_option maxHeartbeats 1000000 in
theorem rTypeTop_any (s : ByteArray) (w : World) (hs : s.size ≤ 4611686018427387904) : Calls Tryz.prog 19 #[.string s] w (WholePost (typOf s) w) := by
 have HS1 := Lib.hid (ResB.start w)
 by_cases hbig : 20000 < s.size
 ·have hz : tokList s = [] := by unfold tokList; rw [if_neg (by omega)]
  have hX : typOf s = none := by unfold typOf wholeV; rw [hz]; rfl
  rw [hX]
  have HTO := Lib.hid (fun w => refTokens_big s w hs hbig)
  clear hz hX hbig
  go_enter Tryz.func19, Tryz.ntmps19
  go_wp2_with fail
  generalize w.alloc (.cells #[.int .i64 0, .string ⟨#[]⟩, .int .i64 0, .slice none 0 0] 40) = w1 at *
  refine (HTO.out w1).mono ?_
  rintro e w2 ⟨rfl, hb⟩
  have HS2 := Lib.hid (HS1.out.on hb)
  have HW := Lib.hid (HS2.out.store (q := ⟨0, ⟨#[]⟩, 0, none, 0, 0⟩) (IsT.leaf _ _ 0 ⟨#[]⟩ 0))
  obtain ⟨d0, d1, d2, d3, f0⟩ := HS2.out.cells
  clear hb HTO HS1
  go_wp2_with fail
  obtain ⟨hcell, hist, hbe⟩ := HW.out
  exact bodyPost_ret (results_rtype rfl rfl (load_node _ _ ⟨0, ⟨#[]⟩, 0, none, 0, 0⟩ hcell)) rfl ⟨rfl, hbe⟩
 have HTO := Lib.hid (fun w => refTokens_any s w hs)
 have hz : tokList s = Lx.toks s := by unfold tokList; rw [if_pos (by omega)]
 have hTk : Toks (tokList s) := by
  rcases tokList_toks s with h | h
  ·exfalso
   have h2 := Lx.Scan.ends (Lx.toks_scan s)
   rw [← hz, h] at h2
   obtain ⟨D, e, h3, _⟩ := h2
   exact absurd h3 (by simp)
  ·exact h
 have hKn : Known (tokList s) := by rw [hz]; exact scan_known (Lx.toks_scan s)
 have hQm : EqMark (tokList s) := by rw [hz]; exact scan_eqMark (Lx.toks_scan s)
 unfold typOf
 obtain ⟨L, hL⟩ : ∃ L, tokList s = L := ⟨_, rfl⟩
 have HTO2 : Hid (∀ w, Calls Tryz.prog 32 #[.string s] w fun e w' => ∃ v, e = .returned v ∧ SlIs tokEnc w' v L ∧ Below w.heap.size w w') := by rw [← hL]; exact HTO.out
 rw [hL] at hTk hKn hQm ⊢
 have HTK := Lib.hid hTk
 have HKN := Lib.hid hKn
 have HQM := Lib.hid hQm
 generalize hXX : wholeV L (typT (core L)) = X
 have HX := Lib.hid hXX
 clear hXX hTk hKn hQm hL hz HTO hbig
 have hpos : 0 < L.length := by
  obtain ⟨D, e, h3, _⟩ := HTK.out.ends
  rw [h3]; simp
 go_enter Tryz.func19, Tryz.ntmps19
 go_wp2_with fail
 generalize w.alloc (.cells #[.int .i64 0, .string ⟨#[]⟩, .int .i64 0, .slice none 0 0] 40) = w1 at *
 refine (HTO2.out w1).mono ?_
 rintro e w2 ⟨v, rfl, hsl, hb⟩
 obtain ⟨tp, cap, rfl, hlc, hcm, hlies⟩ := hsl
 have HS2 := Lib.hid (HS1.out.on hb)
 have HSL : Hid (SlIs tokEnc w2 (.slice tp L.length cap) L) := ⟨tp, cap, rfl, hlc, hcm, hlies⟩
 obtain ⟨b, off, rfl, hcl⟩ := hlies hpos
 have hbl : b < w2.heap.size := World.block_lt_of_cell? w2 _ (hcl.elem 0 hpos 0 (by decide) _ rfl)
 have HBL := Lib.hid hbl
 clear hb hlc hcm hcl hbl hlies HTO2 HS1
 go_wp2_with fail
 have hbx := boxB w2 (.cells #[.slice (some ⟨b, off, none⟩) L.length cap, .int .i64 0, .int .i64 (-1), .bool false] 71)
 have hsz := lt_heap HS2.out.z
 obtain ⟨r, hr⟩ : ∃ r : Rdr, r = ⟨w2.heap.size, some ⟨b, off, none⟩, cap, L⟩ := ⟨_, rfl⟩
 have hrL : r.L = L := by rw [hr]
 have hrb : r.b = w2.heap.size := by rw [hr]
 have HR : Hid (RrAt r (.ok 0) false (w2.alloc (.cells #[.slice (some ⟨b, off, none⟩) L.length cap, .int .i64 0, .int .i64 (-1), .bool false] 71))) := by
  rw [hr]
  exact (⟨heap_alloc_new w2 _, HSL.out.below hbx, fun b' o e => by cases e; exact HBL.out, hpos, HTK.out.few, by decide⟩ : RrIn ⟨w2.heap.size, some ⟨b, off, none⟩, cap, L⟩ 0 (-1) false (w2.alloc (.cells #[.slice (some ⟨b, off, none⟩) L.length cap, .int .i64 0, .int .i64 (-1), .bool false] 71)))
 have HS3 := Lib.hid (HS2.out.on hbx)
 have HRB : Hid (w.heap.size < r.b) := by show _ < _; omega
 have HPE : Hid (typL r false 60 = typT (core L)) := by show typT r = _; rw [typT_core, hrL]
 have HLT : Hid (w2.heap.size < (w2.alloc (.cells #[.slice (some ⟨b, off, none⟩) L.length cap, .int .i64 0, .int .i64 (-1), .bool false] 71)).heap.size) := lt_heap (heap_alloc_new w2 _)
 rw [← hrb]
 rw [← hrb] at HLT
 clear hr hsz hrb hbx HSL HBL HS2
 generalize w2.alloc (.cells #[.slice (some ⟨b, off, none⟩) L.length cap, .int .i64 0, .int .i64 (-1), .bool false] 71) = w3 at *
 rw [← hrL] at HTK HKN HQM
 refine (rType_any r false HTK.out.endAt HKN.out (.ok 0) w3 HR.out).mono ?_
 rintro e w4 ⟨q, t, rfl, ht, hrr, hm, hg⟩
 rw [HPE.out] at hrr hg
 have HS4 := Lib.hid (HS3.out.onMv hm HRB.out)
 have hb4 := boxB w4 (.cells #[.int .i64 q.kind, .string q.text, .int .i64 q.at_, .slice q.p q.n q.cap] 40)
 have HS5 := Lib.hid (HS4.out.on hb4)
 have HR5 := Lib.hid (hrr.below hb4)
 have HT5 : Hid (IsT (fun b => r.b < b) (w4.alloc (.cells #[.int .i64 q.kind, .string q.text, .int .i64 q.at_, .slice q.p q.n q.cap] 40)) q t) := (ht.later hb4).mono (fun b hb => by have := HLT.out; omega)
 have HQ5 : Hid ((w4.alloc (.cells #[.int .i64 q.kind, .string q.text, .int .i64 q.at_, .slice q.p q.n q.cap] 40)).heap[w4.heap.size]? = some (.cells (ndC q) 40 (0, 0))) := heap_alloc_new w4 _
 have HG := Lib.hid hg
 have HRG : Hid (r.b < w4.heap.size) := by
  obtain ⟨_, _, hin⟩ := hrr.in2
  exact lt_heap hin.cells
 clear ht hrr hm hg hb4 HS3 HS4 HR HLT HPE
 have HQL : Hid (w4.heap.size < (w4.alloc (.cells #[.int .i64 q.kind, .string q.text, .int .i64 q.at_, .slice q.p q.n q.cap] 40)).heap.size) := lt_heap HQ5.out
 unfold ndC
 go_wp2_with fail
 obtain ⟨g, hgz⟩ : ∃ g, w4.heap.size = g := ⟨_, rfl⟩
 rw [hgz] at HQ5 HQL HRG ⊢
 clear hgz
 generalize w4.alloc (.cells #[.int .i64 q.kind, .string q.text, .int .i64 q.at_, .slice q.p q.n q.cap] 40) = w5 at *
 refine (ok_r r _ false w5 HR5.out).mono ?_
 rintro e w6 ⟨bb, rfl, rfl, hbb⟩
 cases hx : typT (core L) 0 with
 | error k =>
  have ha : after (typT (core L)) (.ok 0) = .error k := after_err hx
  rcases hbb with ⟨_, i, hi⟩ | ⟨rfl, _⟩
  ·rw [ha] at hi; cases hi
  have hV : wholeV L (typT (core L)) = none := by unfold wholeV; rw [if_neg (by omega), hx]
  have hX := HX.out
  rw [hV] at hX
  subst hX
  have HW := Lib.hid (HS5.out.store (q := ⟨0, ⟨#[]⟩, 0, none, 0, 0⟩) (IsT.leaf _ _ 0 ⟨#[]⟩ 0))
  obtain ⟨d0, d1, d2, d3, f0⟩ := HS5.out.cells
  clear ha hx hV HR5 HG HT5 HQ5
  go_wp2_with fail
  obtain ⟨hcell, hist, hbe⟩ := HW.out
  exact bodyPost_ret (results_rtype rfl rfl (load_node _ _ ⟨0, ⟨#[]⟩, 0, none, 0, 0⟩ hcell)) rfl ⟨rfl, hbe⟩
 | ok z =>
  obtain ⟨t', j⟩ := z
  have ha : after (typT (core L)) (.ok 0) = .ok j := after_ok hx
  have ht' : t = t' := HG.out 0 _ _ rfl hx
  subst ht'
  rcases hbb with ⟨rfl, _⟩ | ⟨_, i, hi⟩
  rotate_left
  ·rw [ha] at hi; cases hi
  have hR5 := HR5.out
  rw [ha] at hR5
  have HR6 := Lib.hid hR5
  have HX2 := Lib.hid hx
  clear hR5 ha hx HR5 HG
  go_wp2_with fail
  refine (next_r r (.ok j) false _ HR6.out).mono ?_
  rintro e w7 ⟨⟨kd, tx, ax⟩, rfl, hrr, hm, hgx⟩
  have hk := hgx j _ _ rfl rfl
  have HKD : Hid (kd = (L.getD j tok0).kind) := by show kd = _; rw [← hrL, ← hk]
  have HS7 := Lib.hid (HS5.out.onMv hm HRB.out)
  have HT7 : Hid (IsT (fun b => w.heap.size < b) w7 q t) := (HT5.out.mvG hm (fun b hb => by omega)).mono (fun b hb => by have := HRB.out; omega)
  have HQ7 : Hid (w7.heap[g]? = some (.cells (ndC q) 40 (0, 0))) := by
   show w7.heap[g]? = _
   rw [hm.block HQL.out (by have := HRG.out; omega)]
   exact HQ5.out
  clear hk hgx hm hrr HT5 HS5 HQ5
  obtain ⟨d0, d1, d2, d3, f0⟩ := HS7.out.cells
  have b0 : w7.cell? ⟨g, 0, none⟩ = some (.int .i64 q.kind) := by rw [Lib.cell_of_heap HQ7.out]; rfl
  have b1 : w7.cell? ⟨g, 1, none⟩ = some (.string q.text) := by rw [Lib.cell_of_heap HQ7.out]; rfl
  have b2 : w7.cell? ⟨g, 2, none⟩ = some (.int .i64 q.at_) := by rw [Lib.cell_of_heap HQ7.out]; rfl
  have b3 : w7.cell? ⟨g, 3, none⟩ = some (.slice q.p q.n q.cap) := by rw [Lib.cell_of_heap HQ7.out]; rfl
  unfold tkC
  dsimp only
  by_cases hk0 : kd = 0
  ·have hV : wholeV L (typT (core L)) = some t := by unfold wholeV; rw [if_neg (by omega), HX2.out]; show (if (L.getD j tok0).kind = 0 then some t else none) = _; rw [← HKD.out, if_pos hk0]
   have hX := HX.out
   rw [hV] at hX
   subst hX
   have HW := Lib.hid (HS7.out.store HT7.out)
   clear HKD
   subst hk0
   go_wp2_with fail
   obtain ⟨hcell, hist, hbe⟩ := HW.out
   exact bodyPost_ret (results_rtype rfl rfl (load_node _ _ q hcell)) rfl ⟨q, rfl, hist, hbe⟩
  ·have hV : wholeV L (typT (core L)) = none := by unfold wholeV; rw [if_neg (by omega), HX2.out]; show (if (L.getD j tok0).kind = 0 then some t else none) = _; rw [← HKD.out, if_neg hk0]
   have hX := HX.out
   rw [hV] at hX
   subst hX
   have hkb : (kd == 0) = false := beq_eq_false_iff_ne.2 hk0
   have HW := Lib.hid (HS7.out.store (q := ⟨0, ⟨#[]⟩, 0, none, 0, 0⟩) (IsT.leaf _ _ 0 ⟨#[]⟩ 0))
   clear HKD
   go_wp2_with fail
   obtain ⟨hcell, hist, hbe⟩ := HW.out
   exact bodyPost_ret (results_rtype rfl rfl (load_node _ _ ⟨0, ⟨#[]⟩, 0, none, 0, 0⟩ hcell)) rfl ⟨rfl, hbe⟩
end Go.Proofs.YtgcaeimlmkkeoaaGreat
