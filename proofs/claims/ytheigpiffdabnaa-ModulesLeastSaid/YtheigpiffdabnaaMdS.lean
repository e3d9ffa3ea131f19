/-
  CONTRACTS: modules.spread: all faces take what those give that they re-export.
-/
import Derived.Test.YtheigpiffdabnaaMdV
namespace Go.Proofs.Ytheigpiffdabnaa.Mds
open Go Go.RowKit Go.Maps
set_option linter.unusedVariables false
set_option linter.unusedSimpArgs false
set_option maxRecDepth 1000000

theorem univ_len : ∀ (l : List Fc), (∀ f ∈ l, f.own.length ≤ 100) → (univ l).length ≤ 100 * l.length
  | [], _ => by simp [univ]
  | f :: l, h => by
    have h1 := univ_len l (fun g hg => h g (by simp [hg]))
    have h2 := h f (by simp)
    have h3 : (ownB f).length ≤ f.own.length := by unfold ownB; rw [bindsOf_len]; exact visL_len _
    unfold univ at h1 ⊢
    rw [List.flatMap_cons, List.length_append, List.length_cons]
    omega
theorem univ_fit {l : List Fc} (h : FcsFit l) : ∀ b ∈ univ l, b.1.size ≤ maxLen ∧ b.2.size ≤ maxLen := fun b hb => by
  obtain ⟨f, hf, hb⟩ := List.mem_flatMap.1 hb
  obtain ⟨s, hs, rfl⟩ := List.mem_map.1 hb
  have h1 := (h.2 f hf).own s (List.mem_filter.1 hs).1
  have h2 := (h.2 f hf).mo
  refine ⟨by unfold maxLen; simp only; omega, ?_⟩
  unfold defB colons maxLen
  rw [ByteArray.size_append, ByteArray.size_append]
  show f.mo.size + 2 + s.size ≤ _
  omega
theorem gvElem {w : World} {b off n i : Nat} {go gb : Nat → Nat} (h : CellsAt w b off (encGv.all ((List.range n).map fun i => (go i, gb i)))) (hi : i < n) : w.cell? ⟨b, off + i * 2, none⟩ = some (.map (some (go i))) ∧ w.cell? ⟨b, off + i * 2 + 1, none⟩ = some (.map (some (gb i))) := by
  have hl : i < ((List.range n).map fun i => (go i, gb i)).length := by simpa using hi
  have e2 : encGv.size = 2 := rfl
  have c0 := h.elem i hl 0 (by decide) _ rfl
  have c1 := h.elem i hl 1 (by decide) _ rfl
  rw [e2] at c0 c1
  simp only [List.getElem_map, List.getElem_range] at c0 c1
  exact ⟨by simpa using c0, c1⟩
theorem walk_row {e : TypeId} {w : World} {B size k : Nat} {v : Value} {xs : List Value} (h : w.ownsRow B e size v k xs) {r : Nat} (hm : ∃ o : Obj, w.heap[r]? = some o ∧ o.isWalk = true) : v.ownBlock ≠ some r := by
  rcases h.2 with ⟨rfl, _⟩ | ⟨g, cap, cur, rfl, hb, hg, -⟩
  · intro q; cases q
  · intro q
    injection q with q
    subst q
    obtain ⟨o, ho, hw⟩ := hm
    rw [hg] at ho
    cases ho
    cases hw
/-- offers under way -/
structure Of1 (w wx : World) (v : Value) (O : List (Nat × Bd)) : Prop where
  own : OwnL encOf ofT wx w.heap.size v O
  below : Below w.heap.size w wx

/-- the first half of spread: all that faces have of their own is offered -/
structure OfAll (n : Nat) (G : Nat → List Bd) (j : Nat) (O : List (Nat × Bd)) : Prop where
  mem : ∀ o, o ∈ O ↔ o.1 < j ∧ o.2 ∈ G o.1
  few : O.length ≤ 100 * j
theorem OfAll.step {n : Nat} {G : Nat → List Bd} {j : Nat} {O : List (Nat × Bd)} (h : OfAll n G j O) {ss : List Bd} (hs : ∀ x, x ∈ ss ↔ x ∈ G j) (hl : ss.length ≤ 100) : OfAll n G (j + 1) (O ++ ss.map fun b => (j, b)) := by
  refine ⟨fun o => ?_, by rw [List.length_append, List.length_map]; have := h.few; omega⟩
  rw [List.mem_append, h.mem, List.mem_map]
  constructor
  · rintro (⟨h1, h2⟩ | ⟨b, hb, rfl⟩)
    · exact ⟨by omega, h2⟩
    · exact ⟨by simp, (hs b).1 hb⟩
  · rintro ⟨h1, h2⟩
    by_cases e : o.1 < j
    · exact .inl ⟨e, h2⟩
    · have e2 : o.1 = j := by omega
      refine .inr ⟨o.2, (hs _).2 (by rw [← e2]; exact h2), ?_⟩
      rw [← e2]

theorem spr_start {l : List Fc} {n : Nat} {tk : Nat → List Nat} {G0 : Nat → List Bd} {O : List (Nat × Bd)} (hn : n = l.length) (hG0 : ∀ (i : Nat) (f : Fc), l[i]? = some f → (G0 i).Nodup ∧ ∀ b, b ∈ G0 i ↔ b ∈ ownB f) (hout : ∀ i, n ≤ i → G0 i = []) (hnd : ∀ i, (G0 i).Nodup) (h : OfAll n G0 n O) : Spr l tk G0 O noEx := by
  have key : ∀ i b, b ∈ G0 i → ∃ f, l[i]? = some f ∧ b ∈ ownB f ∧ i < n := fun i b hb => by
    by_cases q : i < l.length
    · have hl : l[i]? = some l[i] := List.getElem?_eq_getElem q
      exact ⟨l[i], hl, ((hG0 i l[i] hl).2 b).1 hb, by omega⟩
    · rw [hout i (by omega)] at hb; cases hb
  refine ⟨fun i b hb => ?_, fun o ho => ((h.mem o).1 ho).2, fun i f hf b hb => ((hG0 i f hf).2 b).2 hb, fun i b hb => ?_, hnd⟩
  · obtain ⟨f, h1, h2, -⟩ := key i b hb
    exact .own h1 h2
  · obtain ⟨f, h1, h2, h3⟩ := key i b hb
    exact .inl ((h.mem (i, b)).2 ⟨h3, hb⟩)

set_option maxHeartbeats 8000000 in
theorem spread_any (l : List Fc) (n : Nat) (hn : n = l.length) (hfit : FcsFit l) (tk : Nat → List Nat) (htk : Takers l tk) (hfew : ∀ i, (tk i).length ≤ 10000) (go gb : Nat → Nat) (ow : Nat → List ByteArray) (G0 : Nat → List Bd) (pa : Option Addr) (ca ob : Nat) (rows : Nat → Sv) (B : Nat) (w : World)
    (hA : SlIs encGv w (.slice pa n ca) ((List.range n).map fun i => (go i, gb i))) (hT : TkAt B w ob n rows tk) (hG : GvAll w n go gb ow G0) (how : ∀ (i : Nat) (f : Fc), l[i]? = some f → ∀ x, x ∈ ow i ↔ x ∈ visL f.own)
    (hG0 : ∀ (i : Nat) (f : Fc), l[i]? = some f → (G0 i).Nodup ∧ ∀ b, b ∈ G0 i ↔ b ∈ ownB f) (hout : ∀ i, n ≤ i → G0 i = []) :
    Calls Try.prog 46 #[.slice pa n ca, .slice (some ⟨ob, 0, none⟩) n n] w fun e w' => e = .returned (.tuple #[]) ∧ ∃ G, (∀ i b, b ∈ G i ↔ Giv l i b) ∧ (∀ i, (G i).Nodup) ∧ GvAll w' n go gb ow G ∧ Tn (gbS n gb) w w' := by
  have hnb : (n : Int) ≤ 100 := by have := hfit.1; omega
  have hul := univ_len l (fun f hf => (hfit.2 f hf).owns)
  have HUF := Lib.hid (univ_fit hfit)
  have HU : Hid ((univ l).length ≤ 10000) := by have := hfit.1; unfold Hid; omega
  have HG0L : Hid (∀ i, (G0 i).length ≤ 100) := fun i => by
    by_cases q : i < l.length
    · obtain ⟨h1, h2⟩ := hG0 i l[i] (List.getElem?_eq_getElem q)
      have h3 := List.Nodup.length_le_of_subset h1 (fun b hb => (h2 b).1 hb)
      have h4 : (ownB l[i]).length ≤ (l[i]).own.length := by unfold ownB; rw [bindsOf_len]; exact visL_len _
      have h5 := (hfit.2 l[i] (List.getElem_mem q)).owns
      omega
    · rw [hout i (by omega)]; simp
  have HG0U : Hid (∀ i, ∀ b ∈ G0 i, b ∈ univ l) := fun i b hb => by
    by_cases q : i < l.length
    · obtain ⟨h1, h2⟩ := hG0 i l[i] (List.getElem?_eq_getElem q)
      exact List.mem_flatMap.2 ⟨l[i], List.getElem_mem q, (h2 b).1 hb⟩
    · rw [hout i (by omega)] at hb; cases hb
  have HND : Hid (∀ i, (G0 i).Nodup) := fun i => by
    by_cases q : i < l.length
    · exact (hG0 i l[i] (List.getElem?_eq_getElem q)).1
    · rw [hout i (by omega)]; exact List.nodup_nil
  have HN := Lib.hid hn
  have HFIT := Lib.hid hfit
  have HTK := Lib.hid htk
  have HFEW := Lib.hid hfew
  have HA := Lib.hid hA
  have HT := Lib.hid hT
  have HG := Lib.hid hG
  have HOW := Lib.hid how
  have HG0 := Lib.hid hG0
  have HOUT := Lib.hid hout
  clear hn hfit htk hfew hA hT hG how hG0 hul hout
  obtain ⟨i1, hi1, hy0, hy1, hy2⟩ := info_parts infoO
  go_enter Try.func46, Try.ntmps46
  go_wp2_with fail
  go_loopw [4, 13] (fun v i wr => ∃ (j : Nat) (O : List (Nat × Bd)), j ≤ n ∧ i = .int .i64 j ∧ Hid (Of1 w wr v O) ∧ Hid (OfAll n G0 j O)) (fun _ i _ => n - (intOf i).toNat)
  case atStart => exact ⟨0, [], Nat.zero_le _, rfl, ⟨OwnL.isNil _ _ _ _, Below.refl _ _⟩, ⟨fun o => ⟨fun h => (by cases h), fun h => by omega⟩, by simp⟩⟩
  case round =>
    obtain ⟨j, O, hj, rfl, HO, HOA⟩ := hrel
    obtain ⟨wB, rfl⟩ : ∃ x, x = wr := ⟨wr, rfl⟩
    by_cases hlt : j < n
    · obtain ⟨b, off, rfl, hca⟩ := (HA.out.lies).2.2.2 (by omega)
      obtain ⟨q0, q1⟩ := gvElem (hca.below HO.out.below) hlt
      have HC := Lib.hid (cellsAt_alloc wB [.map (some (go j)), .map (some (gb j))] gvT)
      obtain ⟨x0, x1⟩ := bd2 HC.out
      have hbB : Below w.heap.size w (wB.alloc (.cells #[.map (some (go j)), .map (some (gb j))] gvT)) := HO.out.below.trans ((below_box wB _).mono HO.out.below.size)
      have HM := Lib.hid ((HG.out.gv j hlt).bs.below hbB (HG.out.gv j hlt).bs.lt)
      have HO1 : Hid (Of1 w (wB.alloc (.cells #[.map (some (go j)), .map (some (gb j))] gvT)) u4 O) := ⟨OwnL.alloc HO.out.own _, hbB⟩
      clear hca HC hbB HO
      have HRB : Hid (∃ r, r = (wB.alloc (.cells #[.map (some (go j)), .map (some (gb j))] gvT)).heap.size) := ⟨_, rfl⟩
      go_wp2_with (first
        | (at_range; refine wpList_range (K := bdKeys) (val := tt) _ rfl _ 81 4 rfl Try.underlying81 rfl HM.out ?_; intro w0 hrg0 hg0 hs0)
        | go_in)
      have HO2 : Hid (Of1 w w0 u4 O) := ⟨World.ownsRow.kept HO1.out.own hg0 (by
        rcases HO1.out.own.2 with ⟨rfl, _⟩ | ⟨g, cap, cur, rfl, _⟩
        · exact .inl rfl
        · exact .inr (by simp [Value.ownBlock])), HO1.out.below.grown hg0 HO1.out.below.size (fun k e => by cases e)⟩
      have HR0 := Lib.hid hrg0
      have HC0 := Lib.hid (Came.start (G0 j))
      have HRS : Hid (w.heap.size ≤ (wB.alloc (.cells #[.map (some (go j)), .map (some (gb j))] gvT)).heap.size) := HO1.out.below.size
      clear hrg0 hg0 hs0 HO1 HM x0 x1 q0 q1 HRB
      generalize (wB.alloc (.cells #[.map (some (go j)), .map (some (gb j))] gvT)).heap.size = r at *
      go_frame
      go_loopw [4] (fun v wx => ∃ (left : Bd → Bool) (cnt : Nat) (ss : List Bd), Hid (RangeAt bdKeys tt wx (gb j) r (G0 j).length (setF (G0 j)) left cnt) ∧ Hid (Came (G0 j) left cnt ss) ∧ Hid (Of1 w wx v (O ++ ss.map fun b => (j, b)))) (fun _ wx => wx.rangeLeft (gb j) r)
      case atStart => exact ⟨_, _, [], HR0, HC0, by simpa using HO2⟩
      case round =>
        clear HR0 HC0 HO2
        obtain ⟨left, cnt, ss, HR, HC, HO⟩ := hrel
        have HSL : Hid (ss.length ≤ 100) := by
          have h1 := List.Nodup.length_le_of_subset HC.out.nod (fun y hy => ((HC.out.mem y).1 hy).1)
          have h2 := HG0L.out j
          unfold Hid; omega
        go_wp2_with (first
          | (at_next; refine wpList_next (K := bdKeys) (val := tt) _ rfl _ rfl rfl HR.out (fun x hx => by rw [setF_mem (HC.out.sup x hx)]; rfl) ?_ ?_)
          | go_in)
        · intro hc0 hl0
          have HDN := Lib.hid (HC.out.done (fun x hx => hl0 x.1 x.2 (HUF.out x (HG0U.out j x hx))))
          have HOS := Lib.hid (HOA.out.step HDN.out HSL.out)
          clear hl0 HR HC HOA
          go_wp2_with fail
          go_roundw
          case rel => exact ⟨j + 1, _, by omega, by go_num, HO, HOS⟩
          case measure => simp [intOf]; omega
        · intro x1 x2 c w2 cnt2 hkx hlx hfx hrg2 hlt2 hg2 hs2 hen
          have hen' : (Instr.entry (.pointer (some ⟨r, 0, none⟩))).run Try.prog w2 = .ok (.tuple #[.agg #[.string x1, .string x2], .bool true]) w2 := hen
          have HOW2 : Hid (OwnL encOf ofT w2 w.heap.size u4 (O ++ ss.map fun b => (j, b))) := World.ownsRow.kept HO.out.own hg2 (.inr (walk_row HO.out.own (RangeAt.walk HR.out)))
          have HB2 : Hid (Below w.heap.size w w2) := HO.out.below.grown hg2 HO.out.below.size (fun k e => by cases e; exact HRS.out)
          have HR2 := Lib.hid hrg2
          have HLT2 := Lib.hid hlt2
          have HCN := Lib.hid (HC.out.next (cnt' := cnt2) hlx)
          have HRL := Lib.hid (HR.out.left_eq)
          obtain ⟨c0, c1⟩ := bd2 (cellsAt_alloc w2 [.string x1, .string x2] bdT)
          have HLIT := Lib.hid (cellsAt_alloc (w2.alloc (.cells #[.string x1, .string x2] bdT)) [.int .i64 j, .string x1, .string x2] ofT)
          rw [World.size_alloc] at HLIT
          have HOW4 := Lib.hid (OwnL.alloc (OwnL.alloc HOW2.out (.cells #[.string x1, .string x2] bdT)) (.cells #[.int .i64 j, .string x1, .string x2] ofT))
          have HR4 := Lib.hid ((RangeAt.kept HR2.out (World.grownBy_alloc w2 (.cells #[.string x1, .string x2] bdT) none) (by simp) (by simp)).kept (World.grownBy_alloc _ (.cells #[.int .i64 j, .string x1, .string x2] ofT) none) (by simp) (by simp))
          have HB4 : Hid (Below w.heap.size w ((w2.alloc (.cells #[.string x1, .string x2] bdT)).alloc (.cells #[.int .i64 j, .string x1, .string x2] ofT))) := (HB2.out.alloc HB2.out.size _).alloc (by have := HB2.out.size; simp; omega) _
          have hlen : (O ++ ss.map fun b => (j, b)).length + 1 ≤ 20000 := by have h1 := HOA.out.few; have h2 := HSL.out; rw [List.length_append, List.length_map]; omega
          clear hrg2 hlt2 hg2 hs2 hen hkx hlx hfx HR HC HO HOW2 HB2 HR2
          generalize hQ : (O ++ ss.map fun b => (j, b)) = Q at *
          have HQ := Lib.hid hQ
          clear hQ
          go_wp2_with (first
            | (at_builtin; refine wpList_append_own_at _ rfl (.tmp 25) (.tmp 29) 101 rfl w.heap.size ofT i1 (.agg #[.int .i64 0, .string ⟨#[]⟩, .string ⟨#[]⟩]) 3 40 Try.underlying101 hi1 hy0 hy1 hy2 ?_ ?_ u4 Q.length (encOf.all Q) ?_ ?_ ⟨w2.heap.size + 1, 0, none⟩ 1 1 [.int .i64 j, .string x1, .string x2] ?_ ?_ ?_ ?_ ?_ ?_ ?_ ?_)
            | go_in)
          · rfl
          · decide
          · rfl
          · exact HOW4.out
          · rfl
          · rfl
          · exact fun j u hu => by rw [add_lit]; exact HLIT.out j u hu
          · exact fun u hu => by simp at hu; rcases hu with rfl | rfl | rfl <;> rfl
          · unfold maxLen; omega
          · omega
          · exact HB4.out.size
          · intro v' w5 hown5 hgrow5 _ hat5
            have hown6 : OwnL encOf ofT w5 w.heap.size v' (O ++ (ss ++ [((x1, x2) : Bd)]).map fun b => (j, b)) := by
              rw [List.map_append, ← List.append_assoc, HQ.out]
              unfold OwnL
              rw [List.length_append, encOf.all_append]
              exact hown5
            have HR5 := Lib.hid (HR4.out.kept hgrow5 (map_row HOW4.out (MapAt.isMap HR4.out.map)) (fun e => walk_row HOW4.out (RangeAt.walk HR4.out) e.symm))
            have HO5 : Hid (Of1 w w5 v' (O ++ (ss ++ [((x1, x2) : Bd)]).map fun b => (j, b))) := ⟨hown6, HB4.out.grown hgrow5 HB4.out.size (fun k e => (World.ownsRow.lt HOW4.out k e).1)⟩
            clear hown5 hown6 hgrow5 hat5 HOW4 HR4 HB4 HLIT c0 c1
            go_wp2_with fail
            go_roundw
            case rel => exact ⟨_, cnt2, ss ++ [(x1, x2)], HR5, HCN, HO5⟩
            case measure => rw [HR5.out.left_eq, HRL.out]; exact HLT2.out
    · obtain rfl : j = n := by omega
      have HS0 : Hid (Sp3 l j tk go gb ow w wB u4 O G0 noEx (2 * (j * 10000) + O.length)) := ⟨spr_start HN.out HG0.out HOUT.out HND.out HOA.out, HO.out.own, ⟨fun i hi => (HG.out.gv i hi).below HO.out.below (HG.out.gv i hi).own.lt (HG.out.gv i hi).bs.lt, HG.out.dif, HG.out.far⟩, Tn.of_below HO.out.below, by omega⟩
      have hOl := HOA.out.few
      have HM0 : Hid (2 * (j * 10000) + O.length ≤ 3000000) := by unfold Hid; omega
      clear HO HOA hOl HG0 HOUT HND HG0L HG0U
      go_wp2_with fail
      go_loopw [4] (fun v wx => ∃ (O : List (Nat × Bd)) (G : Nat → List Bd), Hid (Sp3 l j tk go gb ow w wx v O G noEx 3000000)) (fun v wx => 2 * (j * 10000 - sumL Try.prog wx gb j) + slen v)
      case atStart => exact ⟨O, G0, ⟨HS0.out.spr, HS0.out.own, HS0.out.gv, HS0.out.tn, by have := HS0.out.m; have := HM0.out; omega⟩⟩
      case round =>
        clear HS0 HM0
        obtain ⟨O, G, HS⟩ := hrel
        obtain ⟨wC, rfl⟩ : ∃ x, x = wr := ⟨wr, rfl⟩
        rcases List.eq_nil_or_concat O with rfl | ⟨O1, ⟨f, x1, x2⟩, hO⟩
        · obtain ⟨pv, cv, rfl, -⟩ := own_ofs HS.out.own
          go_wp2_with fail
          go_end0
          exact ⟨rfl, G, fun i b => HS.out.spr.done HTK.out i b, HS.out.spr.nod, HS.out.gv, HS.out.tn⟩
        · rw [List.concat_eq_append] at hO
          subst hO
          obtain ⟨pv, cv, rfl, hpv⟩ := own_ofs HS.out.own
          obtain ⟨g, rfl, hcg, hgB⟩ := hpv (by simp)
          obtain ⟨y0, y1, y2⟩ := ofAt hcg O1.length (by simp) (f, x1, x2) (by simp)
          have hcv := (HS.out.own.sl.lies).2.1
          have HPOP := Lib.hid (own_pop HS.out.own)
          have HSP := Lib.hid HS.out.spr.pop
          have HBG : Hid ((x1, x2) ∈ G f) := HS.out.spr.off (f, x1, x2) (by simp)
          have hfl : f < l.length := (HS.out.spr.snd f _ HBG.out).lt
          have hfj : f < j := by have := HN.out; omega
          have HFX : Hid (x1.size ≤ maxLen ∧ x2.size ≤ maxLen) := HUF.out (x1, x2) (HS.out.spr.snd f _ HBG.out).univ
          have HGL : Hid (g < wC.heap.size) := World.block_lt_of_cell? wC _ y0
          have HMM := Lib.hid HS.out.m
          have HSL := Lib.hid (HS.out.sumle HU.out)
          have HSUM := Lib.hid (HS.out.gv.sum j (Nat.le_refl _))
          have hk1 : (O1 ++ [(f, x1, x2)]).length = O1.length + 1 := by simp
          rw [hk1] at hcv HMM ⊢
          have hO1 : (O1.length : Int) + 1 ≤ 3000000 := by have := HMM.out; omega
          have hwr : IntKind.i64.wrap ((O1.length : Int) + 1 - 1) = (O1.length : Int) := by rw [IntWalk.i64_in _ (by omega)]; omega
          have HC := Lib.hid (cellsAt_alloc wC [.int .i64 f, .string x1, .string x2] ofT)
          have HBX := Lib.hid (below_box wC (.cells #[.int .i64 f, .string x1, .string x2] ofT))
          have HS1 : Hid (Sp3 l j tk go gb ow w (wC.alloc (.cells #[.int .i64 f, .string x1, .string x2] ofT)) (.slice (some ⟨g, 0, none⟩) O1.length cv) O1 G (fun i c k => i = f ∧ c = (x1, x2) ∧ k ∈ tk f) (2 * (j * 10000 - sumG G j) + O1.length)) :=
            ⟨HSP.out, HPOP.out.below HBX.out, HS.out.gv.below HBX.out, HS.out.tn.trans (Tn.of_below HBX.out), Nat.le_refl _⟩
          have HTX := Lib.hid (HT.out.turned HS1.out.tn (fun k hk => HG.out.maps k hk))
          obtain ⟨z0, -⟩ := HTX.out.slot hfj
          have HRI := Lib.hid (HTX.out.own f hfj)
          have HKF := Lib.hid (HFEW.out f)
          obtain ⟨⟨pr, nr, cr⟩, hrw⟩ : ∃ s, rows f = s := ⟨_, rfl⟩
          rw [hrw] at z0 HRI
          have hnr : nr = (tk f).length := by
            obtain ⟨s, hs1, hs2⟩ := own_sv HRI.out
            unfold svV at hs1
            injection hs1 with e1 e2 e3
            rw [← hs2, ← e2]
          have HNR := Lib.hid hnr
          have HRW := Lib.hid hrw
          have hnrb : (nr : Int) ≤ 10000 := by have := HKF.out; omega
          obtain ⟨x0, x3, x4⟩ := fc3 HC.out
          simp only [svV] at z0
          clear hcg hgB HS HPOP HSP hfl hk1 hrw hnr HTX
          have hfji : (f : Int) < j := by omega
          have hpos : (0 : Int) < (O1.length : Int) + 1 := by omega
          have hlt9 : O1.length < O1.length + 1 := by omega
          have hcv2 : O1.length ≤ cv := by omega
          simp only [Nat.zero_add] at y0 y1 y2
          go_wp2_with fail
          have HYB : Hid (wC.heap.size < (wC.alloc (.cells #[.int .i64 f, .string x1, .string x2] ofT)).heap.size) := by unfold Hid; simp
          have HFR0 : Hid (∀ k, (Value.slice (some ⟨g, 0, none⟩) O1.length cv).ownBlock = some k → k ≠ wC.heap.size) := fun k e => by
            have h1 := HGL.out
            injection e with e
            simp only at e
            omega
          clear x0 x3 x4 y0 y1 y2 z0 HRI HBX
          generalize hwy : wC.alloc (.cells #[.int .i64 f, .string x1, .string x2] ofT) = wy at *
          have HWB : Hid (wC.heap.size ≤ wy.heap.size) := by have := HYB.out; unfold Hid; omega
          clear hwy
          generalize hyb : wC.heap.size = yb at *
          clear hyb
          go_loopw [4, 52] (fun v i wz => ∃ (q : Nat) (O : List (Nat × Bd)) (G' : Nat → List Bd), q ≤ nr ∧ i = .int .i64 q ∧ Hid (Sp3 l j tk go gb ow w wz v O G' (fun i c k => i = f ∧ c = (x1, x2) ∧ k ∈ (tk f).drop q) (2 * (j * 10000 - sumG G j) + O1.length)) ∧ Hid (CellsAt wz yb 0 [.int .i64 f, .string x1, .string x2]) ∧ Hid ((x1, x2) ∈ G' f) ∧ Hid (∀ k, v.ownBlock = some k → k ≠ yb) ∧ Hid (yb < wz.heap.size)) (fun _ i _ => nr - (intOf i).toNat)
          case atStart => exact ⟨0, O1, G, Nat.zero_le _, rfl, HS1, HC, HBG, HFR0, HYB⟩
          case round =>
            clear HS1 HC HFR0 HYB
            obtain ⟨q, O, G', hq, rfl, HS, HCY, HBF, HFR, HYB⟩ := hrel
            obtain ⟨wD, rfl⟩ : ∃ x, x = wr := ⟨wr, rfl⟩
            by_cases hlq : q < nr
            · have hql : q < (tk f).length := by have := HNR.out; omega
              have HTD := Lib.hid (HT.out.turned HS.out.tn (fun k hk => HG.out.maps k hk))
              have hri := HTD.out.own f (by have := HN.out; omega)
              rw [HRW.out] at hri
              obtain ⟨-, -, -, hl4⟩ := SlIs.lies (show SlIs encI wD (.slice pr nr cr) (tk f) from hri.sl)
              obtain ⟨bt, ot, rfl, hct⟩ := hl4 (by omega)
              have r0 := hct.elem q hql 0 (by decide) _ rfl
              have e1 : encI.size = 1 := rfl
              rw [e1, Nat.mul_one, Nat.add_zero] at r0
              have hmem : (tk f)[q] ∈ tk f := List.getElem_mem hql
              have hdr := List.drop_eq_getElem_cons hql
              obtain ⟨t0, ht0e⟩ : ∃ t0, (tk f)[q] = t0 := ⟨_, rfl⟩
              rw [ht0e] at r0 hmem hdr
              have htj : t0 < j := by
                obtain ⟨f', m', h1, -⟩ := (HTK.out f t0).1 hmem
                have h2 := (List.getElem?_eq_some_iff.1 h1).1
                have := HN.out; omega
              have HTJ := Lib.hid htj
              have HTM := Lib.hid hmem
              have HDR := Lib.hid hdr
              have htji : (t0 : Int) < j := by omega
              have hjp : 0 < j := by omega
              obtain ⟨ba, oa, rfl, hca⟩ := (HA.out.lies).2.2.2 hjp
              have HCA := Lib.hid ((cells_turned hca HS.out.tn (fun k hk => HG.out.maps k hk)).below ((Below.refl _ wD).drew))
              have HCB := Lib.hid (HCY.out.below ((Below.refl _ wD).drew))
              clear hri hl4 hct hca hmem hdr ht0e hql htj hjp
              go_wp2_with fail
              apply wp_region_relT LeW.refl LeW.trans 6
              case hm => kernel_rfl
              case hB => kernel_rfl
              simp only [List.take_succ_cons, List.take_zero, List.drop_succ_cons, List.drop_zero]
              apply wpRel_cons (t := tyIs _ _)
              case h1 => (intro w' hl hd2; clear hl hd2; unfold relAt; go_simp; exact rel_is LeW.refl)
              intro _
              rw [tyIs_f]
              go_simp
              apply wpRel_cons (t := tyIs _ _)
              case h1 => (intro w' hl hd2; clear hl hd2; unfold relAt; go_simp; exact rel_is LeW.refl)
              intro _
              rw [tyIs_f]
              go_simp
              apply wpRel_cons (t := tyIs _ _)
              case h1 => (intro w' hl hd2; clear hl hd2; unfold relAt; go_simp; exact rel_is LeW.refl)
              intro _
              rw [tyIs_f]
              go_simp
              apply wpRel_cons (t := tyIs _ _)
              case h1 => (intro w' hl hd2; obtain ⟨c0, c1⟩ := gvElem (HCA.out.below hl) HTJ.out; clear hl hd2; unfold relAt; go_simp; exact rel_is LeW.refl)
              intro _
              rw [tyIs_f]
              go_simp
              apply wpRel_cons (t := tyIs _ _)
              case h1 => (intro w' hl hd2; clear hl hd2; unfold relAt; go_simp; exact rel_is LeW.refl)
              intro _
              rw [tyIs_f]
              go_simp
              apply wpRel_cons (t := tyIs _ _)
              case h1 => (intro w' hl hd2; obtain ⟨d0, d1, d2⟩ := fc3 (HCB.out.below hl); clear hl hd2; unfold relAt; go_simp; exact rel_is LeW.refl)
              intro _
              rw [tyIs_f]
              go_simp
              apply wpRel_nil (Ts := [])
              intro w1 hl hF
              have hl2 : Below wD.heap.size wD w1 := bnext ((Below.refl _ wD).drew) hl
              have HL2 := Lib.hid hl2
              have HS1 := Lib.hid (HS.out.below hl2)
              have HCY1 := Lib.hid (HCY.out.below hl2)
              have HYB1 : Hid (yb < w1.heap.size) := Nat.lt_of_lt_of_le HYB.out hl2.size
              clear hl hl2 hF HCA HCB HS HCY HYB r0
              by_cases hx : x1 ∈ ow t0 ∨ (x1, x2) ∈ G' t0
              · have HTN := Lib.hid (take_no (go t0) (gb t0) (ow t0) (G' t0) (x1, x2) w1 HFX.out (HS1.out.gv.gv t0 HTJ.out) hx)
                have HS2 : Hid (Sp3 l j tk go gb ow w w1 u4 O G' (fun i c k => i = f ∧ c = (x1, x2) ∧ k ∈ (tk f).drop (q + 1)) (2 * (j * 10000 - sumG G j) + O1.length)) := by
                  have h := HS1.out
                  rw [HDR.out] at h
                  exact h.skip HOW.out hx
                clear hx HS1
                go_wp2_with (first
                  | (go_at_call 49; refine HTN.out.mono ?_; rintro e w2 ⟨rfl, hb2⟩; have HS3 := Lib.hid (HS2.out.below hb2); have HCY3 := Lib.hid (HCY1.out.below hb2); have HYB3 : Hid (yb < w2.heap.size) := Nat.lt_of_lt_of_le HYB1.out hb2.size; clear hb2 HTN HS2 HCY1 HYB1)
                  | fail)
                go_roundw
                case rel => exact ⟨q + 1, O, G', by omega, by go_num, HS3, HCY3, HBF, HFR, HYB3⟩
                case measure => simp [intOf]; omega
              · have hx1 : x1 ∉ ow t0 := fun h => hx (.inl h)
                have hx2 : (x1, x2) ∉ G' t0 := fun h => hx (.inr h)
                have HTY := Lib.hid (take_yes (go t0) (gb t0) (ow t0) (G' t0) (x1, x2) w1 HFX.out (by have h1 := HS1.out.spr.few t0; have h2 := HU.out; unfold maxLen; omega) (HS1.out.gv.far t0 t0 HTJ.out HTJ.out) (HS1.out.gv.gv t0 HTJ.out) hx1 hx2)
                have HX1 := Lib.hid hx1
                have HX2 := Lib.hid hx2
                have hOl : O.length + 1 ≤ 3000001 := by have h1 := HS1.out.m; have h2 := HMM.out; omega
                clear hx hx1 hx2
                go_wp2_with (first
                  | (go_at_call 49; refine HTY.out.mono ?_; rintro e w2 ⟨rfl, hg2, hm2⟩
                     have HG2 := Lib.hid (HS1.out.gv.take HTJ.out hg2 hm2)
                     have htn : Tn (gbS j gb) w1 w2 := Tn.of_grown hg2 ⟨t0, HTJ.out, rfl⟩
                     have HTN2 := Lib.hid (HS1.out.tn.trans htn)
                     have HOW2 : Hid (OwnL encOf ofT w2 w.heap.size u4 O) := own_turned HS1.out.own htn HS1.out.gv.maps
                     have HCY2 := Lib.hid (cells_turned HCY1.out htn HS1.out.gv.maps)
                     have HYB2 : Hid (yb < w2.heap.size) := Nat.lt_of_lt_of_le HYB1.out hg2.size
                     have HWS : Hid (w.heap.size ≤ w2.heap.size) := HTN2.out.size
                     clear hg2 hm2 htn HTY
                     obtain ⟨d0, d1, d2⟩ := fc3 HCY2.out
                     have HLIT := Lib.hid (cellsAt_alloc w2 [.int .i64 t0, .string x1, .string x2] ofT)
                     have HOW3 := Lib.hid (OwnL.alloc HOW2.out (.cells #[.int .i64 t0, .string x1, .string x2] ofT)))
                  | (at_builtin; refine wpList_append_own_at _ rfl (.tmp 63) (.tmp 68) 101 rfl w.heap.size ofT i1 (.agg #[.int .i64 0, .string ⟨#[]⟩, .string ⟨#[]⟩]) 3 40 Try.underlying101 hi1 hy0 hy1 hy2 ?_ ?_ u4 O.length (encOf.all O) ?_ ?_ ⟨w2.heap.size, 0, none⟩ 1 1 [.int .i64 t0, .string x1, .string x2] ?_ ?_ ?_ ?_ ?_ ?_ ?_ ?_)
                  | fail)
                · rfl
                · decide
                · rfl
                · exact HOW3.out
                · rfl
                · rfl
                · exact fun j u hu => by rw [add_lit]; exact HLIT.out j u hu
                · exact fun u hu => by simp at hu; rcases hu with rfl | rfl | rfl <;> rfl
                · unfold maxLen; omega
                · omega
                · have := HWS.out; simp; omega
                · intro v' w5 hown5 hgrow5 _ hat5
                  have hown6 : OwnL encOf ofT w5 w.heap.size v' (O ++ [(t0, x1, x2)]) := by
                    unfold OwnL
                    rw [List.length_append, encOf.all_append]
                    exact hown5
                  have hbl3 := below_box w2 (.cells #[.int .i64 t0, .string x1, .string x2] ofT)
                  have HG5 := Lib.hid ((HG2.out.below hbl3).kept hgrow5 (fun b hm => map_row HOW3.out hm))
                  have hbel : Below w.heap.size w2 w5 := (hbl3.mono HWS.out).grown hgrow5 (by have := HWS.out; simp; omega) (fun k e => (World.ownsRow.lt HOW3.out k e).1)
                  have HS5 : Hid (Sp3 l j tk go gb ow w w5 v' (O ++ [(t0, x1, x2)]) (putG G' t0 (x1, x2)) (fun i c k => i = f ∧ c = (x1, x2) ∧ k ∈ (tk f).drop (q + 1)) (2 * (j * 10000 - sumG G j) + O1.length)) := by
                    have h := HS1.out
                    rw [HDR.out] at h
                    exact h.take HU.out HOW.out HTK.out HTJ.out HN.out HTM.out HBF.out HX1.out HX2.out HG5.out (HTN2.out.new hbel) hown6
                  have HCY5 : Hid (CellsAt w5 yb 0 [.int .i64 f, .string x1, .string x2]) := fun k u hu => by
                    have h1 := (HCY2.out.below hbl3) k u hu
                    rw [World.cell?_of_block (w := w2.alloc (.cells #[.int .i64 t0, .string x1, .string x2] ofT)) (hgrow5.block yb (by have := HYB2.out; simp; omega) (fun e => HFR.out yb e.symm rfl))]
                    exact h1
                  have HFR5 : Hid (∀ k, v'.ownBlock = some k → k ≠ yb) := fun k e => by
                    rcases hat5 with q | q
                    · exact HFR.out k (by rw [← q]; exact e)
                    · rw [q] at e
                      injection e with e
                      have := HYB2.out
                      omega
                  have HYB5 : Hid (yb < w5.heap.size) := Nat.lt_of_lt_of_le HYB2.out hbel.size
                  have HBF5 : Hid ((x1, x2) ∈ putG G' t0 (x1, x2) f) := mem_putG.2 (.inl HBF.out)
                  clear hown5 hown6 hgrow5 hat5 hbl3 hbel HG5 HOW3 HLIT HCY2 HTN2 HG2 HOW2 d0 d1 d2
                  go_wp2_with fail
                  go_roundw
                  case rel => exact ⟨q + 1, _, _, by omega, by go_num, HS5, HCY5, HBF5, HFR5, HYB5⟩
                  case measure => simp [intOf]; omega
            · obtain rfl : q = nr := by omega
              have HSN : Hid (Sp3 l j tk go gb ow w wD u4 O G' noEx (2 * (j * 10000 - sumG G j) + O1.length)) := by
                have h := HS.out
                have hd : (tk f).drop q = [] := List.drop_eq_nil_iff.2 (by have := HNR.out; omega)
                rw [hd] at h
                exact ⟨h.spr.next, h.own, h.gv, h.tn, h.m⟩
              have HM2 := Lib.hid HMM.out
              clear HS HCY HBF HFR HYB
              go_wp2_with fail
              go_roundw
              case rel => exact ⟨O, G', ⟨HSN.out.spr, HSN.out.own, HSN.out.gv, HSN.out.tn, by have h1 := HSN.out.m; have h2 := HM2.out; omega⟩⟩
              case measure =>
                obtain ⟨pw, cw, rfl, -⟩ := own_ofs HSN.out.own
                have h1 := HSN.out.gv.sum j (Nat.le_refl _)
                have h2 := HSUM.out
                have h3 := HSN.out.m
                have h4 : slen (.slice pw O.length cw) = O.length := rfl
                have h5 : slen (.slice (some ⟨g, 0, none⟩) (O1.length + 1) cv) = O1.length + 1 := rfl
                rw [h1, h2, h4, h5]
                omega
end Go.Proofs.Ytheigpiffdabnaa.Mds
