/-
  CONTRACTS: modules.All: what each face gives, in order, ascending, each bind once.
-/
import Derived.Test.YtheigpiffdabnaaMdS
namespace Go.Proofs.Ytheigpiffdabnaa.Mds
open Go Go.RowKit Go.Maps
set_option linter.unusedVariables false
set_option linter.unusedSimpArgs false
set_option maxRecDepth 1000000

abbrev Gn := Option Nat × Option Nat
def encGn : Enc Gn := ⟨fun g => [.map g.1, .map g.2], 2, fun _ => rfl, fun x v hv => by simp at hv; rcases hv with rfl | rfl <;> rfl, by decide⟩
theorem encGn_set (y : Gn) : ∀ (M : List Gn) (i : Nat), encGn.all (M.set i y) = ((encGn.all M).set (i * 2) (.map y.1)).set (i * 2 + 1) (.map y.2)
  | [], i => by simp [Enc.all]
  | a :: M, 0 => by simp [Enc.all, encGn]
  | a :: M, i + 1 => by
    rw [List.set_cons_succ, encGn.all_cons, encGn.all_cons, encGn_set y M i]
    have e : encGn.cells a = [.map a.1, .map a.2] := rfl
    rw [e, show (i + 1) * 2 + 1 = (i * 2 + 1) + 1 + 1 by omega, show (i + 1) * 2 = i * 2 + 1 + 1 by omega]
    simp only [List.cons_append, List.nil_append, List.set_cons_succ]
theorem rangeN_set {α : Type} (n : Nat) (g : Nat → α) (i : Nat) (s : α) : ((List.range n).map g).set i s = (List.range n).map (setN g i s) := by
  refine List.ext_getElem? fun k => ?_
  rw [List.getElem?_set]
  by_cases e : i = k
  · subst e
    by_cases q : i < n
    · simp [q, setN_same]
    · simp [q]
  · rw [if_neg e]
    simp only [List.getElem?_map]
    by_cases q : k < n
    · simp [q, setN_ne g s (fun r => e r.symm)]
    · simp [q]
theorem infoG : (Try.prog.info? gvT).map (fun i => (i.zero, i.size, i.bytes)) = some (some (.agg #[.map none, .map none]), 2, 16) := by kernel_rfl
theorem made_gn (n : Nat) : (madeCells (Value.agg #[.map none, .map none]).cells (n * 2)).toList = encGn.all ((List.range n).map fun _ => ((none, none) : Gn)) := by
  refine List.ext_getElem? fun j => ?_
  by_cases hj : j < n * 2
  · have h1 := encGn.all_at ((List.range n).map fun _ => ((none, none) : Gn)) (j / 2) (by simp; omega) (j % 2) (by show j % 2 < 2; omega)
    have e2 : encGn.size = 2 := rfl
    rw [e2, show j / 2 * 2 + j % 2 = j by omega] at h1
    rw [h1]
    have hc : (Value.agg #[.map none, .map none]).cells = #[.map none, .map none] := rfl
    rw [hc]
    have h2 : encGn.cells (((List.range n).map fun _ => ((none, none) : Gn))[j / 2]'(by simp; omega)) = [.map none, .map none] := by simp [encGn]
    rw [h2]
    rcases (show j % 2 = 0 ∨ j % 2 = 1 by omega) with e | e <;> simp [madeCells, hj, e]
  · rw [List.getElem?_eq_none (by simp [madeCells]; omega), List.getElem?_eq_none (by rw [encGn.all_length]; simp; show n * 2 ≤ j; omega)]
/-- the row of all modules -/
def AllAt (B : Nat) (wr : World) (ab n : Nat) (gn : Nat → Gn) : Prop := wr.ownsRow B gvT 2 (.slice (some ⟨ab, 0, none⟩) n n) n (encGn.all ((List.range n).map gn))
theorem AllAt.store {B : Nat} {wr : World} {ab n i : Nat} {gn : Nat → Gn} (h : AllAt B wr ab n gn) (o b : Nat) : AllAt B ((wr.setCell ⟨ab, i * 2, none⟩ (.map (some o))).setCell ⟨ab, i * 2 + 1, none⟩ (.map (some b))) ab n (setN gn i (some o, some b)) ∧ Below B wr ((wr.setCell ⟨ab, i * 2, none⟩ (.map (some o))).setCell ⟨ab, i * 2 + 1, none⟩ (.map (some b))) := by
  obtain ⟨s1, g1⟩ := World.ownsRow.stored h (i * 2) (.map (some o))
  obtain ⟨s2, g2⟩ := World.ownsRow.stored s1 (i * 2 + 1) (.map (some b))
  have hB : B ≤ ab := (World.ownsRow.lt h ab rfl).1
  have hBl : ab < wr.heap.size := (World.ownsRow.lt h ab rfl).2
  refine ⟨?_, (Below.refl _ _).grown (g1.trans g2) (by omega) (fun k e => by cases e; exact hB)⟩
  unfold AllAt
  rw [← rangeN_set, encGn_set]
  exact s2
theorem AllAt.slot {B : Nat} {wr : World} {ab n i : Nat} {gn : Nat → Gn} (h : AllAt B wr ab n gn) (hi : i < n) : (∃ u v, wr.cell? ⟨ab, i * 2, none⟩ = some u ∧ wr.cell? ⟨ab, i * 2 + 1, none⟩ = some v) ∧ ∀ k, wr.frozen? ⟨ab, k, none⟩ = false := by
  refine ⟨?_, fun k => World.ownsRow.frozenAt h k⟩
  have h1 := World.ownsRow.cellAt h (i * 2) (by omega)
  have h2 := World.ownsRow.cellAt h (i * 2 + 1) (by omega)
  have hl : (encGn.all ((List.range n).map gn)).length = n * 2 := by rw [encGn.all_length]; simp; rfl
  rw [List.getElem?_eq_getElem (by omega)] at h1 h2
  exact ⟨_, _, h1, h2⟩
theorem AllAt.below {B : Nat} {wr wx : World} {ab n : Nat} {gn : Nat → Gn} (h : AllAt B wr ab n gn) (hb : Below wr.heap.size wr wx) : AllAt B wx ab n gn :=
  World.ownsRow.kept (row := none) h ⟨hb.os, hb.tape, hb.output, hb.size, fun k hk _ => hb.block k hk⟩ (.inr (by simp [Value.ownBlock]))
theorem AllAt.sl {B : Nat} {wr : World} {ab n : Nat} {go gb : Nat → Nat} (h : AllAt B wr ab n (fun i => (some (go i), some (gb i)))) : SlIs encGv wr (.slice (some ⟨ab, 0, none⟩) n n) ((List.range n).map fun i => (go i, gb i)) := by
  have e : encGv.all ((List.range n).map fun i => (go i, gb i)) = encGn.all ((List.range n).map fun i => (some (go i), some (gb i))) := by
    generalize List.range n = R
    induction R with
    | nil => rfl
    | cons a R ih => simp only [List.map_cons]; rw [encGv.all_cons, encGn.all_cons, ih]; rfl
  rcases h.2 with ⟨e1, -⟩ | ⟨g, cap, cur, e1, hb, hg, h1, h2, h3, h4⟩
  · cases e1
  · injection e1 with e1 _ e3
    injection e1 with e1
    injection e1 with e1 _ _
    subst e1; subst e3
    refine ⟨_, n, by simp, by simp, h2, fun _ => ⟨ab, 0, rfl, fun j v hv => ?_⟩⟩
    rw [e] at hv
    have hj : j < n * 2 := by
      by_cases q : j < n * 2
      · exact q
      · rw [List.getElem?_eq_none (by rw [encGn.all_length]; simp; show n * 2 ≤ j; omega)] at hv; cases hv
    rw [Nat.zero_add, World.ownsRow.cellAt h j hj]
    exact hv
theorem GvAll.one {wr w' : World} {j o b : Nat} {go gb : Nat → Nat} {ow : Nat → List ByteArray} {G : Nat → List Bd} (h : GvAll wr j go gb ow G) (hb : Below wr.heap.size wr w') (hg : GvAt w' o b (ow j) (G j)) (ho : wr.heap.size ≤ o) (hbb : wr.heap.size ≤ b) (hne : o ≠ b) : GvAll w' (j + 1) (setN go j o) (setN gb j b) ow G := by
  refine ⟨fun i hi => ?_, fun i k hi hk hik => ?_, fun i k hi hk => ?_⟩
  · by_cases e : i = j
    · subst e; rw [setN_same, setN_same]; exact hg
    · rw [setN_ne _ _ e, setN_ne _ _ e]
      exact (h.gv i (by omega)).below hb (h.gv i (by omega)).own.lt (h.gv i (by omega)).bs.lt
  · by_cases e1 : i = j
    · subst e1
      rw [setN_same, setN_ne _ _ (fun q => hik q.symm)]
      have := (h.gv k (by omega)).bs.lt
      omega
    · by_cases e2 : k = j
      · subst e2
        rw [setN_same, setN_ne _ _ e1]
        have := (h.gv i (by omega)).bs.lt
        omega
      · rw [setN_ne _ _ e1, setN_ne _ _ e2]
        exact h.dif i k (by omega) (by omega) hik
  · by_cases e1 : i = j
    · subst e1
      rw [setN_same]
      by_cases e2 : k = i
      · subst e2; rw [setN_same]; exact hne
      · rw [setN_ne _ _ e2]
        have := (h.gv k (by omega)).bs.lt
        omega
    · rw [setN_ne _ _ e1]
      by_cases e2 : k = j
      · subst e2
        rw [setN_same]
        have := (h.gv i (by omega)).own.lt
        omega
      · rw [setN_ne _ _ e2]
        exact h.far i k (by omega) (by omega)
abbrev bsT : TypeId := 52
theorem infoBs : (Try.prog.info? bsT).map (fun i => (i.zero, i.size, i.bytes)) = some (some (.slice none 0 0), 1, 24) := by kernel_rfl
/-- the row of all lists -/
def OutAt (B : Nat) (wr : World) (ob n : Nat) (R : Nat → Sv) : Prop := wr.ownsRow B bsT 1 (.slice (some ⟨ob, 0, none⟩) n n) n ((List.range n).map fun i => svV (R i))
theorem OutAt.below {B : Nat} {wr wx : World} {ob n : Nat} {R : Nat → Sv} (h : OutAt B wr ob n R) (hb : Below wr.heap.size wr wx) : OutAt B wx ob n R :=
  World.ownsRow.kept (row := none) h ⟨hb.os, hb.tape, hb.output, hb.size, fun k hk _ => hb.block k hk⟩ (.inr (by simp [Value.ownBlock]))
theorem OutAt.slot {B : Nat} {wr : World} {ob n i : Nat} {R : Nat → Sv} (h : OutAt B wr ob n R) (hi : i < n) : wr.cell? ⟨ob, i, none⟩ = some (svV (R i)) ∧ wr.frozen? ⟨ob, i, none⟩ = false := by
  refine ⟨?_, World.ownsRow.frozenAt h _⟩
  rw [World.ownsRow.cellAt h i (by omega)]
  simp [hi]
theorem OutAt.store {B : Nat} {wr : World} {ob n i : Nat} {R : Nat → Sv} (h : OutAt B wr ob n R) (s : Sv) : OutAt B (wr.setCell ⟨ob, i, none⟩ (svV s)) ob n (setN R i s) ∧ Below B wr (wr.setCell ⟨ob, i, none⟩ (svV s)) := by
  obtain ⟨s1, g1⟩ := World.ownsRow.stored h i (svV s)
  have hB := World.ownsRow.lt h ob rfl
  refine ⟨?_, (Below.refl _ _).grown g1 (by omega) (fun k e => by cases e; exact hB.1)⟩
  unfold OutAt
  rw [← range_set]
  exact s1
theorem OutAt.apart {B : Nat} {wr : World} {ob n k : Nat} {R : Nat → Sv} (h : OutAt B wr ob n R) {v u : Value} {L : List Bd} (hs : SlIs encBd wr v L) : SlIs encBd (wr.setCell ⟨ob, k, none⟩ u) v L := by
  obtain ⟨p, cap, e, h1, h2, h3⟩ := hs
  refine ⟨p, cap, e, h1, h2, fun h0 => ?_⟩
  obtain ⟨b, off, rfl, hc⟩ := h3 h0
  have c0 := hc.elem 0 h0 0 (by decide) _ rfl
  have hne : b ≠ ob := by
    intro q
    subst q
    rcases h.2 with ⟨e1, -⟩ | ⟨g, cap', cur, e1, hb, hg, g1, g2, g3, g4⟩
    · cases e1
    · injection e1 with e1 _ e3
      injection e1 with e1
      injection e1 with e1 _ _
      subst e1; subst e3
      rw [Lib.cell_of_heap hg] at c0
      have hcl : cur.toList = (List.range n).map fun i => svV (R i) := by
        rw [← g4, List.take_of_length_le (by simp; omega)]
      have : (cur.toList)[off + 0 * encBd.size + 0]? = some (.string (L[0]).1) := by simpa using c0
      rw [hcl, List.getElem?_map] at this
      cases e5 : (List.range n)[off + 0 * encBd.size + 0]? with
      | none => rw [e5] at this; cases this
      | some y => rw [e5] at this; cases this
  refine ⟨b, off, rfl, fun j x hx => ?_⟩
  rw [World.cell?_setCell_other _ _ _ _ (fun q => by injection q with q _ _; exact hne q.symm)]
  exact hc j x hx
theorem slB_sv {w : World} {v : Value} {L : List Bd} (h : SlIs encBd w v L) : ∃ s, v = svV s := by
  obtain ⟨p, cap, e, _⟩ := h
  exact ⟨(p, L.length, cap), e⟩
def owV (l : List Fc) (i : Nat) : List ByteArray := dedup (visL (l.getD i fc0).own)
def g0V (l : List Fc) (i : Nat) : List Bd := if i < l.length then dedup (ownB (l.getD i fc0)) else []

set_option maxHeartbeats 8000000 in
theorem all_any (p : Option Addr) (n cap : Nat) (l : List Fc) (w : World) (hf : FacesAt w (.slice p n cap) l) (hfit : FcsFit l) :
    Calls Try.prog 22 #[.slice p n cap] w fun e w' => ∃ (ob : Nat) (R : Nat → Sv) (LL : Nat → List Bd), e = .returned (.slice (some ⟨ob, 0, none⟩) n n) ∧ SlIs encSv w' (.slice (some ⟨ob, 0, none⟩) n n) ((List.range n).map R) ∧ (∀ i, i < n → SlIs encBd w' (svV (R i)) (LL i) ∧ AscB (LL i) ∧ ∀ b, b ∈ LL i ↔ Giv l i b) ∧ Below w.heap.size w w' := by
  have hn := hf.len
  have hnb : (n : Int) ≤ 100 := by have := hfit.1; omega
  have HN := Lib.hid hn
  have HF := Lib.hid hf
  have HFIT := Lib.hid hfit
  clear hn hf hfit
  obtain ⟨i0, hi0, hz0, hz1, hz2⟩ := info_parts infoG
  obtain ⟨k0, hk0, hy0, hy1, hy2⟩ := info_parts infoBs
  go_enter Try.func22, Try.ntmps22
  go_wp2_with (first
    | (at_make; refine wpList_make_full _ rfl _ _ 79 rfl w.heap.size gvT i0 _ 2 Try.underlying79 hi0 hz0 hz1 .i64 .i64 _ _ n rfl rfl rfl rfl (by rw [hz2]; omega) (by unfold maxLen; omega) (by simp) ?_; intro w2 hown2 hgr2)
    | go_in)
  have HB2 : Hid (Below w.heap.size w w2) := (Below.refl _ _).grown hgr2 (Nat.le_refl _) (fun k hk => by cases hk)
  have HA2 : Hid (AllAt w.heap.size w2 w.heap.size n (fun _ => (none, none))) := by
    unfold Hid AllAt
    rw [← made_gn]
    exact hown2
  clear hown2 hgr2
  go_wp2_with fail
  go_loopw [14] (fun i wr => ∃ (j : Nat) (gn : Nat → Gn) (go gb : Nat → Nat), j ≤ n ∧ i = .int .i64 j ∧ Hid (Below w.heap.size w wr) ∧ Hid (AllAt w.heap.size wr w.heap.size n gn) ∧ Hid (∀ i, i < j → gn i = (some (go i), some (gb i))) ∧ Hid (GvAll wr j go gb (owV l) (g0V l)) ∧ Hid (∀ i, i < j → w.heap.size ≤ gb i)) (fun i _ => n - (intOf i).toNat)
  case atStart => exact ⟨0, _, fun _ => 0, fun _ => 0, Nat.zero_le _, rfl, HB2, HA2, fun i h => (by omega), ⟨fun i h => by omega, fun i k h => by omega, fun i k h => by omega⟩, fun i h => by omega⟩
  case round =>
    clear HB2 HA2
    obtain ⟨j, gn, go, gb, hj, rfl, HB, HA, HGN, HG, HGB⟩ := hrel
    obtain ⟨wC, rfl⟩ : ∃ x, x = wr := ⟨wr, rfl⟩
    by_cases hlt : j < n
    · have hjl : j < l.length := by rw [← HN.out]; exact hlt
      obtain ⟨⟨_, ⟨p1, n1, c1⟩, ⟨p2, n2, c2⟩⟩, hfa⟩ := HF.out.face j hjl
      obtain ⟨⟨b, off, rfl, q0, q1, q2⟩, hown, -⟩ := hfa.below HB.out
      have HFI := Lib.hid (HFIT.out.at_ j hjl)
      obtain ⟨f, hfe⟩ : ∃ f, l.getD j fc0 = f := ⟨_, rfl⟩
      have HOWE : Hid (owV l j = dedup (visL f.own)) := by unfold Hid owV; rw [hfe]
      have HG0E : Hid (g0V l j = dedup (bindsOf f.mo f.own)) := by unfold Hid g0V; rw [if_pos hjl, hfe]; rfl
      rw [hfe] at q0 hown HFI
      obtain ⟨mo, own, pub⟩ := f
      simp only [svV] at q0 q1 q2 hown
      have HC := Lib.hid (cellsAt_alloc wC [.string mo, .slice p1 n1 c1, .slice p2 n2 c2] fcT)
      obtain ⟨x0, x1, x2⟩ := fc3 HC.out
      have HB1 := Lib.hid (below_box wC (.cells #[.string mo, .slice p1 n1 c1, .slice p2 n2 c2] fcT))
      have HBG := Lib.hid (begin_any mo p1 n1 c1 own _ (by have := HFI.out.owns; simp only at this; omega) (hown.below HB1.out) HFI.out.mo HFI.out.own)
      clear hfa hown hfe HC hjl
      go_wp2_with (first
        | (go_at_call 45; refine HBG.out.mono ?_; rintro e w4 ⟨o, b4, rfl, h1, h2, h3, h4, h5, h6⟩
           have HB4 := Lib.hid (bnext HB1.out h6)
           have HGV : Hid (GvAll w4 (j + 1) (setN go j o) (setN gb j b4) (owV l) (g0V l)) := HG.out.one HB4.out (by rw [HOWE.out, HG0E.out]; exact h5) (Nat.le_trans HB1.out.size h1) (Nat.le_trans HB1.out.size h2) h3
           have HB4L : Hid (wC.heap.size ≤ b4) := Nat.le_trans HB1.out.size h2
           have HA4 := Lib.hid (HA.out.below HB4.out)
           obtain ⟨⟨uu, vv, r0, r1⟩, r2⟩ := HA4.out.slot hlt
           clear h1 h2 h3 h4 h5 h6 HBG x0 x1 x2 q0 q1 q2)
        | fail)
      go_roundw
      case rel =>
        have hst := HA4.out.store (i := j) o b4
        have g1 := (World.ownsRow.stored HA4.out (j * 2) (.map (some o)))
        have g2 := (World.ownsRow.stored g1.1 (j * 2 + 1) (.map (some b4)))
        refine ⟨j + 1, setN gn j (some o, some b4), setN go j o, setN gb j b4, by omega, by go_num, ?_, hst.1, ?_, ?_, ?_⟩
        · exact (HB.out.trans (HB4.out.mono HB.out.size)).trans hst.2
        · intro i hi
          by_cases e : i = j
          · subst e; rw [setN_same, setN_same, setN_same]
          · rw [setN_ne _ _ e, setN_ne _ _ e, setN_ne _ _ e]; exact HGN.out i (by omega)
        · exact HGV.out.kept (g1.2.trans g2.2) (fun b hm => map_row HA4.out hm)
        · intro i hi
          by_cases e : i = j
          · subst e; rw [setN_same]; have h1 := HB4L.out; have h2 := HB.out.size; omega
          · rw [setN_ne _ _ e]; exact HGB.out i (by omega)
      case measure => simp [intOf]; omega
    · obtain rfl : j = n := by omega
      have hgn : AllAt w.heap.size wC w.heap.size j (fun i => (some (go i), some (gb i))) := by
        have h := HA.out
        unfold AllAt at h ⊢
        have e : (List.range j).map gn = (List.range j).map fun i => ((some (go i), some (gb i)) : Gn) := List.map_congr_left (fun i hi => HGN.out i (List.mem_range.1 hi))
        rw [e] at h
        exact h
      have HTK := Lib.hid (takers_any p j cap l wC (HF.out.below HB.out) HFIT.out)
      have how : ∀ (i : Nat) (f : Fc), l[i]? = some f → ∀ x, x ∈ owV l i ↔ x ∈ visL f.own := fun i f h x => by
        unfold owV
        rw [dedup_mem]
        simp [List.getD, h]
      have hg0 : ∀ (i : Nat) (f : Fc), l[i]? = some f → (g0V l i).Nodup ∧ ∀ b, b ∈ g0V l i ↔ b ∈ ownB f := fun i f h => by
        have hi := (List.getElem?_eq_some_iff.1 h).1
        unfold g0V
        rw [if_pos hi]
        refine ⟨dedup_nodup _, fun b => ?_⟩
        rw [dedup_mem]
        simp [List.getD, h]
      have hout : ∀ i, j ≤ i → g0V l i = [] := fun i hi => by unfold g0V; rw [if_neg (by have := HN.out; omega)]
      have HSPR : Hid (∀ (ob : Nat) (rows : Nat → Sv) (tk : Nat → List Nat) (B : Nat) (W : World), Takers l tk → (∀ i, (tk i).length ≤ 10000) → SlIs encGv W (.slice (some ⟨w.heap.size, 0, none⟩) j j) ((List.range j).map fun i => (go i, gb i)) → TkAt B W ob j rows tk → GvAll W j go gb (owV l) (g0V l) → _) := fun ob rows tk B W h1 h2 h3 h4 h5 =>
        spread_any l j HN.out HFIT.out tk h1 h2 go gb (owV l) (g0V l) (some ⟨w.heap.size, 0, none⟩) j ob rows B W h3 h4 h5 how hg0 hout
      have HAA := Lib.hid hgn
      have HGS : Hid (∀ k, gbS j gb k → w.heap.size ≤ k) := fun k ⟨i, hi, e⟩ => by subst e; exact HGB.out i hi
      clear hgn how hg0 hout HA HGN HGB
      go_wp2_with (first
        | (go_at_call 47; refine HTK.out.mono ?_; rintro e w5 ⟨ob, rows, tk, rfl, t1, t2, t3, t4⟩
           have HB5 := Lib.hid t4
           have HA5 := Lib.hid (HAA.out.below t4)
           have HS5 := Lib.hid (HSPR.out ob rows tk _ w5 t1 t2 (HAA.out.below t4).sl t3 (HG.out.below t4))
           clear t1 t2 t3 t4 HTK HSPR HAA)
        | (go_at_call 46; refine HS5.out.mono ?_; rintro e w6 ⟨rfl, G, s1, s2, s3, s4⟩
           have HGI := Lib.hid s1
           have HGND := Lib.hid s2
           have HGA := Lib.hid s3
           have HA6 : Hid (SlIs encGv w6 (.slice (some ⟨w.heap.size, 0, none⟩) j j) ((List.range j).map fun i => (go i, gb i))) := sl_turned HA5.out.sl s4 (fun k hk => by
             obtain ⟨i, hi, e⟩ := hk
             subst e
             exact MapAt.isMap ((HG.out.below HB5.out).gv i hi).bs)
           have HB6 : Hid (Below w.heap.size w w6) := (HB.out.trans (HB5.out.mono HB.out.size)).trans (s4.below (by have h1 := HB.out.size; have h2 := HB5.out.size; omega) HGS.out)
           clear s1 s2 s3 s4 HS5 HA5 HB5 HG HB HGS)
        | (at_make; refine wpList_make_full _ rfl _ _ 47 rfl w6.heap.size bsT k0 _ 1 Try.underlying47 hk0 hy0 hy1 .i64 .i64 _ _ j rfl rfl rfl rfl (by rw [hy2]; omega) (by unfold maxLen; omega) (by simp) ?_; intro w7 hown7 hgr7)
        | go_in)
      have HB7 : Hid (Below w6.heap.size w6 w7) := (Below.refl _ _).grown hgr7 (Nat.le_refl _) (fun k hk => by cases hk)
      have HO7 : Hid (OutAt w6.heap.size w7 w6.heap.size j (fun _ => sv0)) := by
        unfold Hid OutAt
        rw [← made_sv]
        exact hown7
      clear hown7 hgr7
      generalize hob2 : w6.heap.size = ob2 at *
      have HOB2 := Lib.hid hob2
      clear hob2
      go_wp2_with fail
      go_loopw [37] (fun i wx => ∃ (k : Nat) (R : Nat → Sv) (LL : Nat → List Bd), k ≤ j ∧ i = .int .i64 k ∧ Hid (Below ob2 w6 wx) ∧ Hid (OutAt ob2 wx ob2 j R) ∧ Hid (∀ i, i < k → SlIs encBd wx (svV (R i)) (LL i) ∧ AscB (LL i) ∧ ∀ b, b ∈ LL i ↔ Giv l i b)) (fun i _ => j - (intOf i).toNat)
      case atStart => exact ⟨0, _, fun _ => [], Nat.zero_le _, rfl, HB7, HO7, fun i h => by omega⟩
      case round =>
        clear HB7 HO7
        obtain ⟨k, R, LL, hk, rfl, HBX, HO, HL⟩ := hrel
        obtain ⟨wD, rfl⟩ : ∃ x, x = wr := ⟨wr, rfl⟩
        by_cases hlk : k < j
        · have hbx : Below w6.heap.size w6 wD := by rw [HOB2.out]; exact HBX.out
          obtain ⟨ba, oa, e1, hca⟩ := (HA6.out.lies).2.2.2 (by omega)
          injection e1 with e1
          injection e1 with e1 e2 _
          subst e1; subst e2
          obtain ⟨q0, q1⟩ := gvElem (hca.below hbx) hlk
          simp only [Nat.zero_add] at q0 q1
          have HC := Lib.hid (cellsAt_alloc wD [.map (some (go k)), .map (some (gb k))] gvT)
          obtain ⟨x0, x1⟩ := bd2 HC.out
          have HB1 := Lib.hid (below_box wD (.cells #[.map (some (go k)), .map (some (gb k))] gvT))
          have HLS := Lib.hid (list_any (go k) (gb k) (owV l k) (G k) (HGND.out k) (fun x hx => univ_fit HFIT.out x (((HGI.out k x).1 hx).univ)) (by
            have h1 := List.Nodup.length_le_of_subset (HGND.out k) (fun b hb => ((HGI.out k b).1 hb).univ)
            have h2 := univ_len l (fun f hf => (HFIT.out.2 f hf).owns)
            have h3 := HFIT.out.1
            omega) _ (((HGA.out.below hbx).below HB1.out).gv k hlk))
          have HK := Lib.hid hlk
          clear hca hbx HC
          go_wp2_with (first
            | (go_at_call 48; refine HLS.out.mono ?_; rintro e w8 ⟨v, L, rfl, h1, h2, h3, h4⟩
               obtain ⟨⟨ps, ns, cs⟩, rfl⟩ := slB_sv h3
               have HB8 := Lib.hid (bnext HB1.out h4)
               have HO8 := Lib.hid (HO.out.below HB8.out)
               have HL8 : Hid (AscB L ∧ (∀ b, b ∈ L ↔ Giv l k b) ∧ SlIs encBd w8 (svV (ps, ns, cs)) L) := ⟨h1, fun b => by rw [h2 b]; exact HGI.out k b, h3⟩
               obtain ⟨z0, z1⟩ := HO8.out.slot HK.out
               simp only [svV] at z0 ⊢
               clear h1 h2 h3 h4 HLS x0 x1 q0 q1)
            | fail)
          go_roundw
          case rel =>
            have hst := HO8.out.store (i := k) (ps, ns, cs)
            refine ⟨k + 1, setN R k (ps, ns, cs), setN LL k L, by omega, by go_num, (HBX.out.trans (HB8.out.mono (by have h1 := HBX.out.size; have h2 := HOB2.out; omega))).trans hst.2, hst.1, ?_⟩
            intro i hi
            by_cases e : i = k
            · subst e
              rw [setN_same, setN_same]
              exact ⟨HO8.out.apart HL8.out.2.2, HL8.out.1, HL8.out.2.1⟩
            · rw [setN_ne _ _ e, setN_ne _ _ e]
              have h := HL.out i (by omega)
              exact ⟨HO8.out.apart (h.1.below HB8.out), h.2⟩
          case measure => simp [intOf]; omega
        · obtain rfl : k = j := by omega
          have HBF : Hid (Below w.heap.size w wD) := HB6.out.trans (HBX.out.mono (by have h1 := HB6.out.size; have h2 := HOB2.out; omega))
          have hso : SlIs encSv wD (.slice (some ⟨ob2, 0, none⟩) k k) ((List.range k).map R) := by
            have h : OwnL encSv bsT wD ob2 (.slice (some ⟨ob2, 0, none⟩) k k) ((List.range k).map R) := by
              unfold OwnL
              rw [encSv_len, List.length_map, List.length_range]
              exact HO.out
            exact h.sl
          have HSO := Lib.hid hso
          clear hso
          go_wp2_with fail
          go_ret
          exact ⟨ob2, R, LL, rfl, HSO.out, HL.out, HBF.out⟩
end Go.Proofs.Ytheigpiffdabnaa.Mds
