/-
  CONTRACTS: modules.takers: the faces that re-export each face.
-/
import Derived.Test.YtheigpiffdabnaaMdF
namespace Go.Proofs.Ytheigpiffdabnaa.Mds
open Go Go.RowKit Go.Maps
set_option linter.unusedVariables false
set_option linter.unusedSimpArgs false
set_option maxRecDepth 1000000

/-! ### plain -/
structure TkK (l : List Fc) (j : Nat) (A : List ByteArray) (k : Nat) (tk : Nat → List Nat) : Prop where
  mem : ∀ i t : Nat, t ∈ tk i ↔ (∃ (f : Fc) (m : ByteArray), t < j ∧ l[t]? = some f ∧ m ∈ f.pub ∧ firstI l m = some i) ∨ (t = j ∧ ∃ m ∈ A.take k, firstI l m = some i)
  few : ∀ i, (tk i).length ≤ 100 * j + k
theorem TkK.zero (l : List Fc) : TkK l 0 [] 0 (fun _ => []) := by
  refine ⟨fun i t => ⟨fun h => (by cases h), ?_⟩, fun i => by simp⟩
  rintro (⟨f, m, h, _⟩ | ⟨_, m, h, _⟩)
  · omega
  · simp at h
theorem TkK.start {l : List Fc} {j : Nat} {tk : Nat → List Nat} (h : TkK l j [] 0 tk) (A : List ByteArray) : TkK l j A 0 tk := by
  refine ⟨fun i t => ?_, h.few⟩
  rw [h.mem]
  simp
theorem TkK.skip {l : List Fc} {j : Nat} {A : List ByteArray} {k : Nat} {tk : Nat → List Nat} (h : TkK l j A k tk) (hk : k < A.length) (he : firstI l (A.getD k ByteArray.empty) = none) : TkK l j A (k + 1) tk := by
  refine ⟨fun i t => ?_, fun i => by have := h.few i; omega⟩
  rw [h.mem, take_snoc A ByteArray.empty k hk]
  constructor
  · rintro (q | ⟨rfl, m, hm, q⟩)
    · exact .inl q
    · exact .inr ⟨rfl, m, List.mem_append.2 (.inl hm), q⟩
  · rintro (q | ⟨rfl, m, hm, q⟩)
    · exact .inl q
    · rcases List.mem_append.1 hm with hm | hm
      · exact .inr ⟨rfl, m, hm, q⟩
      · rw [List.mem_singleton] at hm; subst hm; rw [he] at q; cases q
theorem TkK.hit {l : List Fc} {j : Nat} {A : List ByteArray} {k : Nat} {tk : Nat → List Nat} (h : TkK l j A k tk) (hk : k < A.length) {i0 : Nat} (he : firstI l (A.getD k ByteArray.empty) = some i0) : TkK l j A (k + 1) (setN tk i0 (tk i0 ++ [j])) := by
  refine ⟨fun i t => ?_, fun i => ?_⟩
  · rw [take_snoc A ByteArray.empty k hk]
    have hm := h.mem i t
    constructor
    · intro q
      have q' : t ∈ tk i ∨ (i = i0 ∧ t = j) := by
        by_cases e : i = i0
        · subst e; rw [setN_same] at q; rcases List.mem_append.1 q with q | q
          · exact .inl q
          · rw [List.mem_singleton] at q; exact .inr ⟨rfl, q⟩
        · rw [setN_ne _ _ e] at q; exact .inl q
      rcases q' with q | ⟨rfl, rfl⟩
      · rcases hm.1 q with q | ⟨rfl, m, hm, q⟩
        · exact .inl q
        · exact .inr ⟨rfl, m, List.mem_append.2 (.inl hm), q⟩
      · exact .inr ⟨rfl, _, List.mem_append.2 (.inr (by simp)), he⟩
    · intro q
      have q' : t ∈ tk i ∨ (i = i0 ∧ t = j) := by
        rcases q with q | ⟨rfl, m, hm', q⟩
        · exact .inl (hm.2 (.inl q))
        · rcases List.mem_append.1 hm' with hm' | hm'
          · exact .inl (hm.2 (.inr ⟨rfl, m, hm', q⟩))
          · rw [List.mem_singleton] at hm'; subst hm'; rw [he] at q; cases q; exact .inr ⟨rfl, rfl⟩
      rcases q' with q | ⟨rfl, rfl⟩
      · by_cases e : i = i0
        · subst e; rw [setN_same]; exact List.mem_append.2 (.inl q)
        · rw [setN_ne _ _ e]; exact q
      · rw [setN_same]; simp
  · by_cases e : i = i0
    · subst e; rw [setN_same]; have := h.few i; simp; omega
    · rw [setN_ne _ _ e]; have := h.few i; omega
theorem TkK.done {l : List Fc} {j : Nat} {A : List ByteArray} {tk : Nat → List Nat} (h : TkK l j A A.length tk) (hj : j < l.length) (hA : ∀ x, x ∈ A ↔ x ∈ (l.getD j fc0).pub) (hAl : A.length ≤ 100) : TkK l (j + 1) [] 0 tk := by
  have hl : l[j]? = some (l.getD j fc0) := by simp [List.getD, List.getElem?_eq_getElem hj]
  refine ⟨fun i t => ?_, fun i => by have := h.few i; omega⟩
  rw [h.mem, List.take_length]
  constructor
  · rintro (⟨f, m, h1, h2, h3, h4⟩ | ⟨rfl, m, hm, q⟩)
    · exact .inl ⟨f, m, by omega, h2, h3, h4⟩
    · exact .inl ⟨_, m, by omega, hl, (hA m).1 hm, q⟩
  · rintro (⟨f, m, h1, h2, h3, h4⟩ | ⟨rfl, m, hm, q⟩)
    · by_cases e : t < j
      · exact .inl ⟨f, m, e, h2, h3, h4⟩
      · obtain rfl : t = j := by omega
        rw [hl] at h2
        cases h2
        exact .inr ⟨rfl, m, (hA m).2 h3, h4⟩
    · simp at hm
theorem TkK.all {l : List Fc} {tk : Nat → List Nat} (h : TkK l l.length [] 0 tk) : Takers l tk := fun i j => by
  rw [h.mem]
  constructor
  · rintro (⟨f, m, h1, h2, h3, h4⟩ | ⟨rfl, m, hm, q⟩)
    · exact ⟨f, m, h2, h3, h4⟩
    · simp at hm
  · rintro ⟨f, m, h2, h3, h4⟩
    exact .inl ⟨f, m, (List.getElem?_eq_some_iff.1 h2).1, h2, h3, h4⟩

/-! ### the rows' slots -/
theorem infoI : (Try.prog.info? intT).map (fun i => (i.zero, i.size, i.bytes)) = some (some (.int .i64 0), 1, 8) := by kernel_rfl
theorem infoR : (Try.prog.info? intsT).map (fun i => (i.zero, i.size, i.bytes)) = some (some (.slice none 0 0), 1, 24) := by kernel_rfl
theorem TkAt.slot {B : Nat} {wr : World} {ob n : Nat} {rows : Nat → Sv} {tk : Nat → List Nat} (h : TkAt B wr ob n rows tk) {i : Nat} (hi : i < n) : wr.cell? ⟨ob, i, none⟩ = some (svV (rows i)) ∧ wr.frozen? ⟨ob, i, none⟩ = false := by
  refine ⟨?_, World.ownsRow.frozenAt h.out _⟩
  rw [World.ownsRow.cellAt h.out i (by omega)]
  simp [hi]
theorem own_sv {B : Nat} {wr : World} {v : Value} {L : List Nat} (h : OwnL encI intT wr B v L) : ∃ s, v = svV s ∧ s.2.1 = L.length := by
  rcases h.2 with ⟨rfl, h0⟩ | ⟨g, cap, cur, rfl, hb, hg, -⟩
  · exact ⟨sv0, rfl, by rw [h0]; rfl⟩
  · exact ⟨(some ⟨g, 0, none⟩, L.length, cap), rfl, rfl⟩
theorem TkAt.grown {B : Nat} {wr w1 : World} {ob n : Nat} {rows : Nat → Sv} {tk : Nat → List Nat} {i : Nat} (h : TkAt B wr ob n rows tk) (hi : i < n) (hg : wr.grownBy w1 (svV (rows i)).ownBlock) : w1.cell? ⟨ob, i, none⟩ = some (svV (rows i)) ∧ w1.frozen? ⟨ob, i, none⟩ = false := by
  have hout1 : w1.ownsRow B intsT 1 (.slice (some ⟨ob, 0, none⟩) n n) n _ := h.out.kept hg (.inr (fun e => h.far hi e.symm))
  refine ⟨?_, World.ownsRow.frozenAt hout1 _⟩
  rw [World.ownsRow.cellAt hout1 i (by omega)]
  simp [hi]
theorem fc3 {W : World} {b : Nat} {c0 c1 c2 : Value} (h : CellsAt W b 0 [c0, c1, c2]) : W.cell? ⟨b, 0, none⟩ = some c0 ∧ W.cell? ⟨b, 1, none⟩ = some c1 ∧ W.cell? ⟨b, 2, none⟩ = some c2 := ⟨h 0 _ rfl, h 1 _ rfl, h 2 _ rfl⟩

theorem slS_grown {w w1 : World} {pa : Option Addr} {n c : Nat} {A : List ByteArray} {row : Option Nat} (h : SlIs encS w (.slice pa n c) A) (hg : w.grownBy w1 row) (hr : ∀ a, pa = some a → some a.block ≠ row) : SlIs encS w1 (.slice pa n c) A := by
  obtain ⟨h1, h2, h3, h4⟩ := h.lies
  refine ⟨pa, c, by rw [h1], by omega, h3, fun h0 => ?_⟩
  obtain ⟨b, off, rfl, hc⟩ := h4 (by omega)
  refine ⟨b, off, rfl, fun j v hv => ?_⟩
  have := hc j v hv
  rw [World.cell?_of_block (w := w) (hg.block b (World.block_lt_of_cell? w _ this) (hr _ rfl))]
  exact this
theorem set_grown (w : World) (b i : Nat) (v : Value) : w.grownBy (w.setCell ⟨b, i, none⟩ v) (some b) :=
  ⟨rfl, rfl, rfl, by simp [World.setCell], fun k hk hne => Below.heap_setCell _ _ _ _ (fun e => hne (by rw [e]))⟩
theorem own_base {W : World} {base base' : Nat} {e : TypeId} {size : Nat} {v : Value} {k : Nat} {xs : List Value} (h : W.ownsRow base e size v k xs) (hb : base' ≤ base) : W.ownsRow base' e size v k xs := by
  refine ⟨h.1, ?_⟩
  rcases h.2 with hn | ⟨g, cap, cur, hv, hbg, rest⟩
  · exact .inl hn
  · exact .inr ⟨g, cap, cur, hv, Nat.le_trans hb hbg, rest⟩
theorem TkAt.base {B B' : Nat} {wr : World} {ob n : Nat} {rows : Nat → Sv} {tk : Nat → List Nat} (h : TkAt B wr ob n rows tk) (hb : B' ≤ B) : TkAt B' wr ob n rows tk :=
  ⟨own_base h.out hb, fun i hi => own_base (h.own i hi) hb, h.dif⟩
theorem made_sv (n : Nat) : (madeCells (Value.slice none 0 0).cells (n * 1)).toList = (List.range n).map fun i => svV ((fun _ => sv0) i) := by
  refine List.ext_getElem? fun j => ?_
  by_cases hj : j < n
  · simp [madeCells, hj, Value.cells, svV, sv0, Nat.mod_one]
  · rw [List.getElem?_eq_none (by simp [madeCells]; omega), List.getElem?_eq_none (by simp; omega)]
theorem TkAt.start {B : Nat} {wr : World} {ob n : Nat} (h : wr.ownsRow B intsT 1 (.slice (some ⟨ob, 0, none⟩) n n) n (madeCells (Value.slice none 0 0).cells (n * 1)).toList) : TkAt B wr ob n (fun _ => sv0) (fun _ => []) :=
  ⟨by rw [← made_sv]; exact h, fun i hi => OwnL.isNil _ _ _ _, fun i j hi hj hij => .inl rfl⟩

set_option maxHeartbeats 4000000 in
theorem takers_any (p : Option Addr) (n cap : Nat) (l : List Fc) (w : World) (hf : FacesAt w (.slice p n cap) l) (hfit : FcsFit l) :
    Calls Try.prog 47 #[.slice p n cap] w fun e w' => ∃ ob rows tk, e = .returned (.slice (some ⟨ob, 0, none⟩) n n) ∧ Takers l tk ∧ (∀ i, (tk i).length ≤ 10000) ∧ TkAt w.heap.size w' ob n rows tk ∧ Below w.heap.size w w' := by
  have hn := hf.len
  have hnb : (n : Int) ≤ 100 := by have := hfit.1; omega
  have HN := Lib.hid hn
  have HF := Lib.hid hf
  have HFIT := Lib.hid hfit
  clear hn hf hfit
  have hm1 := @run_makeMap Try.prog
  go_enter Try.func47, Try.ntmps47
  go_wp2_with fail
  clear hm1
  go_loopw [18] (fun i wr => ∃ (j cnt : Nat), j ≤ n ∧ cnt ≤ j ∧ i = .int .i64 j ∧ Hid (Below w.heap.size w wr) ∧ Hid (MapAt sKeys natV wr w.heap.size cnt (firstI (l.take j)))) (fun i _ => n - (intOf i).toNat)
  case atStart => exact ⟨0, 0, Nat.zero_le _, Nat.le_refl _, rfl, below_box w _, MapAt.made _ _ _⟩
  case round =>
    obtain ⟨j, cnt, hj, hcj, rfl, HB, HM⟩ := hrel
    by_cases hlt : j < n
    · have hjl : j < l.length := by rw [← HN.out]; exact hlt
      obtain ⟨⟨_, ⟨p1, n1, c1⟩, ⟨p2, n2, c2⟩⟩, hfa⟩ := HF.out.face j hjl
      obtain ⟨⟨b, off, rfl, q0, q1, q2⟩, -, -⟩ := hfa.below HB.out
      have HT := Lib.hid (take_snoc l fc0 j hjl)
      have HFI := Lib.hid (HFIT.out.at_ j hjl)
      have hlj : (l.take j).length = j := by rw [List.length_take]; omega
      generalize l.getD j fc0 = f at *
      obtain ⟨mo, own, pub⟩ := f
      simp only [svV] at q0 q1 q2
      have HC := Lib.hid (cellsAt_alloc wr [.string mo, .slice p1 n1 c1, .slice p2 n2 c2] fcT)
      obtain ⟨x0, x1, x2⟩ := fc3 HC.out
      have HB1 := Lib.hid (HB.out.trans ((below_box wr (.cells #[.string mo, .slice p1 n1 c1, .slice p2 n2 c2] fcT)).mono HB.out.size))
      have HM1 := Lib.hid (HM.out.alloc (.cells #[.string mo, .slice p1 n1 c1, .slice p2 n2 c2] fcT))
      have HMO : Hid (mo.size ≤ maxLen) := by have := HFI.out.mo; unfold Hid maxLen; simp only at this; omega
      have HLJ := Lib.hid hlj
      clear hfa hjl hlj HB HM HC
      cases e : firstI (l.take j) mo with
      | some i0 =>
        have HE := Lib.hid e
        have HNX : Hid (firstI (l.take (j + 1)) = firstI (l.take j)) := by rw [Hid, HT.out]; exact firstF_skip (f := ⟨mo, own, pub⟩) e
        clear e
        go_wp2_with (first
          | (at_lookup; refine wpList_look_ok (K := sKeys) (val := natV) (v := .tuple #[.int .i64 i0, .bool true]) _ rfl _ _ 104 3 rfl Try.underlying104 Try.zeroValue3 rfl HM1.out mo rfl HMO.out (by rw [HE.out]; rfl) ?_)
          | fail)
        go_roundw
        case rel => exact ⟨j + 1, cnt, by omega, by omega, by go_num, HB1, by rw [HNX.out]; exact HM1⟩
        case measure => simp [intOf]; omega
      | none =>
        have HE := Lib.hid e
        have HNX : Hid (firstI (l.take (j + 1)) = updM (firstI (l.take j)) mo (some j)) := by rw [Hid, HT.out]; have := firstF_put (l := l.take j) (f := ⟨mo, own, pub⟩) e; rw [HLJ.out] at this; exact this
        have hcm : cnt < maxLen := by unfold maxLen; omega
        clear e
        go_wp2_with (first
          | (at_lookup; refine wpList_look_ok (K := sKeys) (val := natV) (v := .tuple #[.int .i64 0, .bool false]) _ rfl _ _ 104 3 rfl Try.underlying104 Try.zeroValue3 rfl HM1.out mo rfl HMO.out (by rw [HE.out]; rfl) ?_)
          | (at_mapUpdate; refine wpList_store (K := sKeys) (val := natV) _ rfl _ _ _ 104 3 rfl Try.underlying104 hcm rfl HM1.out mo rfl HMO.out j rfl ?_; intro w3 hm3 ht3; have HM3 := Lib.hid hm3; have HB3 := Lib.hid (HB1.out.trans (mapTurned_below (B := w.heap.size) ht3 (Nat.le_refl _) HM1.out.lt)); clear hm3 ht3 x0 x1 x2 q0 q1 q2)
          | fail)
        go_roundw
        case rel => exact ⟨j + 1, cntPut (firstI (l.take j)) mo cnt, by omega, by have h9 : cntPut (firstI (l.take j)) mo cnt ≤ cnt + 1 := (by unfold cntPut; split <;> omega); omega, by go_num, HB3, by rw [HNX.out]; exact HM3⟩
        case measure => simp [intOf]; omega
    · have hje : j = n := by omega
      have hlen : l.take j = l := by rw [hje, HN.out]; exact List.take_length
      rw [hlen] at HM
      subst hje
      clear hlen
      obtain ⟨wB, rfl⟩ : ∃ x, x = wr := ⟨wr, rfl⟩
      obtain ⟨i0, hi0, hz0, hz1, hz2⟩ := info_parts infoR
      obtain ⟨i1, hi1, hy0, hy1, hy2⟩ := info_parts infoI
      have HFB := Lib.hid (HF.out.below HB.out)
      clear HF
      go_wp2_with (first
        | (at_make; refine wpList_make_full _ rfl _ _ 86 rfl wB.heap.size intsT i0 _ 1 Try.underlying86 hi0 hz0 hz1 .i64 .i64 _ _ j rfl rfl rfl rfl (by rw [hz2]; omega) (by unfold maxLen; omega) (by simp) ?_; intro w2 hown2 hgr2)
        | go_in)
      have HBW : Hid (Below wB.heap.size wB w2) := (Below.refl _ _).grown hgr2 (Nat.le_refl _) (fun k hk => by cases hk)
      have HT0 := Lib.hid (TkAt.start hown2)
      clear hown2 hgr2
      generalize hob : wB.heap.size = ob at *
      have HOB := Lib.hid hob
      clear hob
      go_wp2_with fail
      go_loopw [42] (fun i wx => ∃ (k : Nat) (rows : Nat → Sv) (tk : Nat → List Nat), k ≤ j ∧ i = .int .i64 k ∧ Hid (Below ob wB wx) ∧ Hid (TkAt ob wx ob j rows tk) ∧ Hid (TkK l k [] 0 tk)) (fun i _ => j - (intOf i).toNat)
      case atStart => exact ⟨0, _, _, Nat.zero_le _, rfl, HBW, HT0, TkK.zero l⟩
      case round =>
        obtain ⟨k, rows, tk, hk, rfl, HBX, HTA, HTK⟩ := hrel
        clear HT0 HBW
        obtain ⟨wC, rfl⟩ : ∃ x, x = wr := ⟨wr, rfl⟩
        by_cases hlk : k < j
        · have hkl : k < l.length := by have := HN.out; omega
          obtain ⟨⟨_, ⟨p1, n1, c1⟩, ⟨p2, n2, c2⟩⟩, hfa⟩ := HFB.out.face k hkl
          have hbx : Below wB.heap.size wB wC := by rw [HOB.out]; exact HBX.out
          obtain ⟨⟨b, off, rfl, q0, q1, q2⟩, -, hpub⟩ := hfa.below hbx
          have HFI := Lib.hid (HFIT.out.at_ k hkl)
          have HKL := Lib.hid hkl
          obtain ⟨f, hfe⟩ : ∃ f, l.getD k fc0 = f := ⟨_, rfl⟩
          rw [hfe] at q0 hpub HFI
          obtain ⟨mo, own, pub⟩ := f
          have HFE := Lib.hid hfe
          clear hfe hfa
          simp only [svV] at q0 q1 q2 hpub
          have HC := Lib.hid (cellsAt_alloc wC [.string mo, .slice p1 n1 c1, .slice p2 n2 c2] fcT)
          obtain ⟨x0, x1, x2⟩ := fc3 HC.out
          have HB1 := Lib.hid (below_box wC (.cells #[.string mo, .slice p1 n1 c1, .slice p2 n2 c2] fcT))
          have HAS := Lib.hid (ascending_any p2 n2 c2 pub (by have := HFI.out.pubs; simp only at this; omega) _ (hpub.below HB1.out))
          clear hbx hpub HC hkl
          go_wp2_with (first
            | (go_at_call 61; refine HAS.out.mono ?_; rintro e w4 ⟨v, A, rfl, hA1, hA2, hA3, hA4, hA5⟩; obtain ⟨pa, ca, rfl, ha1, ha2, ha3⟩ := hA3; have HA3 : Hid (SlIs encS w4 (.slice pa A.length ca) A) := ⟨pa, ca, rfl, ha1, ha2, ha3⟩; clear ha3; have HA1 := Lib.hid hA1; have HA2 := Lib.hid hA2; have HA4 := Lib.hid hA4; have HA5 := Lib.hid (bnext HB1.out hA5); clear hA1 hA2 hA4 hA5 HAS x0 x1 x2)
            | fail)
          have HT4 := Lib.hid (HTA.out.same HA5.out)
          have HBX4 : Hid (Below ob wB w4) := HBX.out.trans (HA5.out.mono (by have h1 := HBX.out.size; have h2 := HOB.out; omega))
          have HK4 := Lib.hid (HTK.out.start A)
          have HFR : Hid (∀ a, pa = some a → a.block ≠ ob ∧ ∀ i, i < j → (svV (rows i)).ownBlock ≠ some a.block) := fun a e => by
            have h1 := HA4.out a A.length ca (by rw [e])
            rw [World.size_alloc] at h1
            refine ⟨fun q => ?_, fun i hi q => ?_⟩
            · obtain ⟨c, h2, -⟩ := HTA.out.block; have := heap_lt h2; omega
            · have := ((HTA.out.own i hi).lt _ q).2; omega
          have hAl : (A.length : Int) ≤ 100 := by have h1 := HA2.out; have h2 := HFI.out.pubs; simp only at h2; omega
          have HFA : Hid (∀ x ∈ A, x.size ≤ maxLen) := fun x hx => by have := HFI.out.pub x ((HA1.out x).1 hx); unfold maxLen; omega
          clear HTA HTK HA5 HA4
          generalize hAN : A.length = na at *
          have HAN := Lib.hid hAN
          clear hAN
          go_loopw [51] (fun i wx => ∃ (q : Nat) (rows : Nat → Sv) (tk : Nat → List Nat), q ≤ na ∧ i = .int .i64 q ∧ Hid (Below ob wB wx) ∧ Hid (TkAt ob wx ob j rows tk) ∧ Hid (TkK l k A q tk) ∧ Hid (SlIs encS wx (.slice pa na ca) A) ∧ Hid (∀ a, pa = some a → a.block ≠ ob ∧ ∀ i, i < j → (svV (rows i)).ownBlock ≠ some a.block)) (fun i _ => na - (intOf i).toNat)
          case atStart => exact ⟨0, _, _, Nat.zero_le _, rfl, HBX4, HT4, HK4, HA3, HFR⟩
          case round =>
            clear HT4 HBX4 HK4 HA3 HFR HBX
            obtain ⟨q, rows, tk, hq, rfl, HBX, HTA, HTK, HSA, HFR⟩ := hrel
            by_cases hlq : q < na
            · have hql : q < A.length := by rw [HAN.out]; exact hlq
              obtain ⟨ba, oa, rfl, hca⟩ := (HSA.out.lies).2.2.2 (by omega)
              have y0 := sAt hca q hql
              have HX := Lib.hid (HFA.out (A.getD q ByteArray.empty) (by simp [List.getD, List.getElem?_eq_getElem hql]))
              have HMX := Lib.hid (HM.out.below HBX.out (by have := HM.out.lt; have := HOB.out; omega))
              cases e : firstI l (A.getD q ByteArray.empty) with
              | none =>
                have HE := Lib.hid e
                have HTN := Lib.hid (HTK.out.skip hql e)
                clear e hca hql
                generalize A.getD q ByteArray.empty = m at *
                go_wp2_with (first
                  | (at_lookup; refine wpList_look_ok (K := sKeys) (val := natV) (v := .tuple #[.int .i64 0, .bool false]) _ rfl _ _ 104 3 rfl Try.underlying104 Try.zeroValue3 rfl HMX.out m rfl HX.out (by rw [HE.out]; rfl) ?_)
                  | fail)
                go_roundw
                case rel => exact ⟨q + 1, rows, tk, by omega, by go_num, HBX, HTA, HTN, HSA, HFR⟩
                case measure => simp [intOf]; omega
              | some t0 =>
                have HE := Lib.hid e
                have ht0 : t0 < j := by have := firstI_lt e; have := HN.out; omega
                have HTN := Lib.hid (HTK.out.hit hql e)
                have hfew := HTK.out.few t0
                have hkq : 100 * k + q ≤ 20000 := by omega
                clear e hca hql
                generalize A.getD q ByteArray.empty = m at *
                obtain ⟨z0, z1⟩ := HTA.out.slot ht0
                have HOW := Lib.hid (HTA.out.own t0 ht0)
                obtain ⟨⟨pr, nr, cr⟩, hrw⟩ : ∃ s, rows t0 = s := ⟨_, rfl⟩
                rw [hrw] at z0 HOW
                have HRW := Lib.hid hrw
                have HT0 := Lib.hid ht0
                have ht0i : (t0 : Int) < j := by omega
                have HTA1 := Lib.hid (HTA.out.same (below_box wr (.cells #[.int .i64 k] intT)))
                have HSA1 := Lib.hid (HSA.out.below (below_box wr (.cells #[.int .i64 k] intT)))
                have HOW1 := Lib.hid (OwnL.alloc HOW.out (.cells #[.int .i64 k] intT))
                have HLIT := Lib.hid (cellsAt_alloc wr [.int .i64 k] intT)
                have HBS : Hid (ob ≤ wr.heap.size) := by obtain ⟨c, h1, _⟩ := HTA.out.block; have := heap_lt h1; unfold Hid; omega
                have hfew2 : (tk t0).length + 1 ≤ 30000 := by omega
                simp only [svV] at z0
                clear hrw hfew hkq z1 HTA HOW HSA
                go_wp2_with (first
                  | (at_lookup; refine wpList_look_ok (K := sKeys) (val := natV) (v := .tuple #[.int .i64 t0, .bool true]) _ rfl _ _ 104 3 rfl Try.underlying104 Try.zeroValue3 rfl HMX.out m rfl HX.out (by rw [HE.out]; rfl) ?_)
                  | (at_builtin; refine wpList_append_own_at _ rfl (.tmp 67) (.tmp 69) intsT rfl ob intT i1 (.int .i64 0) 1 8 Try.underlying22 hi1 hy0 hy1 hy2 ?_ ?_ (.slice pr nr cr) (tk t0).length (encI.all (tk t0)) ?_ ?_ ⟨wr.heap.size, 0, none⟩ 1 1 [.int .i64 k] ?_ ?_ ?_ ?_ ?_ ?_ ?_ ?_)
                  | fail)
                · rfl
                · decide
                · rfl
                · exact HOW1.out
                · rfl
                · rfl
                · exact fun j u hu => by rw [add_lit]; exact HLIT.out j u hu
                · exact fun u hu => by simp at hu; subst hu; rfl
                · unfold maxLen; omega
                · omega
                · simp; have := HBS.out; omega
                · intro v' w5 hown5 hgrow5 _ hat5
                  have hown6 : OwnL encI intT w5 ob v' (tk t0 ++ [k]) := by
                    unfold OwnL
                    rw [List.length_append, encI.all_append]
                    exact hown5
                  obtain ⟨⟨ps, ns, cs⟩, rfl, -⟩ := own_sv hown6
                  have hgr : (wr.alloc (.cells #[.int .i64 k] intT)).grownBy w5 (svV (rows t0)).ownBlock := by rw [HRW.out]; exact hgrow5
                  have hat : (svV (ps, ns, cs)).ownBlock = (svV (rows t0)).ownBlock ∨ ∃ b, (svV (ps, ns, cs)).ownBlock = some b ∧ (wr.alloc (.cells #[.int .i64 k] intT)).heap.size ≤ b := by
                    rw [HRW.out]
                    rcases hat5 with q | q
                    · exact .inl q
                    · exact .inr ⟨_, q, by simp⟩
                  have HP := Lib.hid (HTA1.out.push HT0.out hown6 hgr hat)
                  obtain ⟨g0, g1⟩ := HTA1.out.grown HT0.out hgr
                  have hne : ∀ a : Addr, (some ⟨ba, oa, none⟩ : Option Addr) = some a → some a.block ≠ (svV (rows t0)).ownBlock := fun a e => by
                    have := (HFR.out a e).2 t0 HT0.out
                    exact fun q => this q.symm
                  have HSA5 := Lib.hid (slS_grown HSA1.out hgr hne)
                  have HAT := Lib.hid hat
                  have HBA : Hid (ba < wr.heap.size) := World.block_lt_of_cell? wr _ y0
                  rw [HRW.out] at g0
                  simp only [svV] at g0 HP ⊢
                  clear hown5 hown6 hgrow5 hat5 hgr hat hne HSA1 HTA1 HOW1 HLIT y0 z0
                  go_wp2_with fail
                  go_roundw
                  case rel =>
                    refine ⟨q + 1, setN rows t0 (ps, ns, cs), setN tk t0 (tk t0 ++ [k]), by omega, by go_num, ?_, HP.out.1, HTN, ?_, ?_⟩
                    · exact HBX.out.trans (((below_box wr (.cells #[.int .i64 k] intT)).mono HBS.out).trans HP.out.2)
                    · refine slS_grown HSA5.out (row := some ob) ?_ (fun a e => by have := (HFR.out a e).1; simpa using this)
                      exact set_grown _ _ _ _
                    · intro a e
                      refine ⟨(HFR.out a e).1, fun i hi => ?_⟩
                      by_cases q : i = t0
                      · subst q
                        rw [setN_same]
                        rcases HAT.out with r | ⟨b, r, hb⟩
                        · rw [r]; exact (HFR.out a e).2 i hi
                        · rw [r]
                          intro s
                          injection s with s
                          injection e with e
                          have h1 := HBA.out
                          rw [World.size_alloc] at hb
                          rw [← e] at s
                          simp only at s
                          omega
                      · rw [setN_ne _ _ q]
                        exact (HFR.out a e).2 i hi
                  case measure => simp [intOf]; omega
            · obtain rfl : q = na := by omega
              have hdone := TkK.done (by rw [HAN.out]; exact HTK.out) (show k < l.length by have := HN.out; omega) (by rw [HFE.out]; exact HA1.out) (by rw [HAN.out]; omega)
              have HDN := Lib.hid hdone
              clear hdone HTK
              go_wp2_with fail
              go_roundw
              case rel => exact ⟨k + 1, rows, tk, by omega, by go_num, HBX, HTA, HDN⟩
              case measure => simp [intOf]; omega
        · obtain rfl : k = j := by omega
          have HALL := Lib.hid (TkK.all (by rw [← HN.out]; exact HTK.out))
          have HFEW := Lib.hid HTK.out.few
          have HBE : Hid (Below w.heap.size w wC) := HB.out.trans (HBX.out.mono (by have h1 := HB.out.size; have h2 := HOB.out; omega))
          have HTE := Lib.hid (HTA.out.base (B' := w.heap.size) (by have h1 := HB.out.size; have h2 := HOB.out; omega))
          clear HTK HBX HTA
          go_wp2_with fail
          go_ret
          exact ⟨ob, rows, tk, rfl, HALL.out, fun i => by have := HFEW.out i; omega, HTE.out, HBE.out⟩
end Go.Proofs.Ytheigpiffdabnaa.Mds
