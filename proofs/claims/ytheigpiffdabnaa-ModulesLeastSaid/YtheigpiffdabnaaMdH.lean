/-
  CONTRACTS: the faces that the statements of modules make.
-/
import Derived.Test.YtheigpiffdabnaaMdG
namespace Go.Proofs.Ytheigpiffdabnaa.Mds
open Go Go.RowKit Go.Maps
set_option linter.unusedVariables false
set_option linter.unusedSimpArgs false
set_option maxRecDepth 1000000

/-- a face under way -/
structure Fb (d : Dice) (wS wr : World) (s0 yb : Nat) (mo : ByteArray) (so sp : Sv) (L P : List ByteArray) : Prop where
  dr : Dr d s0 wS wr
  good : DiceAt d wr
  size : s0 ≤ wr.heap.size
  box : BoxC wr yb #[.string mo, svV so, svV sp] fcT
  yb : s0 ≤ yb
  own : OwnL encS strT wr s0 (svV so) L
  pub : OwnL encS strT wr s0 (svV sp) P
  dif : (svV so).ownBlock = none ∨ (svV so).ownBlock ≠ (svV sp).ownBlock
theorem Fb.lt {d : Dice} {wS wr : World} {s0 yb : Nat} {mo : ByteArray} {so sp : Sv} {L P : List ByteArray} (h : Fb d wS wr s0 yb mo so sp L P) : yb < wr.heap.size := heap_lt h.box
/-- a box is no row of strings -/
theorem box_row {w : World} {B yb : Nat} {cs : Array Value} {v : Value} {L : List ByteArray} (hb : BoxC w yb cs fcT) (h : OwnL encS strT w B v L) : some yb ≠ v.ownBlock := by
  unfold BoxC at hb
  rcases h.2 with ⟨rfl, _⟩ | ⟨g, cap, cur, rfl, _, hg, -⟩
  · intro q; cases q
  · intro q
    injection q with q
    subst q
    rw [hb] at hg
    injection hg with hg
    injection hg with _ hg _
    cases hg
theorem own_svS {B : Nat} {wr : World} {v : Value} {L : List ByteArray} (h : OwnL encS strT wr B v L) : ∃ s, v = svV s := by
  rcases h.2 with ⟨rfl, h0⟩ | ⟨g, cap, cur, rfl, hb, hg, -⟩
  · exact ⟨sv0, rfl⟩
  · exact ⟨(some ⟨g, 0, none⟩, L.length, cap), rfl⟩
theorem Fb.dice {d : Dice} {wS wr wx : World} {s0 yb : Nat} {mo : ByteArray} {so sp : Sv} {L P : List ByteArray} (h : Fb d wS wr s0 yb mo so sp L P) (ht : Thrown d wr wx) (hD : d.D < s0) : Fb d wS wx s0 yb mo so sp L P := by
  have hd : Dr d wr.heap.size wr wx := Dr.of_thrown ht (by have := h.size; omega)
  exact ⟨h.dr.trans (hd.mono h.size), ht.good, Nat.le_trans h.size hd.size, box_dr h.box hd (by have := h.yb; omega) h.lt, h.yb, own_dr h.own hd hD (Nat.le_refl _), own_dr h.pub hd hD (Nat.le_refl _), h.dif⟩
/-- what holds in a region that throws and appends to a row -/
structure InvF (d : Dice) (s0 yb : Nat) (cs : Array Value) (so : Sv) (L : List ByteArray) (wx W : World) : Prop where
  dr : Dr d s0 wx W
  good : DiceAt d W
  size : wx.heap.size ≤ W.heap.size
  box : BoxC W yb cs fcT
  own : OwnL encS strT W s0 (svV so) L
theorem InvF.a {d : Dice} {s0 yb : Nat} {cs : Array Value} {so : Sv} {L : List ByteArray} {wx W W' : World} (h : InvF d s0 yb cs so L wx W) (hl : AD d W W') (hs : s0 ≤ wx.heap.size) (hD : d.D < s0) (hy : s0 ≤ yb) : InvF d s0 yb cs so L wx W' :=
  ⟨h.dr.trans (hl.mono (by have := h.size; omega)), hl.good h.good, Nat.le_trans h.size hl.size, box_dr h.box hl (by omega) (heap_lt h.box), own_dr h.own hl hD (Nat.le_refl _)⟩
theorem InvF.c {d : Dice} {s0 yb : Nat} {cs : Array Value} {so : Sv} {L : List ByteArray} {wx W W' : World} {row : Option Nat} (h : InvF d s0 yb cs so L wx W) (hl : W.grownBy W' row) (hs : s0 ≤ wx.heap.size) (hlow : DcLow d s0) (hr : ∀ k, row = some k → s0 ≤ k) (hyr : some yb ≠ row) (hor : (svV so).ownBlock = none ∨ (svV so).ownBlock ≠ row) : InvF d s0 yb cs so L wx W' := by
  have hb : Below s0 W W' := (Below.refl _ _).grown hl (by have := h.size; omega) hr
  have hd := Dr.of_below hb hlow
  refine ⟨h.dr.trans hd, hd.good h.good, Nat.le_trans h.size hl.size, ?_, World.ownsRow.kept h.own hl hor⟩
  have := h.box
  unfold BoxC at this ⊢
  rw [hl.block yb (heap_lt this) hyr]
  exact this
theorem set_dr {d : Dice} {s0 yb i : Nat} {w : World} {v : Value} (hlow : DcLow d s0) (hy : s0 ≤ yb) : Dr d s0 w (w.setCell ⟨yb, i, none⟩ v) :=
  Dr.of_below ((Below.refl _ _).setCell (p := ⟨yb, i, none⟩) hy v) hlow
theorem Fb.pushO {d : Dice} {wS wx w2 : World} {s0 yb : Nat} {mo s : ByteArray} {so s' : Sv} {L : List ByteArray} (h : Fb d wS wx s0 yb mo so sv0 L []) (hI : InvF d s0 yb #[.string mo, svV so, svV sv0] sv0 [] wx.drew w2) (ho : OwnL encS strT w2 s0 (svV s') (L ++ [s])) (hlow : DcLow d s0) : Fb d wS (w2.setCell ⟨yb, 1, none⟩ (svV s')) s0 yb mo s' sv0 (L ++ [s]) [] := by
  have hs := set_dr (d := d) (i := 1) (w := w2) (v := svV s') hlow h.yb
  have hd0 : Dr d s0 wx wx.drew := Dr.of_below ((Below.refl _ _).drew) hlow
  refine ⟨((h.dr.trans hd0).trans hI.dr).trans hs, hs.good hI.good, ?_, heap_setCell_same _ _ 1 _ _ (svV s') hI.box, h.yb, World.ownsRow.kept ho (set_grown _ _ _ _) (.inr (fun e => box_row hI.box ho e.symm)), OwnL.isNil _ _ _ _, ?_⟩
  · have h1 := h.size; have h2 := hI.size; have h3 := hs.size; have h4 : wx.drew.heap.size = wx.heap.size := rfl; omega
  · cases e : (svV s').ownBlock with
    | none => exact .inl rfl
    | some k => exact .inr (fun q => by cases q)
theorem Fb.pushP {d : Dice} {wS wx w2 : World} {s0 yb : Nat} {mo s : ByteArray} {so sp s' : Sv} {L P : List ByteArray} (h : Fb d wS wx s0 yb mo so sp L P) (hI : InvF d s0 yb #[.string mo, svV so, svV sp] so L wx.drew w2) (ho : OwnL encS strT w2 s0 (svV s') (P ++ [s])) (hlow : DcLow d s0)
    (hat : (svV s').ownBlock = (svV sp).ownBlock ∨ ∃ k, (svV s').ownBlock = some k ∧ wx.drew.heap.size ≤ k) : Fb d wS (w2.setCell ⟨yb, 2, none⟩ (svV s')) s0 yb mo so s' L (P ++ [s]) := by
  have hs := set_dr (d := d) (i := 2) (w := w2) (v := svV s') hlow h.yb
  have hd0 : Dr d s0 wx wx.drew := Dr.of_below ((Below.refl _ _).drew) hlow
  refine ⟨((h.dr.trans hd0).trans hI.dr).trans hs, hs.good hI.good, ?_, heap_setCell_same _ _ 2 _ _ (svV s') hI.box, h.yb, World.ownsRow.kept hI.own (set_grown _ _ _ _) (.inr (fun e => box_row hI.box hI.own e.symm)), World.ownsRow.kept ho (set_grown _ _ _ _) (.inr (fun e => box_row hI.box ho e.symm)), ?_⟩
  · have h1 := h.size; have h2 := hI.size; have h3 := hs.size; have h4 : wx.drew.heap.size = wx.heap.size := rfl; omega
  · rcases hat with q | ⟨k, q, hk⟩
    · rw [q]; exact h.dif
    · cases e : (svV so).ownBlock with
      | none => exact .inl rfl
      | some j =>
        right
        rw [q]
        intro r
        injection r with r
        have h1 := (World.ownsRow.lt h.own j e).2
        have h4 : wx.drew.heap.size = wx.heap.size := rfl
        omega
def namesO : List ByteArray := [⟨#[120]⟩, ⟨#[121]⟩, ⟨#[122]⟩, ⟨#[105, 109, 112, 108, 32, 120, 32, 102, 111, 114, 32, 121]⟩, ⟨#[119]⟩]
def namesP : List ByteArray := [⟨#[97]⟩, ⟨#[98]⟩, ⟨#[99]⟩, ⟨#[100]⟩, ⟨#[101]⟩]
def namesM : List ByteArray := [⟨#[97]⟩, ⟨#[98]⟩, ⟨#[99]⟩, ⟨#[100]⟩]
theorem DcLow.mono {d : Dice} {B B' : Nat} (h : DcLow d B) (hb : B ≤ B') : DcLow d B' := ⟨by have := h.1; omega, fun b o hp hn => by have := h.2 b o hp hn; omega⟩
theorem infoFc : (Try.prog.info? fcT).map (fun i => (i.zero, i.size, i.bytes)) = some (some (.agg #[.string ⟨#[]⟩, .slice none 0 0, .slice none 0 0]), 3, 64) := by kernel_rfl
theorem thrown_allocD {d : Dice} {w : World} (h : DiceAt d w) (o : Obj) : Thrown d w (w.alloc o) := by
  have hb := below_box w o
  have hs := h.still (But.of_below (M := fun _ => False) hb) (fun _ _ _ _ q => q) (fun _ q => q)
  exact ⟨But.of_below hb, hs.1, Nat.le_of_eq hs.2.symm⟩

/-- the faces that are done -/
structure FcRow (w : World) (B : Nat) (R : List (ByteArray × Sv × Sv)) (l : List Fc) : Prop where
  len : R.length = l.length
  at_ : ∀ (i : Nat) (f : Fc) (r : ByteArray × Sv × Sv), l[i]? = some f → R[i]? = some r → r.1 = f.mo ∧ OwnL encS strT w B (svV r.2.1) f.own ∧ OwnL encS strT w B (svV r.2.2) f.pub
theorem face_row {w : World} {B yb : Nat} {v u : Value} {L : List ByteArray} {R : List (ByteArray × Sv × Sv)} (hb : OwnL encFc fcT w B v R) (h : OwnL encS strT w B u L) : u.ownBlock = none ∨ u.ownBlock ≠ v.ownBlock := by
  rcases h.2 with ⟨rfl, _⟩ | ⟨g, cap, cur, rfl, _, hg, -⟩
  · exact .inl rfl
  · right
    rcases hb.2 with ⟨rfl, _⟩ | ⟨g2, cap2, cur2, rfl, _, hg2, -⟩
    · intro q; cases q
    · intro q
      injection q with q
      simp only at q
      subst q
      rw [hg] at hg2
      injection hg2 with hg2
      injection hg2 with _ hg2 _
      cases hg2
theorem FcRow.push {w w4 w5 : World} {B s0 : Nat} {R : List (ByteArray × Sv × Sv)} {l : List Fc} {mo : ByteArray} {so sp : Sv} {L P : List ByteArray} {v : Value} (h : FcRow w B R l) (ho : OwnL encS strT w s0 (svV so) L) (hp : OwnL encS strT w s0 (svV sp) P) (hbl : Below w.heap.size w w4) (hg : w4.grownBy w5 v.ownBlock) (hv : OwnL encFc fcT w4 B v R) (hB : B ≤ s0) : FcRow w5 B (R ++ [(mo, so, sp)]) (l ++ [⟨mo, L, P⟩]) := by
  have key : ∀ {u : Value} {M : List ByteArray}, OwnL encS strT w B u M → OwnL encS strT w5 B u M := fun h1 => by
    have h2 := OwnL.below h1 hbl
    exact World.ownsRow.kept h2 hg (face_row (yb := 0) hv h2)
  refine ⟨by simp [h.len], fun i f r hf hr => ?_⟩
  by_cases e : i < l.length
  · rw [List.getElem?_append_left e] at hf
    rw [List.getElem?_append_left (by rw [h.len]; exact e)] at hr
    obtain ⟨h1, h2, h3⟩ := h.at_ i f r hf hr
    exact ⟨h1, key h2, key h3⟩
  · rw [List.getElem?_append_right (by omega)] at hf
    rw [List.getElem?_append_right (by rw [h.len]; omega), h.len] at hr
    have e0 : i - l.length = 0 := by
      have := (List.getElem?_eq_some_iff.1 hf).1
      simp at this
      omega
    rw [e0] at hf hr
    simp at hf hr
    subst hf; subst hr
    exact ⟨rfl, key (own_base ho hB), key (own_base hp hB)⟩
structure FcMade (f : Fc) : Prop where
  mo : f.mo.size ≤ 12
  own : ∀ s ∈ f.own, s.size ≤ 12
  pub : ∀ s ∈ f.pub, s.size ≤ 12
  owns : f.own.length ≤ 3
  pubs : f.pub.length ≤ 3

set_option maxHeartbeats 8000000 in
theorem faces_any (d : Dice) (w : World) (hd : DiceAt d w) :
    Calls Try.prog 21 #[.pointer (some ⟨d.D, 0, none⟩)] w fun e w' => ∃ v R l, e = .returned v ∧ OwnL encFc fcT w' w.heap.size v R ∧ FcRow w' w.heap.size R l ∧ (∀ f ∈ l, FcMade f) ∧ l.length ≤ 4 ∧ Thrown d w w' := by
  have HLW := Lib.hid (dcLow hd)
  have HD := Lib.hid hd
  clear hd
  obtain ⟨i0, hi0, hz0, hz1, hz2⟩ := info_parts (infoFc)
  go_enter Try.func21, Try.ntmps21
  go_wp2_with (first
    | (go_at_call 12; refine (next_any d 5 _ HD.out (by omega) (by omega)).mono ?_; rintro e w1 ⟨k0, hk0, rfl, ht0, -⟩; have HT0 := Lib.hid ht0; clear ht0)
    | fail)
  go_loopw [3, 4] (fun v i wr => ∃ (k : Nat) (R : List (ByteArray × Sv × Sv)) (l : List Fc), k + l.length ≤ 4 ∧ i = .int .i64 k ∧ Hid (OwnL encFc fcT wr w.heap.size v R) ∧ Hid (FcRow wr w.heap.size R l) ∧ Hid (∀ f ∈ l, FcMade f) ∧ Hid (Thrown d w wr)) (fun _ i _ => (intOf i).toNat)
  case atStart => exact ⟨k0, [], [], by simp; omega, rfl, OwnL.isNil _ _ _ _, ⟨rfl, fun i f r h => by cases h⟩, fun f h => (by cases h), HT0⟩
  case round =>
    clear HT0
    obtain ⟨k, R, l, hk, rfl, HO, HR, HM, HT⟩ := hrel
    obtain ⟨wS, rfl⟩ : ∃ x, x = wr := ⟨wr, rfl⟩
    by_cases hlt : 0 < k
    · have hki : (0 : Int) < k := by omega
      have HDS : Hid (w.heap.size ≤ wS.heap.size) := HT.out.but.size
      have HSH := Lib.hid (shorts_lit 12 wS namesM (by decide) strT)
      have HTA := Lib.hid (thrown_allocD HT.out.good (.cells #[.string ⟨#[97]⟩, .string ⟨#[98]⟩, .string ⟨#[99]⟩, .string ⟨#[100]⟩] strT))
      have HOF := Lib.hid (of_any d 12 4 4 wS.heap.size 0 (wS.alloc (.cells #[.string ⟨#[97]⟩, .string ⟨#[98]⟩, .string ⟨#[99]⟩, .string ⟨#[100]⟩] strT)) HTA.out.good (by omega) (by omega) HSH.out (by have h1 := HLW.out.1; have h2 := HDS.out; omega))
      go_wp2_with (first
        | (go_at_call 15; refine HOF.out.mono ?_; rintro e w3 ⟨mo, hmo, rfl, ht3⟩; have HT3 := Lib.hid (HTA.out.trans ht3); have HMO := Lib.hid hmo
           have HF4 : Hid (Fb d wS (w3.alloc (.cells #[.string mo, .slice none 0 0, .slice none 0 0] fcT)) wS.heap.size w3.heap.size mo sv0 sv0 [] []) := by
             have h1 := (HTA.out.trans ht3)
             have hD : d.D < wS.heap.size := Nat.lt_of_lt_of_le HLW.out.1 HDS.out
             have h2 := Dr.of_thrown h1 hD
             have hlow := HLW.out.mono HDS.out
             have h3 : Dr d wS.heap.size w3 (w3.alloc (.cells #[.string mo, .slice none 0 0, .slice none 0 0] fcT)) := Dr.of_below ((below_box w3 _).mono h2.size) hlow
             exact ⟨h2.trans h3, h3.good h1.good, Nat.le_trans h2.size h3.size, heap_alloc_new w3 _, h2.size, OwnL.isNil _ _ _ _, OwnL.isNil _ _ _ _, .inl rfl⟩
           have HLOW := Lib.hid (HLW.out.mono HDS.out)
           have HW3 : Hid (wS.heap.size ≤ w3.heap.size) := (HTA.out.trans ht3).but.size
           clear ht3 hmo HOF HTA HSH
           generalize hs0 : wS.heap.size = s0 at *
           have HS0E := Lib.hid hs0
           clear hs0)
        | (go_at_call 12; refine (next_any d 4 _ HF4.out.good (by omega) (by omega)).mono ?_; rintro e w5 ⟨k1, hk1, rfl, ht5, -⟩; have HF5 := Lib.hid (HF4.out.dice ht5 HLOW.out.1); clear ht5 HF4)
        | fail)
      generalize hyb : w3.heap.size = yb at *
      clear hyb
      go_loopw [6] (fun i wx => ∃ (c : Nat) (so : Sv) (L : List ByteArray), c + L.length ≤ 3 ∧ i = .int .i64 c ∧ Hid (Fb d wS wx s0 yb mo so sv0 L []) ∧ Hid (∀ s ∈ L, s.size ≤ 12)) (fun i _ => (intOf i).toNat)
      case atStart => exact ⟨k1, sv0, [], by simp; omega, rfl, HF5, fun s h => by cases h⟩
      case round =>
        clear HF5
        obtain ⟨c, ⟨pz, nz, cz⟩, Z, hc, rfl, HF, HZS⟩ := hrel
        obtain ⟨wx, rfl⟩ : ∃ x, x = wr := ⟨wr, rfl⟩
        by_cases hc0 : 0 < c
        · have hci : (0 : Int) < c := by omega
          have HZL : Hid (Z.length ≤ 100000) := by unfold Hid; omega
          have HSW : Hid (s0 ≤ wx.drew.heap.size) := HF.out.size
          have HYB := Lib.hid HF.out.yb
          obtain ⟨row, hrow⟩ : ∃ row, row = (Value.slice pz nz cz).ownBlock := ⟨_, rfl⟩
          have HRE := Lib.hid hrow
          clear hrow
          have HRW : Hid (∀ j, row = some j → s0 ≤ j ∧ j < wx.drew.heap.size) := fun j e => World.ownsRow.lt HF.out.own j (by rw [← e]; exact HRE.out.symm)
          have HYR : Hid (some yb ≠ row) := by rw [Hid, HRE.out]; exact box_row HF.out.box HF.out.own
          have HOR : Hid ((svV sv0).ownBlock = none ∨ (svV sv0).ownBlock ≠ row) := .inl rfl
          have HI0 : Hid (InvF d s0 yb #[.string mo, .slice pz nz cz, .slice none 0 0] sv0 [] wx.drew wx.drew) := ⟨Dr.refl _ _ _, (Dr.of_below ((Below.refl s0 wx).drew) HLOW.out).good HF.out.good, Nat.le_refl _, HF.out.box, OwnL.isNil _ _ _ _⟩
          have HP0 : Hid (OwnL encS strT wx.drew s0 (.slice pz nz cz) Z) := OwnL.drewN HF.out.own 1
          go_wp2_with fail
          apply wp_region_one 6 8 (AD d) (fun x y => x.grownBy y row) (fun W => InvF d s0 yb #[.string mo, .slice pz nz cz, .slice none 0 0] sv0 [] wx.drew W) (fun W => OwnL encS strT W s0 (.slice pz nz cz) Z) (fun _ _ => False)
          case hIA => (intro x y hl h; exact h.a hl HSW.out HLOW.out.1 HYB.out)
          case hIC => (intro x y hl h; exact h.c hl HSW.out HLOW.out (fun k e => (HRW.out k e).1) HYR.out HOR.out)
          case hPA => (intro x y hl h; exact own_dr h hl HLOW.out.1 (Nat.le_refl _))
          case hm => kernel_rfl
          case hB => kernel_rfl
          case h0 => exact HI0.out
          case h1 => exact HP0.out
          case hP => (rintro k a' W hf hd; exact hf.elim)
          simp only [List.take_succ_cons, List.take_zero, List.drop_succ_cons, List.drop_zero]
          apply wpOne_cons (t := tvIs _) (tvIs_good _ _)
          case h1 => (intro W hI hl; clear hI hl; unfold oneAt; go_simp; exact one_isD (by decide))
          intro _
          rw [tvIs_f]
          go_simp
          apply wpOne_cons (t := tvIs _) (tvIs_good _ _)
          case h1 => (intro W hI hl; obtain ⟨y0, y1, y2⟩ := fc3 (BoxC.cells (cs := [.string mo, .slice pz nz cz, .slice none 0 0]) hI.box); clear hI hl; unfold oneAt; go_simp; exact one_isD (by decide))
          intro _
          rw [tvIs_f]
          go_simp
          apply wpOne_cons (t := tvIs _) (tvIs_good _ _)
          case h1 => (intro W hI hl; clear hI hl; unfold oneAt; go_simp; exact one_isD (by decide))
          intro _
          rw [tvIs_f]
          go_simp
          apply wpOne_cons (t := tvSh d row 12 5) (tvSh_good _ _ _ _ _ _)
          case h1 => (intro W hI hl; have h1 := HLOW.out.mono (Nat.le_trans HSW.out hI.size); have h2 : ∀ j, row = some j → j < W.heap.size := (fun j e => Nat.lt_of_lt_of_le (HRW.out j e).2 hI.size); clear hI hl; unfold oneAt; go_simp; exact tvSh_mk (c := 6) (k := 3) (l := namesO) (m := 5) (by decide) rfl rfl h1 h2 (by decide))
          rintro ⟨nb, -⟩
          rw [tvSh_f]
          go_simp
          apply wpOne_cons (t := tvStr 12) (tvStr_good _ _ _ _ _)
          case h1 => (intro W hI hl; have hx := lean_ofD hl 3 (by kernel_rfl); simp [upd, preAt] at hx; have hx1 : Shorts 12 W (some ⟨nb, 0, none⟩) 5 := hx.1; have hx2 : nb ≠ d.D := hx.2.2.2; have hgd := hI.good; have hDW : d.D < W.heap.size := Nat.lt_of_lt_of_le HLOW.out.1 (Nat.le_trans HSW.out hI.size); clear hI hl hx; unfold oneAt; go_simp; refine (of_any d 12 5 5 nb 0 W hgd (by omega) (by omega) hx1 hx2).mono ?_; rintro e w'' ⟨s, hs, rfl, ht⟩; exact .inl ⟨⟨s, hs⟩, rfl, by unfold sel; rw [if_neg (by decide)]; exact Dr.of_thrown ht hDW, trivial⟩)
          rintro ⟨s, hs⟩
          rw [tvStr_f]
          go_simp
          apply wpOne_cons (t := tvOneS d row 12) (tvOneS_good _ _ _ _ _)
          case h1 => (intro W hI hl; have h1 := HLOW.out.mono (Nat.le_trans HSW.out hI.size); have h2 : ∀ j, row = some j → j < W.heap.size := (fun j e => Nat.lt_of_lt_of_le (HRW.out j e).2 hI.size); clear hI hl; unfold oneAt; go_simp; exact tvOneS_mk (c := 6) (k := 5) hs h1 h2 (by decide))
          rintro ⟨⟨sb, s2⟩, hs2⟩
          rw [tvOneS_f]
          go_simp
          apply wpOne_cons (t := tvAppS row wx.drew.heap.size s0 Z 12) (tvAppS_good _ _ _ _ _ _ _ HLOW.out.1)
          case h1 => (
            intro W hI hl
            have hP : OwnL encS strT W s0 (.slice pz nz cz) Z := hl.1 rfl
            have hc := lean_ofD hl 5 (by kernel_rfl)
            simp [upd, preAt] at hc
            have hc1 : CellsAt W sb 0 [.string s2] := hc.1
            obtain ⟨v', w', hr, ho⟩ := tvAppS_mk (d := d) (c := 6) (Pn := fun _ _ => False) hP HRE.out hc1 hs2 HZL.out (Nat.le_trans HSW.out hI.size) (B := wx.drew.heap.size) hI.size 54
            clear hI hl hP hc hc1
            exact oneAt_appendS rfl rfl rfl rfl hr ho)
          rintro ⟨⟨v', s3⟩, hs3⟩
          rw [tvAppS_f]
          go_simp
          apply wpOne_cons (t := tvIs _) (tvIs_good _ _)
          case h1 => (intro W hI hl; clear hI hl; unfold oneAt; go_simp; exact one_isD (by decide))
          intro _
          rw [tvIs_f]
          go_simp
          apply wpOne_nil (Ts := [])
          intro w2 hI hF
          have hfin := hF 6
          simp [upd, preAt] at hfin
          have ho2 : OwnL encS strT w2 s0 v' (Z ++ [s3]) := hfin.1
          obtain ⟨s', rfl⟩ := own_svS ho2
          have HFN := Lib.hid (HF.out.pushO hI ho2 HLOW.out)
          obtain ⟨g0, g1, g2⟩ := fc3 (BoxC.cells (cs := [.string mo, .slice pz nz cz, .slice none 0 0]) hI.box)
          have gf := fun i => Lib.frozen_of_heap hI.box i
          have HSS := Lib.hid hs3
          clear hfin hF hI ho2 HI0 HP0 hs hs2 hs3
          obtain ⟨ps, ns, cs⟩ := s'
          simp only [svV] at HFN ⊢
          go_wp2_with fail
          go_roundw
          case rel => exact ⟨c - 1, (ps, ns, cs), Z ++ [s3], by simp; omega, by go_num, HFN, fun u hu => by rcases List.mem_append.1 hu with q | q; exact HZS.out u q; rw [List.mem_singleton] at q; subst q; exact HSS.out⟩
          case measure => simp [intOf]; omega
        · have : c = 0 := by omega
          subst this
          have HL := HZS
          have HLn : Hid (Z.length ≤ 3) := by unfold Hid; omega
          clear HZS
          generalize Z = L at *
          go_wp2_with (first
            | (go_at_call 12; refine (next_any d 4 _ HF.out.good (by omega) (by omega)).mono ?_; rintro e w5 ⟨k2, hk2, rfl, ht5, -⟩; have HF5 := Lib.hid (HF.out.dice ht5 HLOW.out.1); clear ht5 HF)
            | fail)
          generalize pz = po at *
          generalize nz = no at *
          generalize cz = co at *
          go_loopw [7] (fun i wx => ∃ (c : Nat) (sp : Sv) (P : List ByteArray), c + P.length ≤ 3 ∧ i = .int .i64 c ∧ Hid (Fb d wS wx s0 yb mo (po, no, co) sp L P) ∧ Hid (∀ s ∈ P, s.size ≤ 12)) (fun i _ => (intOf i).toNat)
          case atStart => exact ⟨k2, sv0, [], by simp; omega, rfl, HF5, fun s h => by cases h⟩
          case round =>
            clear HF5
            obtain ⟨c, ⟨pz, nz, cz⟩, Z, hc, rfl, HF, HZS⟩ := hrel
            obtain ⟨wx, rfl⟩ : ∃ x, x = wr := ⟨wr, rfl⟩
            by_cases hc0 : 0 < c
            · have hci : (0 : Int) < c := by omega
              have HZL : Hid (Z.length ≤ 100000) := by unfold Hid; omega
              have HSW : Hid (s0 ≤ wx.drew.heap.size) := HF.out.size
              have HYB := Lib.hid HF.out.yb
              obtain ⟨row, hrow⟩ : ∃ row, row = (Value.slice pz nz cz).ownBlock := ⟨_, rfl⟩
              have HRE := Lib.hid hrow
              clear hrow
              have HRW : Hid (∀ j, row = some j → s0 ≤ j ∧ j < wx.drew.heap.size) := fun j e => World.ownsRow.lt HF.out.pub j (by rw [← e]; exact HRE.out.symm)
              have HYR : Hid (some yb ≠ row) := by rw [Hid, HRE.out]; exact box_row HF.out.box HF.out.pub
              have HOR : Hid ((svV (po, no, co)).ownBlock = none ∨ (svV (po, no, co)).ownBlock ≠ row) := by rw [Hid, HRE.out]; exact HF.out.dif
              have HI0 : Hid (InvF d s0 yb #[.string mo, .slice po no co, .slice pz nz cz] (po, no, co) L wx.drew wx.drew) := ⟨Dr.refl _ _ _, (Dr.of_below ((Below.refl s0 wx).drew) HLOW.out).good HF.out.good, Nat.le_refl _, HF.out.box, OwnL.drewN HF.out.own 1⟩
              have HP0 : Hid (OwnL encS strT wx.drew s0 (.slice pz nz cz) Z) := OwnL.drewN HF.out.pub 1
              go_wp2_with fail
              apply wp_region_one 6 8 (AD d) (fun x y => x.grownBy y row) (fun W => InvF d s0 yb #[.string mo, .slice po no co, .slice pz nz cz] (po, no, co) L wx.drew W) (fun W => OwnL encS strT W s0 (.slice pz nz cz) Z) (fun _ _ => False)
              case hIA => (intro x y hl h; exact h.a hl HSW.out HLOW.out.1 HYB.out)
              case hIC => (intro x y hl h; exact h.c hl HSW.out HLOW.out (fun k e => (HRW.out k e).1) HYR.out HOR.out)
              case hPA => (intro x y hl h; exact own_dr h hl HLOW.out.1 (Nat.le_refl _))
              case hm => kernel_rfl
              case hB => kernel_rfl
              case h0 => exact HI0.out
              case h1 => exact HP0.out
              case hP => (rintro k a' W hf hd; exact hf.elim)
              simp only [List.take_succ_cons, List.take_zero, List.drop_succ_cons, List.drop_zero]
              apply wpOne_cons (t := tvIs _) (tvIs_good _ _)
              case h1 => (intro W hI hl; clear hI hl; unfold oneAt; go_simp; exact one_isD (by decide))
              intro _
              rw [tvIs_f]
              go_simp
              apply wpOne_cons (t := tvIs _) (tvIs_good _ _)
              case h1 => (intro W hI hl; obtain ⟨y0, y1, y2⟩ := fc3 (BoxC.cells (cs := [.string mo, .slice po no co, .slice pz nz cz]) hI.box); clear hI hl; unfold oneAt; go_simp; exact one_isD (by decide))
              intro _
              rw [tvIs_f]
              go_simp
              apply wpOne_cons (t := tvIs _) (tvIs_good _ _)
              case h1 => (intro W hI hl; clear hI hl; unfold oneAt; go_simp; exact one_isD (by decide))
              intro _
              rw [tvIs_f]
              go_simp
              apply wpOne_cons (t := tvSh d row 12 5) (tvSh_good _ _ _ _ _ _)
              case h1 => (intro W hI hl; have h1 := HLOW.out.mono (Nat.le_trans HSW.out hI.size); have h2 : ∀ j, row = some j → j < W.heap.size := (fun j e => Nat.lt_of_lt_of_le (HRW.out j e).2 hI.size); clear hI hl; unfold oneAt; go_simp; exact tvSh_mk (c := 6) (k := 3) (l := namesP) (m := 5) (by decide) rfl rfl h1 h2 (by decide))
              rintro ⟨nb, -⟩
              rw [tvSh_f]
              go_simp
              apply wpOne_cons (t := tvStr 12) (tvStr_good _ _ _ _ _)
              case h1 => (intro W hI hl; have hx := lean_ofD hl 3 (by kernel_rfl); simp [upd, preAt] at hx; have hx1 : Shorts 12 W (some ⟨nb, 0, none⟩) 5 := hx.1; have hx2 : nb ≠ d.D := hx.2.2.2; have hgd := hI.good; have hDW : d.D < W.heap.size := Nat.lt_of_lt_of_le HLOW.out.1 (Nat.le_trans HSW.out hI.size); clear hI hl hx; unfold oneAt; go_simp; refine (of_any d 12 5 5 nb 0 W hgd (by omega) (by omega) hx1 hx2).mono ?_; rintro e w'' ⟨s, hs, rfl, ht⟩; exact .inl ⟨⟨s, hs⟩, rfl, by unfold sel; rw [if_neg (by decide)]; exact Dr.of_thrown ht hDW, trivial⟩)
              rintro ⟨s, hs⟩
              rw [tvStr_f]
              go_simp
              apply wpOne_cons (t := tvOneS d row 12) (tvOneS_good _ _ _ _ _)
              case h1 => (intro W hI hl; have h1 := HLOW.out.mono (Nat.le_trans HSW.out hI.size); have h2 : ∀ j, row = some j → j < W.heap.size := (fun j e => Nat.lt_of_lt_of_le (HRW.out j e).2 hI.size); clear hI hl; unfold oneAt; go_simp; exact tvOneS_mk (c := 6) (k := 5) hs h1 h2 (by decide))
              rintro ⟨⟨sb, s2⟩, hs2⟩
              rw [tvOneS_f]
              go_simp
              apply wpOne_cons (t := tvAppS row wx.drew.heap.size s0 Z 12) (tvAppS_good _ _ _ _ _ _ _ HLOW.out.1)
              case h1 => (
                intro W hI hl
                have hP : OwnL encS strT W s0 (.slice pz nz cz) Z := hl.1 rfl
                have hc := lean_ofD hl 5 (by kernel_rfl)
                simp [upd, preAt] at hc
                have hc1 : CellsAt W sb 0 [.string s2] := hc.1
                obtain ⟨v', w', hr, ho⟩ := tvAppS_mk (d := d) (c := 6) (Pn := fun _ _ => False) hP HRE.out hc1 hs2 HZL.out (Nat.le_trans HSW.out hI.size) (B := wx.drew.heap.size) hI.size 54
                clear hI hl hP hc hc1
                exact oneAt_appendS rfl rfl rfl rfl hr ho)
              rintro ⟨⟨v', s3⟩, hs3⟩
              rw [tvAppS_f]
              go_simp
              apply wpOne_cons (t := tvIs _) (tvIs_good _ _)
              case h1 => (intro W hI hl; clear hI hl; unfold oneAt; go_simp; exact one_isD (by decide))
              intro _
              rw [tvIs_f]
              go_simp
              apply wpOne_nil (Ts := [])
              intro w2 hI hF
              have hfin := hF 6
              simp [upd, preAt] at hfin
              have ho2 : OwnL encS strT w2 s0 v' (Z ++ [s3]) := hfin.1
              have hat2 : v'.ownBlock = (Value.slice pz nz cz).ownBlock ∨ ∃ k, v'.ownBlock = some k ∧ wx.drew.heap.size ≤ k := by rw [← HRE.out]; exact hfin.2
              obtain ⟨s', rfl⟩ := own_svS ho2
              have HFN := Lib.hid (HF.out.pushP hI ho2 HLOW.out hat2)
              obtain ⟨g0, g1, g2⟩ := fc3 (BoxC.cells (cs := [.string mo, .slice po no co, .slice pz nz cz]) hI.box)
              have gf := fun i => Lib.frozen_of_heap hI.box i
              have HSS := Lib.hid hs3
              clear hfin hF hI ho2 hat2 HI0 HP0 hs hs2 hs3
              obtain ⟨ps, ns, cs⟩ := s'
              simp only [svV] at HFN ⊢
              go_wp2_with fail
              go_roundw
              case rel => exact ⟨c - 1, (ps, ns, cs), Z ++ [s3], by simp; omega, by go_num, HFN, fun u hu => by rcases List.mem_append.1 hu with q | q; exact HZS.out u q; rw [List.mem_singleton] at q; subst q; exact HSS.out⟩
              case measure => simp [intOf]; omega
            · have : c = 0 := by omega
              subst this
              have hPn : Z.length ≤ 3 := by omega
              obtain ⟨g0, g1, g2⟩ := fc3 (BoxC.cells (cs := [.string mo, .slice po no co, .slice pz nz cz]) HF.out.box)
              have HSZ : Hid (wS.heap.size ≤ s0) := Nat.le_of_eq HS0E.out
              have HOX : Hid (OwnL encFc fcT wx w.heap.size u3 R) := own_dr HO.out HF.out.dr HLW.out.1 HSZ.out
              have HRX : Hid (FcRow wx w.heap.size R l) := ⟨HR.out.len, fun i f r hf hr => by
                obtain ⟨h1, h2, h3⟩ := HR.out.at_ i f r hf hr
                exact ⟨h1, own_dr h2 HF.out.dr HLW.out.1 HSZ.out, own_dr h3 HF.out.dr HLW.out.1 HSZ.out⟩⟩
              have HOX1 := Lib.hid (OwnL.alloc HOX.out (.cells #[.string mo, .slice po no co, .slice pz nz cz] fcT))
              have HLIT := Lib.hid (cellsAt_alloc wx [.string mo, .slice po no co, .slice pz nz cz] fcT)
              have hRl : R.length + 1 ≤ 10 := by have := HR.out.len; omega
              have HWX : Hid (w.heap.size ≤ wx.heap.size) := by have h1 := HDS.out; have h2 := HF.out.size; unfold Hid; omega
              clear HOX HO HR
              go_wp2_with (first
                | (at_builtin; refine wpList_append_own_at _ rfl (.tmp 46) (.tmp 48) 46 rfl w.heap.size fcT i0 (.agg #[.string ⟨#[]⟩, .slice none 0 0, .slice none 0 0]) 3 64 Try.underlying46 hi0 hz0 hz1 hz2 ?_ ?_ u3 R.length (encFc.all R) ?_ ?_ ⟨wx.heap.size, 0, none⟩ 1 1 [.string mo, .slice po no co, .slice pz nz cz] ?_ ?_ ?_ ?_ ?_ ?_ ?_ ?_)
                | fail)
              · rfl
              · decide
              · rfl
              · exact HOX1.out
              · rfl
              · rfl
              · exact fun j u hu => by rw [add_lit]; exact HLIT.out j u hu
              · exact fun u hu => by simp at hu; rcases hu with rfl | rfl | rfl <;> rfl
              · unfold maxLen; omega
              · omega
              · have := HWX.out; simp; omega
              · intro v' w5 hown5 hgrow5 _ hat5
                have hown6 : OwnL encFc fcT w5 w.heap.size v' (R ++ [(mo, (po, no, co), (pz, nz, cz))]) := by
                  unfold OwnL
                  rw [List.length_append, encFc.all_append]
                  exact hown5
                have hbl := below_box wx (.cells #[.string mo, .slice po no co, .slice pz nz cz] fcT)
                have HR5 := Lib.hid (HRX.out.push (mo := mo) (so := (po, no, co)) (sp := (pz, nz, cz)) (L := L) (P := Z) HF.out.own HF.out.pub hbl hgrow5 HOX1.out (by have h1 := HDS.out; have h2 := HS0E.out; omega))
                have HT5 : Hid (Thrown d w w5) := by
                  have h1 : Dr d w.heap.size wS wx := HF.out.dr.mono (by have h1 := HDS.out; have h2 := HS0E.out; omega)
                  have h2 : Dr d w.heap.size wx w5 := Dr.of_below (((hbl.mono HWX.out)).grown hgrow5 (by have := HWX.out; simp; omega) (fun k e => (World.ownsRow.lt HOX1.out k e).1)) HLW.out
                  have h0 := Dr.of_thrown HT.out HLW.out.1
                  exact ((h0.trans h1).trans h2).thrown HD.out
                have HM5 : Hid (∀ f ∈ l ++ [(⟨mo, L, Z⟩ : Fc)], FcMade f) := fun f hf => by
                  rcases List.mem_append.1 hf with q | q
                  · exact HM.out f q
                  · rw [List.mem_singleton] at q
                    subst q
                    exact ⟨HMO.out, HL.out, HZS.out, HLn.out, hPn⟩
                have HO5 := Lib.hid hown6
                clear hown5 hown6 hgrow5 hat5 hbl HOX1 HRX HLIT HF HT g0 g1 g2
                go_wp2_with fail
                go_roundw
                case rel => exact ⟨k - 1, _, _, by simp; omega, by go_num, HO5, HR5, HM5, HT5⟩
                case measure => simp [intOf]; omega
    · obtain rfl : k = 0 := by omega
      go_wp2_with fail
      go_ret
      exact ⟨_, R, l, rfl, HO.out, HR.out, HM.out, by omega, HT.out⟩
end Go.Proofs.Ytheigpiffdabnaa.Mds
