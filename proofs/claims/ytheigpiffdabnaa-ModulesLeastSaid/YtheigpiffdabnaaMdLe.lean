/-
  WALK: ModulesLeast.
-/
import Derived.Test.YtheigpiffdabnaaMdG2
import Derived.Test.YtheigpiffdabnaaMdY
import Derived.Test.YtheigpiffdabnaaMdZ
import Derived.Test.YtheigpiffdabnaaMdLeP
import Derived.Test.YtheigpiffdabnaaMdLe3
import Derived.Test.YtheigpiffdabnaaMdX2
import Derived.Test.YtheigpiffdabnaaMod
namespace Go.Proofs.Ytheigpiffdabnaa.Mds
open Go Go.RowKit Go.Maps
set_option linter.unusedVariables false
set_option linter.unusedSimpArgs false
set_option maxRecDepth 1000000

def namesW : List ByteArray := [⟨#[120]⟩, ⟨#[121]⟩, ⟨#[122]⟩, ⟨#[119]⟩]
def inW (s : ByteArray) : Prop := s ∈ namesW
def inM (s : ByteArray) : Prop := s ∈ namesM
theorem inW_x : inW ⟨#[120]⟩ := List.mem_cons_self
theorem inM_a : inM ⟨#[97]⟩ := List.mem_cons_self
/-- face i of the four -/
structure FcL (i : Nat) (f : Fc) : Prop where
  mo : f.mo = namesM.getD i ByteArray.empty
  own : ∀ s ∈ f.own, inW s
  pub : ∀ s ∈ f.pub, inM s
  owns : f.own.length ≤ 2
  pubs : f.pub.length ≤ 2
theorem fit_four {l : List Fc} (hl : l.length = 4) (h : ∀ (i : Nat) (f : Fc), l[i]? = some f → FcL i f) : FcsFit l := by
  have hW : ∀ s ∈ namesW, s.size ≤ 1000 := by decide
  have hM : ∀ s ∈ namesM, s.size ≤ 1000 := by decide
  refine ⟨by omega, fun f hf => ?_⟩
  obtain ⟨i, hi, he⟩ := List.getElem_of_mem hf
  have hg := h i f (by rw [List.getElem?_eq_getElem hi, he])
  have hi4 : i < 4 := by omega
  refine ⟨?_, fun s hs => hW s (hg.own s hs), by have := hg.owns; omega, fun s hs => hM s (hg.pub s hs), by have := hg.pubs; omega⟩
  rw [hg.mo]
  rcases (show i = 0 ∨ i = 1 ∨ i = 2 ∨ i = 3 by omega) with rfl | rfl | rfl | rfl <;> decide
theorem name_byte {t : Nat} (h : t < 4) : ∃ c : UInt8, c.toNat = 97 + t ∧ namesM.getD t ByteArray.empty = ⟨#[c]⟩ := by
  rcases (show t = 0 ∨ t = 1 ∨ t = 2 ∨ t = 3 by omega) with rfl | rfl | rfl | rfl
  · exact ⟨97, rfl, rfl⟩
  · exact ⟨98, rfl, rfl⟩
  · exact ⟨99, rfl, rfl⟩
  · exact ⟨100, rfl, rfl⟩
theorem names_idx {s : ByteArray} (h : inM s) : ∃ t, t < 4 ∧ s = namesM.getD t ByteArray.empty := by
  unfold inM namesM at h
  simp only [List.mem_cons, List.not_mem_nil, or_false] at h
  rcases h with rfl | rfl | rfl | rfl
  · exact ⟨0, by omega, rfl⟩
  · exact ⟨1, by omega, rfl⟩
  · exact ⟨2, by omega, rfl⟩
  · exact ⟨3, by omega, rfl⟩
def ixM (m : ByteArray) : Nat := if m = ⟨#[97]⟩ then 0 else if m = ⟨#[98]⟩ then 1 else if m = ⟨#[99]⟩ then 2 else 3
theorem ixM_at {t : Nat} (h : t < 4) : ixM (namesM.getD t ByteArray.empty) = t := by
  rcases (show t = 0 ∨ t = 1 ∨ t = 2 ∨ t = 3 by omega) with rfl | rfl | rfl | rfl <;> decide
theorem four_mo {l : List Fc} (hl : l.length = 4) (h : ∀ (i : Nat) (f : Fc), l[i]? = some f → FcL i f) : l.map Fc.mo = namesM := by
  refine List.ext_getElem? fun i => ?_
  rw [List.getElem?_map]
  by_cases hi : i < 4
  · have hg := (h i l[i] (List.getElem?_eq_getElem (by omega))).mo
    rw [List.getElem?_eq_getElem (by omega)]
    simp only [Option.map_some, hg]
    rcases (show i = 0 ∨ i = 1 ∨ i = 2 ∨ i = 3 by omega) with rfl | rfl | rfl | rfl <;> rfl
  · rw [List.getElem?_eq_none (by omega), List.getElem?_eq_none (by unfold namesM; simp; omega)]
    rfl
theorem four_first {l : List Fc} (hl : l.length = 4) (h : ∀ (i : Nat) (f : Fc), l[i]? = some f → FcL i f) {m : ByteArray} (hm : inM m) : firstI l m = some (ixM m) := by
  obtain ⟨t, ht, rfl⟩ := names_idx hm
  rw [ixM_at ht]
  have hn : (l.map Fc.mo).Nodup := by rw [four_mo hl h]; unfold namesM; decide
  exact firstI_apart hn (List.getElem?_eq_getElem (by omega)) (h t l[t] (List.getElem?_eq_getElem (by omega))).mo
def tyBd (L : List Bd) : Ty LeW := ⟨{v : Option Addr × Nat × Nat // True}, ⟨⟨(none, 0, 0), trivial⟩⟩, fun v => .slice v.1.1 v.1.2.1 v.1.2.2, fun v w => SlIs encBd w (.slice v.1.1 v.1.2.1 v.1.2.2) L, fun x w w' hl h => h.below hl⟩
theorem tyBd_f (L : List Bd) (q : Option Addr) (n c : Nat) (h : True) : (tyBd L).f ⟨(q, n, c), h⟩ = .slice q n c := rfl
/-- one face, open -/
structure FcAt (w : World) (g i : Nat) (f : Fc) (so sp : Sv) : Prop where
  cells : w.cell? ⟨g, i * 3, none⟩ = some (.string f.mo) ∧ w.cell? ⟨g, i * 3 + 1, none⟩ = some (svV so) ∧ w.cell? ⟨g, i * 3 + 2, none⟩ = some (svV sp)
  own : SlIs encS w (svV so) f.own
  pub : SlIs encS w (svV sp) f.pub
theorem FcAt.below {w w' : World} {g i : Nat} {f : Fc} {so sp : Sv} (h : FcAt w g i f so sp) (hb : Below w.heap.size w w') : FcAt w' g i f so sp := by
  obtain ⟨⟨c0, c1, c2⟩, h2, h3⟩ := h
  have hbl := World.block_lt_of_cell? w _ c0
  exact ⟨⟨by rw [hb.cell (p := ⟨g, i * 3, none⟩) hbl]; exact c0, by rw [hb.cell (p := ⟨g, i * 3 + 1, none⟩) hbl]; exact c1, by rw [hb.cell (p := ⟨g, i * 3 + 2, none⟩) hbl]; exact c2⟩, h2.below hb, h3.below hb⟩
theorem face_cells {w : World} {g c i : Nat} {l : List Fc} (h : FacesAt w (.slice (some ⟨g, 0, none⟩) 4 c) l) (hl : l.length = 4) (hi : i < 4) : ∃ so sp, FcAt w g i (l.getD i fc0) so sp := by
  obtain ⟨r, ⟨b, off, e, c0, c1, c2⟩, h2, h3⟩ := h.face i (by omega)
  injection e with e
  injection e with e1 e2 _
  subst e1
  subst e2
  rw [Nat.zero_add] at c0 c1 c2
  exact ⟨r.2.1, r.2.2, ⟨c0, c1, c2⟩, h2, h3⟩
theorem names_at {w w' : World} {d : Dice} {X j : Nat} (hc : CellsAt w X 0 (namesM.map Value.string)) (hX : X < w.heap.size) (hn : X ≠ d.D) (ht : Thrown d w w') (hj : j < 4) : w'.cell? ⟨X, j, none⟩ = some (.string (namesM.getD j ByteArray.empty)) := by
  have h1 : (namesM.map Value.string)[j]? = some (.string (namesM.getD j ByteArray.empty)) := by
    rcases (show j = 0 ∨ j = 1 ∨ j = 2 ∨ j = 3 by omega) with rfl | rfl | rfl | rfl <;> rfl
  have h2 := hc j _ h1
  rw [Nat.zero_add] at h2
  exact ht.but.keep h2 (fun q => by unfold isAt at q; injection q with q _ _; exact hn q)

set_option maxHeartbeats 8000000 in
theorem least6 (p : Option Addr) (n cap : Nat) (turn : Int) (htl : -9223372036854775808 ≤ turn) (hth : turn ≤ 9223372036854775807) (w : World) (hn : n ≤ maxLen) (hr : Rolls w p n) (hb : ∀ b o, p = some ⟨b, o, none⟩ → b < w.heap.size) :
    Calls Try.prog 6 #[.slice p n cap, .int .i64 turn] w fun e w' => e = .returned (.bool true) ∧ Below w.heap.size w w' := by
  by_cases h1 : 400 < n
  · clear hr hb
    go_enter Try.func6, Try.ntmps6
    go_wp2_with fail
    refine (light_no p n cap _ h1 hn).mono ?_
    rintro e w1 ⟨rfl, rfl⟩
    go_wp2_with fail
    refine (awake06_any _).mono ?_
    rintro e w1 ⟨rfl, hb⟩
    have HB := Lib.hid hb
    clear hb
    go_wp2_with fail
    go_ret
    exact ⟨rfl, HB.out⟩
  · have HDW := Lib.hid (rolled (cap := cap) (show n ≤ 400 by omega) hr hb)
    clear hr hb
    obtain ⟨i0, hi0, hz0, hz1, hz2⟩ := info_parts infoFc
    go_enter Try.func6, Try.ntmps6
    go_wp2_with fail
    refine (light_yes p n cap _ (by omega)).mono ?_
    rintro e w2 ⟨rfl, rfl⟩
    go_wp2_with fail
    refine (roll_any p n cap _).mono ?_
    rintro e w3 ⟨rfl, rfl⟩
    generalize hd : (⟨w2.heap.size, p, n, cap⟩ : Dice) = d at *
    have hdD : w2.heap.size = d.D := by rw [← hd]
    rw [hdD]
    have HB3 : Hid (Below w2.heap.size w2 (w2.alloc (.cells #[.slice p n cap, .int .i64 0] 67))) := below_box w2 _
    have HD2 := Lib.hid hdD
    clear hdD
    generalize w2.alloc (.cells #[.slice p n cap, .int .i64 0] 67) = w3 at *
    have HD3 : Hid (w2.heap.size ≤ d.D) := Nat.le_of_eq HD2.out
    have HD4 : Hid (d.D < w3.heap.size) := World.block_lt_of_cell? w3 _ HDW.out.1.at_
    have HG3 := Lib.hid HDW.out.1
    clear HDW hd HD2
    have HLT := Lib.hid (cellsAt_alloc w3 (namesM.map Value.string) strT)
    have HTZ := Lib.hid (thrown_allocD HG3.out (.cells #[.string ⟨#[97]⟩, .string ⟨#[98]⟩, .string ⟨#[99]⟩, .string ⟨#[100]⟩] strT))
    have HXD : Hid (w3.heap.size ≠ d.D) := by have := HD4.out; unfold Hid; omega
    have HXL : Hid (w3.heap.size < (w3.alloc (.cells #[.string ⟨#[97]⟩, .string ⟨#[98]⟩, .string ⟨#[99]⟩, .string ⟨#[100]⟩] strT)).heap.size) := by unfold Hid; rw [World.size_alloc]; omega
    have HLT2 : Hid (CellsAt (w3.alloc (.cells #[.string ⟨#[97]⟩, .string ⟨#[98]⟩, .string ⟨#[99]⟩, .string ⟨#[100]⟩] strT)) w3.heap.size 0 (namesM.map Value.string)) := HLT.out
    have HLW : Hid (DcLow d (w3.alloc (.cells #[.string ⟨#[97]⟩, .string ⟨#[98]⟩, .string ⟨#[99]⟩, .string ⟨#[100]⟩] strT)).heap.size) := (dcLow HG3.out).mono (Nat.le_of_lt HXL.out)
    have HD := Lib.hid HTZ.out.good
    have HBZ0 : Hid (Below w2.heap.size w2 (w3.alloc (.cells #[.string ⟨#[97]⟩, .string ⟨#[98]⟩, .string ⟨#[99]⟩, .string ⟨#[100]⟩] strT))) := HB3.out.trans ((below_box w3 (.cells #[.string ⟨#[97]⟩, .string ⟨#[98]⟩, .string ⟨#[99]⟩, .string ⟨#[100]⟩] strT)).mono HB3.out.size)
    clear HLT
    go_wp2_with fail
    generalize hX : w3.heap.size = X at *
    have HW3X := Lib.hid hX
    clear hX
    generalize w3.alloc (.cells #[.string ⟨#[97]⟩, .string ⟨#[98]⟩, .string ⟨#[99]⟩, .string ⟨#[100]⟩] strT) = wz at *
    go_loopw [6, 33] (fun v i wr => ∃ (j : Nat) (R : List (ByteArray × Sv × Sv)) (l : List Fc), j ≤ 4 ∧ l.length = j ∧ i = .int .i64 j ∧ Hid (OwnL encFc fcT wr wz.heap.size v R) ∧ Hid (FcRow wr wz.heap.size R l) ∧ Hid (∀ (i : Nat) (f : Fc), l[i]? = some f → FcL i f) ∧ Hid (Thrown d wz wr)) (fun _ i _ => 4 - (intOf i).toNat)
    case atStart => exact ⟨0, [], [], by omega, rfl, rfl, OwnL.isNil _ _ _ _, ⟨rfl, fun i f r h => by cases h⟩, fun i f h => (by cases h), Thrown.refl HD.out⟩
    case round =>
      obtain ⟨j, R, l, hj, hlj, rfl, HO, HR, HM, HT⟩ := hrel
      obtain ⟨wS, rfl⟩ : ∃ x, x = wr := ⟨wr, rfl⟩
      by_cases hlt : j < 4
      · have hji : (j : Int) < 4 := by omega
        have HDS : Hid (wz.heap.size ≤ wS.heap.size) := HT.out.but.size
        have c0 := names_at HLT2.out HXL.out HXD.out HT.out hlt
        obtain ⟨mo, hmo⟩ : ∃ mo, mo = namesM.getD j ByteArray.empty := ⟨_, rfl⟩
        rw [← hmo] at c0
        have HMO := Lib.hid hmo
        clear hmo
        have HLOW := Lib.hid (HLW.out.mono HDS.out)
        have HF4 : Hid (Fb d wS (wS.alloc (.cells #[.string mo, .slice none 0 0, .slice none 0 0] fcT)) wS.heap.size wS.heap.size mo sv0 sv0 [] []) := by
          have h3 : Dr d wS.heap.size wS (wS.alloc (.cells #[.string mo, .slice none 0 0, .slice none 0 0] fcT)) := Dr.of_below (below_box wS _) HLOW.out
          exact ⟨h3, h3.good HT.out.good, h3.size, heap_alloc_new wS _, Nat.le_refl _, OwnL.isNil _ _ _ _, OwnL.isNil _ _ _ _, .inl rfl⟩
        go_wp2_with (first
          | (go_at_call 12; refine (next_any d 3 _ HF4.out.good (by omega) (by omega)).mono ?_; rintro e w5 ⟨k1, hk1, rfl, ht5, -⟩; have HF5 := Lib.hid (HF4.out.dice ht5 HLOW.out.1); clear ht5 HF4 c0)
          | fail)
        generalize hybe : wS.heap.size = yb at *
        have HS0E := Lib.hid hybe
        clear hybe
        go_loopw [10] (fun i wx => ∃ (c : Nat) (so : Sv) (L : List ByteArray), c + L.length ≤ 2 ∧ i = .int .i64 c ∧ Hid (Fb d wS wx yb yb mo so sv0 L []) ∧ Hid (∀ s ∈ L, inW s)) (fun i _ => (intOf i).toNat)
        case atStart => exact ⟨k1, sv0, [], by simp; omega, rfl, HF5, fun s h => by cases h⟩
        case round =>
          clear HF5
          obtain ⟨c, ⟨pz, nz, cz⟩, Z, hc, rfl, HF, HZS⟩ := hrel
          obtain ⟨wx, rfl⟩ : ∃ x, x = wr := ⟨wr, rfl⟩
          by_cases hc0 : 0 < c
          · have hci : (0 : Int) < c := by omega
            have HZL : Hid (Z.length ≤ 100000) := by unfold Hid; omega
            have HSW : Hid (yb ≤ wx.drew.heap.size) := HF.out.size
            have HYB := Lib.hid HF.out.yb
            obtain ⟨row, hrow⟩ : ∃ row, row = (Value.slice pz nz cz).ownBlock := ⟨_, rfl⟩
            have HRE := Lib.hid hrow
            clear hrow
            have HRW : Hid (∀ j, row = some j → yb ≤ j ∧ j < wx.drew.heap.size) := fun j e => World.ownsRow.lt HF.out.own j (by rw [← e]; exact HRE.out.symm)
            have HYR : Hid (some yb ≠ row) := by rw [Hid, HRE.out]; exact box_row HF.out.box HF.out.own
            have HOR : Hid ((svV sv0).ownBlock = none ∨ (svV sv0).ownBlock ≠ row) := .inl rfl
            have HI0 : Hid (InvF d yb yb #[.string mo, .slice pz nz cz, .slice none 0 0] sv0 [] wx.drew wx.drew) := ⟨Dr.refl _ _ _, (Dr.of_below ((Below.refl yb wx).drew) HLOW.out).good HF.out.good, Nat.le_refl _, HF.out.box, OwnL.isNil _ _ _ _⟩
            have HP0 : Hid (OwnL encS strT wx.drew yb (.slice pz nz cz) Z) := OwnL.drewN HF.out.own 1
            go_wp2_with fail
            apply wp_region_one 6 8 (AD d) (fun x y => x.grownBy y row) (fun W => InvF d yb yb #[.string mo, .slice pz nz cz, .slice none 0 0] sv0 [] wx.drew W) (fun W => OwnL encS strT W yb (.slice pz nz cz) Z) (fun _ _ => False)
            case hIA => (intro x y hl h; exact h.a hl HSW.out HLOW.out.1 HYB.out)
            case hIC => (intro x y hl h; exact h.c hl HSW.out HLOW.out (fun k e => (HRW.out k e).1) HYR.out HOR.out)
            case hPA => (intro x y hl h; exact own_dr h hl HLOW.out.1 (Nat.le_refl _))
            case hm => kernel_rfl
            case hB => kernel_rfl
            case h0 => exact HI0.out
            case h1 => exact HP0.out
            case hP => (rintro k a' W hf hd; exact hf.elim)
            simp only [List.take_succ_cons, List.take_zero, List.drop_succ_cons, List.drop_zero]
            apply wpOne_cons (t := tvIs _) (tvIs_good _ _)
            case h1 => (intro W hI hl; clear hI hl; unfold oneAt; go_simp; exact one_isD (by decide))
            intro _
            rw [tvIs_f]
            go_simp
            apply wpOne_cons (t := tvIs _) (tvIs_good _ _)
            case h1 => (intro W hI hl; obtain ⟨y0, y1, y2⟩ := fc3 (BoxC.cells (cs := [.string mo, .slice pz nz cz, .slice none 0 0]) hI.box); clear hI hl; unfold oneAt; go_simp; exact one_isD (by decide))
            intro _
            rw [tvIs_f]
            go_simp
            apply wpOne_cons (t := tvIs _) (tvIs_good _ _)
            case h1 => (intro W hI hl; clear hI hl; unfold oneAt; go_simp; exact one_isD (by decide))
            intro _
            rw [tvIs_f]
            go_simp
            apply wpOne_cons (t := tvShM d row inW 4) (tvShM_good _ _ _ _ _ _)
            case h1 => (intro W hI hl; have h1 := HLOW.out.mono (Nat.le_trans HSW.out hI.size); have h2 : ∀ j, row = some j → j < W.heap.size := (fun j e => Nat.lt_of_lt_of_le (HRW.out j e).2 hI.size); clear hI hl; unfold oneAt; go_simp; exact tvShM_mk (c := 6) (k := 3) (l := namesW) (m := 4) (fun s h => h) rfl rfl h1 h2 (by decide))
            rintro ⟨nb, -⟩
            rw [tvShM_f]
            go_simp
            apply wpOne_cons (t := tvStrM inW _ inW_x) (tvStrM_good _ _ _ _ inW_x _ _)
            case h1 => (intro W hI hl; have hx := lean_ofD hl 3 (by kernel_rfl); simp [upd, preAt] at hx; have hx1 : ShortsM inW W (some ⟨nb, 0, none⟩) 4 := hx.1; have hx2 : nb ≠ d.D := hx.2.2.2; have hgd := hI.good; have hDW : d.D < W.heap.size := Nat.lt_of_lt_of_le HLOW.out.1 (Nat.le_trans HSW.out hI.size); clear hI hl hx; unfold oneAt; go_simp; refine (ofM_any d inW 4 4 nb 0 W hgd (by omega) (by omega) hx1 hx2).mono ?_; rintro e w'' ⟨s, hs, rfl, ht⟩; exact .inl ⟨⟨s, hs⟩, rfl, by unfold sel; rw [if_neg (by decide)]; exact Dr.of_thrown ht hDW, trivial⟩)
            rintro ⟨s, hs⟩
            rw [tvStrM_f]
            go_simp
            apply wpOne_cons (t := tvOneM d row inW _ inW_x) (tvOneM_good _ _ _ _ inW_x _ _)
            case h1 => (intro W hI hl; have h1 := HLOW.out.mono (Nat.le_trans HSW.out hI.size); have h2 : ∀ j, row = some j → j < W.heap.size := (fun j e => Nat.lt_of_lt_of_le (HRW.out j e).2 hI.size); clear hI hl; unfold oneAt; go_simp; exact tvOneM_mk (c := 6) (k := 5) hs h1 h2 (by decide))
            rintro ⟨⟨sb, s2⟩, hs2⟩
            rw [tvOneM_f]
            go_simp
            apply wpOne_cons (t := tvAppM row wx.drew.heap.size yb Z inW _ inW_x) (tvAppM_good _ _ _ _ _ _ _ inW_x _ HLOW.out.1)
            case h1 => (
              intro W hI hl
              have hP : OwnL encS strT W yb (.slice pz nz cz) Z := hl.1 rfl
              have hc := lean_ofD hl 5 (by kernel_rfl)
              simp [upd, preAt] at hc
              have hc1 : CellsAt W sb 0 [.string s2] := hc.1
              obtain ⟨v', w', hr, ho⟩ := tvAppM_mk (d := d) (c := 6) (he := inW_x) (Pn := fun _ _ => False) hP HRE.out hc1 hs2 HZL.out (Nat.le_trans HSW.out hI.size) (B := wx.drew.heap.size) hI.size 54
              clear hI hl hP hc hc1
              exact oneAt_appendS rfl rfl rfl rfl hr ho)
            rintro ⟨⟨v', s3⟩, hs3⟩
            rw [tvAppM_f]
            go_simp
            apply wpOne_cons (t := tvIs _) (tvIs_good _ _)
            case h1 => (intro W hI hl; clear hI hl; unfold oneAt; go_simp; exact one_isD (by decide))
            intro _
            rw [tvIs_f]
            go_simp
            apply wpOne_nil (Ts := [])
            intro w2 hI hF
            have hfin := hF 6
            simp [upd, preAt] at hfin
            have ho2 : OwnL encS strT w2 yb v' (Z ++ [s3]) := hfin.1
            obtain ⟨s', rfl⟩ := own_svS ho2
            have HFN := Lib.hid (HF.out.pushO hI ho2 HLOW.out)
            obtain ⟨g0, g1, g2⟩ := fc3 (BoxC.cells (cs := [.string mo, .slice pz nz cz, .slice none 0 0]) hI.box)
            have gf := fun i => Lib.frozen_of_heap hI.box i
            have HSS := Lib.hid hs3
            clear hfin hF hI ho2 HI0 HP0 hs hs2 hs3
            obtain ⟨ps, ns, cs⟩ := s'
            simp only [svV] at HFN ⊢
            go_wp2_with fail
            go_roundw
            case rel => exact ⟨c - 1, (ps, ns, cs), Z ++ [s3], by simp; omega, by go_num, HFN, fun u hu => by rcases List.mem_append.1 hu with q | q; exact HZS.out u q; rw [List.mem_singleton] at q; subst q; exact HSS.out⟩
            case measure => simp [intOf]; omega
          · have : c = 0 := by omega
            subst this
            have HL := HZS
            have HLn : Hid (Z.length ≤ 2) := by unfold Hid; omega
            clear HZS
            generalize Z = L at *
            go_wp2_with (first
              | (go_at_call 12; refine (next_any d 3 _ HF.out.good (by omega) (by omega)).mono ?_; rintro e w5 ⟨k2, hk2, rfl, ht5, -⟩; have HF5 := Lib.hid (HF.out.dice ht5 HLOW.out.1); clear ht5 HF)
              | fail)
            generalize pz = po at *
            generalize nz = no at *
            generalize cz = co at *
            go_loopw [11] (fun i wx => ∃ (c : Nat) (sp : Sv) (P : List ByteArray), c + P.length ≤ 2 ∧ i = .int .i64 c ∧ Hid (Fb d wS wx yb yb mo (po, no, co) sp L P) ∧ Hid (∀ s ∈ P, inM s)) (fun i _ => (intOf i).toNat)
            case atStart => exact ⟨k2, sv0, [], by simp; omega, rfl, HF5, fun s h => by cases h⟩
            case round =>
              clear HF5
              obtain ⟨c, ⟨pz, nz, cz⟩, Z, hc, rfl, HF, HZS⟩ := hrel
              obtain ⟨wx, rfl⟩ : ∃ x, x = wr := ⟨wr, rfl⟩
              by_cases hc0 : 0 < c
              · have hci : (0 : Int) < c := by omega
                have HZL : Hid (Z.length ≤ 100000) := by unfold Hid; omega
                have HSW : Hid (yb ≤ wx.drew.heap.size) := HF.out.size
                have HYB := Lib.hid HF.out.yb
                obtain ⟨row, hrow⟩ : ∃ row, row = (Value.slice pz nz cz).ownBlock := ⟨_, rfl⟩
                have HRE := Lib.hid hrow
                clear hrow
                have HRW : Hid (∀ j, row = some j → yb ≤ j ∧ j < wx.drew.heap.size) := fun j e => World.ownsRow.lt HF.out.pub j (by rw [← e]; exact HRE.out.symm)
                have HYR : Hid (some yb ≠ row) := by rw [Hid, HRE.out]; exact box_row HF.out.box HF.out.pub
                have HOR : Hid ((svV (po, no, co)).ownBlock = none ∨ (svV (po, no, co)).ownBlock ≠ row) := by rw [Hid, HRE.out]; exact HF.out.dif
                have HI0 : Hid (InvF d yb yb #[.string mo, .slice po no co, .slice pz nz cz] (po, no, co) L wx.drew wx.drew) := ⟨Dr.refl _ _ _, (Dr.of_below ((Below.refl yb wx).drew) HLOW.out).good HF.out.good, Nat.le_refl _, HF.out.box, OwnL.drewN HF.out.own 1⟩
                have HP0 : Hid (OwnL encS strT wx.drew yb (.slice pz nz cz) Z) := OwnL.drewN HF.out.pub 1
                go_wp2_with fail
                apply wp_region_one 6 8 (AD d) (fun x y => x.grownBy y row) (fun W => InvF d yb yb #[.string mo, .slice po no co, .slice pz nz cz] (po, no, co) L wx.drew W) (fun W => OwnL encS strT W yb (.slice pz nz cz) Z) (fun _ _ => False)
                case hIA => (intro x y hl h; exact h.a hl HSW.out HLOW.out.1 HYB.out)
                case hIC => (intro x y hl h; exact h.c hl HSW.out HLOW.out (fun k e => (HRW.out k e).1) HYR.out HOR.out)
                case hPA => (intro x y hl h; exact own_dr h hl HLOW.out.1 (Nat.le_refl _))
                case hm => kernel_rfl
                case hB => kernel_rfl
                case h0 => exact HI0.out
                case h1 => exact HP0.out
                case hP => (rintro k a' W hf hd; exact hf.elim)
                simp only [List.take_succ_cons, List.take_zero, List.drop_succ_cons, List.drop_zero]
                apply wpOne_cons (t := tvIs _) (tvIs_good _ _)
                case h1 => (intro W hI hl; clear hI hl; unfold oneAt; go_simp; exact one_isD (by decide))
                intro _
                rw [tvIs_f]
                go_simp
                apply wpOne_cons (t := tvIs _) (tvIs_good _ _)
                case h1 => (intro W hI hl; obtain ⟨y0, y1, y2⟩ := fc3 (BoxC.cells (cs := [.string mo, .slice po no co, .slice pz nz cz]) hI.box); clear hI hl; unfold oneAt; go_simp; exact one_isD (by decide))
                intro _
                rw [tvIs_f]
                go_simp
                apply wpOne_cons (t := tvIs _) (tvIs_good _ _)
                case h1 => (intro W hI hl; clear hI hl; unfold oneAt; go_simp; exact one_isD (by decide))
                intro _
                rw [tvIs_f]
                go_simp
                apply wpOne_cons (t := tvShM d row inM 4) (tvShM_good _ _ _ _ _ _)
                case h1 => (intro W hI hl; have h1 := HLOW.out.mono (Nat.le_trans HSW.out hI.size); have h2 : ∀ j, row = some j → j < W.heap.size := (fun j e => Nat.lt_of_lt_of_le (HRW.out j e).2 hI.size); clear hI hl; unfold oneAt; go_simp; exact tvShM_mk (c := 6) (k := 3) (l := namesM) (m := 4) (fun s h => h) rfl rfl h1 h2 (by decide))
                rintro ⟨nb, -⟩
                rw [tvShM_f]
                go_simp
                apply wpOne_cons (t := tvStrM inM _ inM_a) (tvStrM_good _ _ _ _ inM_a _ _)
                case h1 => (intro W hI hl; have hx := lean_ofD hl 3 (by kernel_rfl); simp [upd, preAt] at hx; have hx1 : ShortsM inM W (some ⟨nb, 0, none⟩) 4 := hx.1; have hx2 : nb ≠ d.D := hx.2.2.2; have hgd := hI.good; have hDW : d.D < W.heap.size := Nat.lt_of_lt_of_le HLOW.out.1 (Nat.le_trans HSW.out hI.size); clear hI hl hx; unfold oneAt; go_simp; refine (ofM_any d inM 4 4 nb 0 W hgd (by omega) (by omega) hx1 hx2).mono ?_; rintro e w'' ⟨s, hs, rfl, ht⟩; exact .inl ⟨⟨s, hs⟩, rfl, by unfold sel; rw [if_neg (by decide)]; exact Dr.of_thrown ht hDW, trivial⟩)
                rintro ⟨s, hs⟩
                rw [tvStrM_f]
                go_simp
                apply wpOne_cons (t := tvOneM d row inM _ inM_a) (tvOneM_good _ _ _ _ inM_a _ _)
                case h1 => (intro W hI hl; have h1 := HLOW.out.mono (Nat.le_trans HSW.out hI.size); have h2 : ∀ j, row = some j → j < W.heap.size := (fun j e => Nat.lt_of_lt_of_le (HRW.out j e).2 hI.size); clear hI hl; unfold oneAt; go_simp; exact tvOneM_mk (c := 6) (k := 5) hs h1 h2 (by decide))
                rintro ⟨⟨sb, s2⟩, hs2⟩
                rw [tvOneM_f]
                go_simp
                apply wpOne_cons (t := tvAppM row wx.drew.heap.size yb Z inM _ inM_a) (tvAppM_good _ _ _ _ _ _ _ inM_a _ HLOW.out.1)
                case h1 => (
                  intro W hI hl
                  have hP : OwnL encS strT W yb (.slice pz nz cz) Z := hl.1 rfl
                  have hc := lean_ofD hl 5 (by kernel_rfl)
                  simp [upd, preAt] at hc
                  have hc1 : CellsAt W sb 0 [.string s2] := hc.1
                  obtain ⟨v', w', hr, ho⟩ := tvAppM_mk (d := d) (c := 6) (he := inM_a) (Pn := fun _ _ => False) hP HRE.out hc1 hs2 HZL.out (Nat.le_trans HSW.out hI.size) (B := wx.drew.heap.size) hI.size 54
                  clear hI hl hP hc hc1
                  exact oneAt_appendS rfl rfl rfl rfl hr ho)
                rintro ⟨⟨v', s3⟩, hs3⟩
                rw [tvAppM_f]
                go_simp
                apply wpOne_cons (t := tvIs _) (tvIs_good _ _)
                case h1 => (intro W hI hl; clear hI hl; unfold oneAt; go_simp; exact one_isD (by decide))
                intro _
                rw [tvIs_f]
                go_simp
                apply wpOne_nil (Ts := [])
                intro w2 hI hF
                have hfin := hF 6
                simp [upd, preAt] at hfin
                have ho2 : OwnL encS strT w2 yb v' (Z ++ [s3]) := hfin.1
                have hat2 : v'.ownBlock = (Value.slice pz nz cz).ownBlock ∨ ∃ k, v'.ownBlock = some k ∧ wx.drew.heap.size ≤ k := by rw [← HRE.out]; exact hfin.2
                obtain ⟨s', rfl⟩ := own_svS ho2
                have HFN := Lib.hid (HF.out.pushP hI ho2 HLOW.out hat2)
                obtain ⟨g0, g1, g2⟩ := fc3 (BoxC.cells (cs := [.string mo, .slice po no co, .slice pz nz cz]) hI.box)
                have gf := fun i => Lib.frozen_of_heap hI.box i
                have HSS := Lib.hid hs3
                clear hfin hF hI ho2 hat2 HI0 HP0 hs hs2 hs3
                obtain ⟨ps, ns, cs⟩ := s'
                simp only [svV] at HFN ⊢
                go_wp2_with fail
                go_roundw
                case rel => exact ⟨c - 1, (ps, ns, cs), Z ++ [s3], by simp; omega, by go_num, HFN, fun u hu => by rcases List.mem_append.1 hu with q | q; exact HZS.out u q; rw [List.mem_singleton] at q; subst q; exact HSS.out⟩
                case measure => simp [intOf]; omega
              · have : c = 0 := by omega
                subst this
                have hPn : Z.length ≤ 2 := by omega
                obtain ⟨g0, g1, g2⟩ := fc3 (BoxC.cells (cs := [.string mo, .slice po no co, .slice pz nz cz]) HF.out.box)
                have HSZ : Hid (wS.heap.size ≤ yb) := Nat.le_of_eq HS0E.out
                have HOX : Hid (OwnL encFc fcT wx wz.heap.size u6 R) := own_dr HO.out HF.out.dr HLW.out.1 HSZ.out
                have HRX : Hid (FcRow wx wz.heap.size R l) := ⟨HR.out.len, fun i f r hf hr => by
                  obtain ⟨h1, h2, h3⟩ := HR.out.at_ i f r hf hr
                  exact ⟨h1, own_dr h2 HF.out.dr HLW.out.1 HSZ.out, own_dr h3 HF.out.dr HLW.out.1 HSZ.out⟩⟩
                have HOX1 := Lib.hid (OwnL.alloc HOX.out (.cells #[.string mo, .slice po no co, .slice pz nz cz] fcT))
                have HLIT := Lib.hid (cellsAt_alloc wx [.string mo, .slice po no co, .slice pz nz cz] fcT)
                have hRl : R.length + 1 ≤ 10 := by have := HR.out.len; omega
                have HWX : Hid (wz.heap.size ≤ wx.heap.size) := by have h1 := HDS.out; have h2 := HF.out.size; unfold Hid; omega
                clear HOX HO HR
                go_wp2_with (first
                  | (at_builtin; refine wpList_append_own_at _ rfl (.tmp 67) (.tmp 69) 46 rfl wz.heap.size fcT i0 (.agg #[.string ⟨#[]⟩, .slice none 0 0, .slice none 0 0]) 3 64 Try.underlying46 hi0 hz0 hz1 hz2 ?_ ?_ u6 R.length (encFc.all R) ?_ ?_ ⟨wx.heap.size, 0, none⟩ 1 1 [.string mo, .slice po no co, .slice pz nz cz] ?_ ?_ ?_ ?_ ?_ ?_ ?_ ?_)
                  | fail)
                · rfl
                · decide
                · rfl
                · exact HOX1.out
                · rfl
                · rfl
                · exact fun j u hu => by rw [add_lit]; exact HLIT.out j u hu
                · exact fun u hu => by simp at hu; rcases hu with rfl | rfl | rfl <;> rfl
                · unfold maxLen; omega
                · omega
                · have := HWX.out; simp; omega
                · intro v' w5 hown5 hgrow5 _ hat5
                  have hown6 : OwnL encFc fcT w5 wz.heap.size v' (R ++ [(mo, (po, no, co), (pz, nz, cz))]) := by
                    unfold OwnL
                    rw [List.length_append, encFc.all_append]
                    exact hown5
                  have hbl := below_box wx (.cells #[.string mo, .slice po no co, .slice pz nz cz] fcT)
                  have HR5 := Lib.hid (HRX.out.push (mo := mo) (so := (po, no, co)) (sp := (pz, nz, cz)) (L := L) (P := Z) HF.out.own HF.out.pub hbl hgrow5 HOX1.out (by have h1 := HDS.out; have h2 := HS0E.out; omega))
                  have HT5 : Hid (Thrown d wz w5) := by
                    have h1 : Dr d wz.heap.size wS wx := HF.out.dr.mono (by have h1 := HDS.out; have h2 := HS0E.out; omega)
                    have h2 : Dr d wz.heap.size wx w5 := Dr.of_below (((hbl.mono HWX.out)).grown hgrow5 (by have := HWX.out; simp; omega) (fun k e => (World.ownsRow.lt HOX1.out k e).1)) HLW.out
                    have h0 := Dr.of_thrown HT.out HLW.out.1
                    exact ((h0.trans h1).trans h2).thrown HD.out
                  have HM5 : Hid (∀ (i : Nat) (f : Fc), (l ++ [(⟨mo, L, Z⟩ : Fc)])[i]? = some f → FcL i f) := fun i f hf => by
                    by_cases q : i < l.length
                    · rw [List.getElem?_append_left q] at hf
                      exact HM.out i f hf
                    · rw [List.getElem?_append_right (by omega)] at hf
                      have e0 : i - l.length = 0 := by have := (List.getElem?_eq_some_iff.1 hf).1; simp at this; omega
                      rw [e0] at hf
                      injection hf with hf
                      subst hf
                      exact ⟨by rw [show i = j by omega]; exact HMO.out, HL.out, HZS.out, HLn.out, hPn⟩
                  have HO5 := Lib.hid hown6
                  clear hown5 hown6 hgrow5 hat5 hbl HOX1 HRX HLIT HF HT g0 g1 g2
                  go_wp2_with fail
                  go_roundw
                  case rel => exact ⟨j + 1, _, _, by omega, by simp; omega, by go_num, HO5, HR5, HM5, HT5⟩
                  case measure => simp [intOf]; omega
      · obtain rfl : j = 4 := by omega
        have hRl : R.length = 4 := HR.out.len.trans hlj
        obtain ⟨g4, c4, rfl⟩ : ∃ g c, u6 = .slice (some ⟨g, 0, none⟩) 4 c := by
          rcases HO.out.2 with ⟨_, hz⟩ | ⟨g, c, cur, hz, _⟩
          · omega
          · exact ⟨g, c, by rw [hz, hRl]⟩
        have HFA := Lib.hid (FacesAt.of_own HO.out HR.out)
        have HL4 := Lib.hid hlj
        have HFT : Hid (FcsFit l) := fit_four hlj HM.out
        have HBW : Hid (Below w2.heap.size w2 wS) := base_thrown6 HBZ0.out HT.out HD3.out
        clear HO HR HT hRl hlj HLT2 HLW HXL HXD HTZ HD HBZ0 HW3X
        go_wp2_with fail
        refine (all_any _ _ _ l wS HFA.out HFT.out).mono ?_
        rintro e wA ⟨ob, RA, LA, rfl, hsA, hlA, hbA⟩
        have HSA := Lib.hid hsA
        have HGA : Hid (∀ i, i < 4 → AscB (LA i) ∧ ∀ b, b ∈ LA i ↔ Giv l i b) := fun i hi => (hlA i hi).2
        have HLA : Hid (∀ i, i < 4 → SlIs encBd wA (svV (RA i)) (LA i)) := fun i hi => (hlA i hi).1
        have HFB := Lib.hid (HFA.out.below hbA)
        have HBA : Hid (Below w2.heap.size w2 wA) := HBW.out.trans (hbA.mono HBW.out.size)
        clear hsA hlA hbA HFA HBW
        obtain ⟨i1, hi1, hx0, hx1, hx2⟩ := info_parts infoBs
        go_wp2_with fail
        go_loopw [13] (fun i wr => ∃ ii : Nat, ii ≤ 4 ∧ i = .int .i64 ii ∧ Hid (Below wA.heap.size wA wr)) (fun i _ => 4 - (intOf i).toNat)
        case atStart => exact ⟨0, Nat.zero_le _, rfl, Below.refl _ _⟩
        case round =>
          obtain ⟨ii, hii, rfl, hbx⟩ := hrel
          obtain ⟨wx, rfl⟩ : ∃ x, x = wr := ⟨wr, rfl⟩
          by_cases hlt : ii < 4
          · have hli : (ii : Int) < 4 := by omega
            obtain ⟨⟨qo, no, co⟩, ⟨qp, np, cp⟩, hfc⟩ := face_cells HFB.out HL4.out hlt
            have HFC := Lib.hid hfc
            have hnp : np = (l.getD ii fc0).pub.length := (hfc.pub.lies).1
            have hfm := HM.out ii (l.getD ii fc0) (by have := HL4.out; simp [List.getD, List.getElem?_eq_getElem (show ii < l.length by omega)])
            have hnp2 : (np : Int) ≤ 2 := by have := hfm.pubs; omega
            have HNP := Lib.hid hnp
            have HFM := Lib.hid hfm
            obtain ⟨k0, k1, k2⟩ := (hfc.below hbx.out).cells
            simp only [svV] at k1 k2
            have HFF : Hid (l[ii]? = some (l.getD ii fc0)) := by have := HL4.out; unfold Hid; simp [List.getD, List.getElem?_eq_getElem (show ii < l.length by omega)]
            clear hfc hnp hfm
            generalize l.getD ii fc0 = f at *
            go_wp2_with fail
            go_loopw [14, 15] (fun v k wr => ∃ (kk : Nat) (PS : List Sv), kk ≤ np ∧ PS.length = kk ∧ k = .int .i64 kk ∧ Hid (Below wA.heap.size wA wr) ∧ Hid (OwnL encSv bsT wr wA.heap.size v PS) ∧ Hid (∀ x, x < kk → ∃ t, t < 4 ∧ f.pub[x]? = some (namesM.getD t ByteArray.empty) ∧ PS[x]? = some (RA t))) (fun _ k _ => np - (intOf k).toNat)
            case atStart => exact ⟨0, [], Nat.zero_le _, rfl, rfl, hbx, OwnL.isNil _ _ _ _, fun x hx => by omega⟩
            case round =>
              clear hbx k0 k1 k2
              obtain ⟨kk, PS, hkk, hps, rfl, hbx, HPO, HPX⟩ := hrel
              obtain ⟨wy, rfl⟩ : ∃ x, x = wr := ⟨wr, rfl⟩
              obtain ⟨k0, k1, k2⟩ := (HFC.out.below hbx.out).cells
              simp only [svV] at k1 k2
              by_cases hltk : kk < np
              · have hkl : kk < f.pub.length := by rw [← HNP.out]; exact hltk
                obtain ⟨t, ht4, hte⟩ := names_idx (HFM.out.pub f.pub[kk] (List.getElem_mem hkl))
                have HPK : Hid (f.pub[kk]? = some (namesM.getD t ByteArray.empty)) := by rw [Hid, List.getElem?_eq_getElem hkl, hte]
                obtain ⟨bp, op, hqp, hcp⟩ := ((HFC.out.below hbx.out).pub.lies).2.2.2 (show 0 < np by omega)
                have hqp' : qp = some ⟨bp, op, none⟩ := hqp
                subst hqp'
                have ctx := sAt hcp kk hkl
                rw [show f.pub.getD kk ByteArray.empty = namesM.getD t ByteArray.empty from by simp [List.getD, List.getElem?_eq_getElem hkl, hte]] at ctx
                have car : SvRow wA ob t (svV (RA t)) := sv_at HSA.out ht4
                have car := car.below hbx.out
                unfold SvRow at car
                obtain ⟨⟨qa, na, ca4⟩, hra⟩ : ∃ s, RA t = s := ⟨_, rfl⟩
                rw [hra] at car
                have hpl : PS.length ≤ 2 := by omega
                clear hqp hcp hte hkl
                rcases (show t = 0 ∨ t = 1 ∨ t = 2 ∨ t = 3 by omega) with rfl | rfl | rfl | rfl
                · have eb : (⟨#[97]⟩ : ByteArray)[0].toNat = 97 := rfl
                  have ct : wy.cell? ⟨bp, op + kk, none⟩ = some (.string ⟨#[97]⟩) := ctx
                  have ca : wy.cell? ⟨ob, 0, none⟩ = some (.slice qa na ca4) := car
                  have HPO2 := Lib.hid (OwnL.alloc HPO.out (.cells #[.slice qa na ca4] bsT))
                  have HLIT := Lib.hid (cellsAt_alloc wy [.slice qa na ca4] bsT)
                  clear ctx car
                  go_wp2_with (first
                    | (at_builtin; refine wpList_append_own_at _ rfl (.tmp 91) (.tmp 106) 47 rfl wA.heap.size bsT i1 (.slice none 0 0) 1 24 Try.underlying47 hi1 hx0 hx1 hx2 rfl (by decide) u14 PS.length (encSv.all PS) rfl HPO2.out ⟨wy.heap.size, 0, none⟩ 1 1 [.slice qa na ca4] rfl rfl (fun j u hu => by rw [add_lit]; exact HLIT.out j u hu) (fun u hu => by simp at hu; subst hu; rfl) (by unfold maxLen; omega) (by omega) (by have := hbx.out.size; rw [World.size_alloc]; omega) ?_
                       intro v' w' h1 h2 _ _
                       have HPN : Hid (OwnL encSv bsT w' wA.heap.size v' (PS ++ [RA 0])) := (by unfold Hid OwnL; rw [List.length_append, encSv.all_append, hra]; exact h1)
                       have HBN : Hid (Below wA.heap.size wA w') := (((hbx.out.trans ((below_box wy (.cells #[.slice qa na ca4] bsT)).mono hbx.out.size))).trans (OwnL.grown_below HPO2.out h2 (by have := hbx.out.size; rw [World.size_alloc]; omega)))
                       clear h1 h2 HPO2 HLIT ct ca k0 k1 k2)
                    | fail)
                  go_roundw
                  case rel =>
                    refine ⟨kk + 1, PS ++ [RA 0], by omega, by simp [hps], by go_num, HBN, HPN, fun x hx => ?_⟩
                    by_cases hxe : x < kk
                    · obtain ⟨t', h1, h2, h3⟩ := HPX.out x hxe
                      exact ⟨t', h1, h2, by rw [List.getElem?_append_left (by omega)]; exact h3⟩
                    · obtain rfl : x = kk := by omega
                      exact ⟨0, by omega, HPK.out, by rw [List.getElem?_append_right (by omega), hps, Nat.sub_self]; rfl⟩
                  case measure => simp [intOf]; omega
                · have eb : (⟨#[98]⟩ : ByteArray)[0].toNat = 98 := rfl
                  have ct : wy.cell? ⟨bp, op + kk, none⟩ = some (.string ⟨#[98]⟩) := ctx
                  have ca : wy.cell? ⟨ob, 1, none⟩ = some (.slice qa na ca4) := car
                  have HPO2 := Lib.hid (OwnL.alloc HPO.out (.cells #[.slice qa na ca4] bsT))
                  have HLIT := Lib.hid (cellsAt_alloc wy [.slice qa na ca4] bsT)
                  clear ctx car
                  go_wp2_with (first
                    | (at_builtin; refine wpList_append_own_at _ rfl (.tmp 91) (.tmp 106) 47 rfl wA.heap.size bsT i1 (.slice none 0 0) 1 24 Try.underlying47 hi1 hx0 hx1 hx2 rfl (by decide) u14 PS.length (encSv.all PS) rfl HPO2.out ⟨wy.heap.size, 0, none⟩ 1 1 [.slice qa na ca4] rfl rfl (fun j u hu => by rw [add_lit]; exact HLIT.out j u hu) (fun u hu => by simp at hu; subst hu; rfl) (by unfold maxLen; omega) (by omega) (by have := hbx.out.size; rw [World.size_alloc]; omega) ?_
                       intro v' w' h1 h2 _ _
                       have HPN : Hid (OwnL encSv bsT w' wA.heap.size v' (PS ++ [RA 1])) := (by unfold Hid OwnL; rw [List.length_append, encSv.all_append, hra]; exact h1)
                       have HBN : Hid (Below wA.heap.size wA w') := (((hbx.out.trans ((below_box wy (.cells #[.slice qa na ca4] bsT)).mono hbx.out.size))).trans (OwnL.grown_below HPO2.out h2 (by have := hbx.out.size; rw [World.size_alloc]; omega)))
                       clear h1 h2 HPO2 HLIT ct ca k0 k1 k2)
                    | fail)
                  go_roundw
                  case rel =>
                    refine ⟨kk + 1, PS ++ [RA 1], by omega, by simp [hps], by go_num, HBN, HPN, fun x hx => ?_⟩
                    by_cases hxe : x < kk
                    · obtain ⟨t', h1, h2, h3⟩ := HPX.out x hxe
                      exact ⟨t', h1, h2, by rw [List.getElem?_append_left (by omega)]; exact h3⟩
                    · obtain rfl : x = kk := by omega
                      exact ⟨1, by omega, HPK.out, by rw [List.getElem?_append_right (by omega), hps, Nat.sub_self]; rfl⟩
                  case measure => simp [intOf]; omega
                · have eb : (⟨#[99]⟩ : ByteArray)[0].toNat = 99 := rfl
                  have ct : wy.cell? ⟨bp, op + kk, none⟩ = some (.string ⟨#[99]⟩) := ctx
                  have ca : wy.cell? ⟨ob, 2, none⟩ = some (.slice qa na ca4) := car
                  have HPO2 := Lib.hid (OwnL.alloc HPO.out (.cells #[.slice qa na ca4] bsT))
                  have HLIT := Lib.hid (cellsAt_alloc wy [.slice qa na ca4] bsT)
                  clear ctx car
                  go_wp2_with (first
                    | (at_builtin; refine wpList_append_own_at _ rfl (.tmp 91) (.tmp 106) 47 rfl wA.heap.size bsT i1 (.slice none 0 0) 1 24 Try.underlying47 hi1 hx0 hx1 hx2 rfl (by decide) u14 PS.length (encSv.all PS) rfl HPO2.out ⟨wy.heap.size, 0, none⟩ 1 1 [.slice qa na ca4] rfl rfl (fun j u hu => by rw [add_lit]; exact HLIT.out j u hu) (fun u hu => by simp at hu; subst hu; rfl) (by unfold maxLen; omega) (by omega) (by have := hbx.out.size; rw [World.size_alloc]; omega) ?_
                       intro v' w' h1 h2 _ _
                       have HPN : Hid (OwnL encSv bsT w' wA.heap.size v' (PS ++ [RA 2])) := (by unfold Hid OwnL; rw [List.length_append, encSv.all_append, hra]; exact h1)
                       have HBN : Hid (Below wA.heap.size wA w') := (((hbx.out.trans ((below_box wy (.cells #[.slice qa na ca4] bsT)).mono hbx.out.size))).trans (OwnL.grown_below HPO2.out h2 (by have := hbx.out.size; rw [World.size_alloc]; omega)))
                       clear h1 h2 HPO2 HLIT ct ca k0 k1 k2)
                    | fail)
                  go_roundw
                  case rel =>
                    refine ⟨kk + 1, PS ++ [RA 2], by omega, by simp [hps], by go_num, HBN, HPN, fun x hx => ?_⟩
                    by_cases hxe : x < kk
                    · obtain ⟨t', h1, h2, h3⟩ := HPX.out x hxe
                      exact ⟨t', h1, h2, by rw [List.getElem?_append_left (by omega)]; exact h3⟩
                    · obtain rfl : x = kk := by omega
                      exact ⟨2, by omega, HPK.out, by rw [List.getElem?_append_right (by omega), hps, Nat.sub_self]; rfl⟩
                  case measure => simp [intOf]; omega
                · have eb : (⟨#[100]⟩ : ByteArray)[0].toNat = 100 := rfl
                  have ct : wy.cell? ⟨bp, op + kk, none⟩ = some (.string ⟨#[100]⟩) := ctx
                  have ca : wy.cell? ⟨ob, 3, none⟩ = some (.slice qa na ca4) := car
                  have HPO2 := Lib.hid (OwnL.alloc HPO.out (.cells #[.slice qa na ca4] bsT))
                  have HLIT := Lib.hid (cellsAt_alloc wy [.slice qa na ca4] bsT)
                  clear ctx car
                  go_wp2_with (first
                    | (at_builtin; refine wpList_append_own_at _ rfl (.tmp 91) (.tmp 106) 47 rfl wA.heap.size bsT i1 (.slice none 0 0) 1 24 Try.underlying47 hi1 hx0 hx1 hx2 rfl (by decide) u14 PS.length (encSv.all PS) rfl HPO2.out ⟨wy.heap.size, 0, none⟩ 1 1 [.slice qa na ca4] rfl rfl (fun j u hu => by rw [add_lit]; exact HLIT.out j u hu) (fun u hu => by simp at hu; subst hu; rfl) (by unfold maxLen; omega) (by omega) (by have := hbx.out.size; rw [World.size_alloc]; omega) ?_
                       intro v' w' h1 h2 _ _
                       have HPN : Hid (OwnL encSv bsT w' wA.heap.size v' (PS ++ [RA 3])) := (by unfold Hid OwnL; rw [List.length_append, encSv.all_append, hra]; exact h1)
                       have HBN : Hid (Below wA.heap.size wA w') := (((hbx.out.trans ((below_box wy (.cells #[.slice qa na ca4] bsT)).mono hbx.out.size))).trans (OwnL.grown_below HPO2.out h2 (by have := hbx.out.size; rw [World.size_alloc]; omega)))
                       clear h1 h2 HPO2 HLIT ct ca k0 k1 k2)
                    | fail)
                  go_roundw
                  case rel =>
                    refine ⟨kk + 1, PS ++ [RA 3], by omega, by simp [hps], by go_num, HBN, HPN, fun x hx => ?_⟩
                    by_cases hxe : x < kk
                    · obtain ⟨t', h1, h2, h3⟩ := HPX.out x hxe
                      exact ⟨t', h1, h2, by rw [List.getElem?_append_left (by omega)]; exact h3⟩
                    · obtain rfl : x = kk := by omega
                      exact ⟨3, by omega, HPK.out, by rw [List.getElem?_append_right (by omega), hps, Nat.sub_self]; rfl⟩
                  case measure => simp [intOf]; omega
              · obtain rfl : kk = np := by omega
                obtain ⟨p14, c14, rfl, hq1, hq2, hq3⟩ := HPO.out.sl
                have HNPE := Lib.hid hps
                have hdr := (Below.refl wy.heap.size wy).drew
                have HFC1 := Lib.hid ((HFC.out.below hbx.out).below hdr)
                have hPS : SlIs encSv wy.drew (.slice p14 f.pub.length c14) PS := by
                  have h0 : SlIs encSv wy (.slice p14 PS.length c14) PS := ⟨p14, c14, rfl, hq1, hq2, hq3⟩
                  rw [hps, HNP.out] at h0
                  exact h0.below hdr
                rw [hps]
                have car : SvRow wA ob ii (svV (RA ii)) := sv_at HSA.out hlt
                have hla := (HLA.out ii hlt).below (bnext hbx.out hdr)
                obtain ⟨⟨qa, na, ca4⟩, hra⟩ : ∃ s, RA ii = s := ⟨_, rfl⟩
                have HST : Hid (∀ W, LeW wy.drew W → Calls Try.prog 25 #[.string f.mo, .slice qo no co, .slice p14 kk c14] W fun e w' => ∃ q n c, e = .returned (.slice q n c) ∧ SlIs encBd w' (.slice q n c) (LA ii) ∧ Below W.heap.size W w') := fun W hW => by
                  rw [HNP.out]
                  exact step_sol (i := ii) (f := f) (RA := RA) (PS := PS) (by have := HFM.out.pubs; omega) HFT.out (fun i hi => HGA.out i (by have := HL4.out; omega)) (by have := HL4.out; omega) HFF.out ixM (fun m hm => four_first HL4.out HM.out (HFM.out.pub m hm)) (HFC1.out.below hW).own (hPS.below hW) (fun x m hm => by
                    have hx : x < kk := by have h1 := (List.getElem?_eq_some_iff.1 hm).1; have h2 := HNP.out; omega
                    obtain ⟨t, h1, h2, h3⟩ := HPX.out x hx
                    rw [h2] at hm
                    injection hm with hm
                    rw [← hm, ixM_at h1]
                    exact h3) (fun k hk => ((HLA.out k (by have := HL4.out; omega)).below (bnext hbx.out hdr)).below hW)
                have HLL : Hid ((LA ii).length ≤ 1000000) := by
                  have h := GivA.len (fun i hi => HGA.out i (by have := HL4.out; omega)) HFT.out (show ii < l.length by have := HL4.out; omega)
                  unfold Hid
                  omega
                rw [hra] at car hla
                have HRA1 : Hid (SvRow wy.drew ob ii (.slice qa na ca4)) := car.below (bnext hbx.out hdr)
                have HLA1 : Hid (SlIs encBd wy.drew (.slice qa na ca4) (LA ii)) := hla
                clear hps hq1 hq2 hq3 hdr hPS car hla hra HPO HPX
                generalize LA ii = la at *
                go_wp2_with fail
                clear k0 k1 k2
                apply wp_region_relT LeW.refl LeW.trans 17
                case hm => kernel_rfl
                case hB => kernel_rfl
                simp only [List.take_succ_cons, List.take_zero, List.drop_succ_cons, List.drop_zero]
                apply wpRel_cons (t := tyIs _ _)
                case h1 => (intro w' hl hd2; clear hl hd2; unfold relAt; go_simp; exact rel_is LeW.refl)
                intro _
                rw [tyIs_f]
                go_simp
                apply wpRel_cons (t := tyIs _ _)
                case h1 => (intro w' hl hd2; clear hl hd2; unfold relAt; go_simp; exact rel_is LeW.refl)
                intro _
                rw [tyIs_f]
                go_simp
                apply wpRel_cons (t := tyIs _ _)
                case h1 => (intro w' hl hd2; clear hl hd2; unfold relAt; go_simp; exact rel_is LeW.refl)
                intro _
                rw [tyIs_f]
                go_simp
                apply wpRel_cons (t := tyIs _ _)
                case h1 => (intro w' hl hd2; clear hl hd2; unfold relAt; go_simp; exact rel_is LeW.refl)
                intro _
                rw [tyIs_f]
                go_simp
                apply wpRel_cons (t := tyIs _ _)
                case h1 => (intro w' hl hd2; obtain ⟨k0, k1, k2⟩ := (HFC1.out.below hl).cells; simp only [svV] at k0 k1 k2; clear hl hd2; unfold relAt; go_simp; exact rel_is LeW.refl)
                intro _
                rw [tyIs_f]
                go_simp
                apply wpRel_cons (t := tyIs _ _)
                case h1 => (intro w' hl hd2; clear hl hd2; unfold relAt; go_simp; exact rel_is LeW.refl)
                intro _
                rw [tyIs_f]
                go_simp
                apply wpRel_cons (t := tyIs _ _)
                case h1 => (intro w' hl hd2; clear hl hd2; unfold relAt; go_simp; exact rel_is LeW.refl)
                intro _
                rw [tyIs_f]
                go_simp
                apply wpRel_cons (t := tyIs _ _)
                case h1 => (intro w' hl hd2; clear hl hd2; unfold relAt; go_simp; exact rel_is LeW.refl)
                intro _
                rw [tyIs_f]
                go_simp
                apply wpRel_cons (t := tyIs _ _)
                case h1 => (intro w' hl hd2; clear hl hd2; unfold relAt; go_simp; exact rel_is LeW.refl)
                intro _
                rw [tyIs_f]
                go_simp
                apply wpRel_cons (t := tyIs _ _)
                case h1 => (intro w' hl hd2; obtain ⟨k0, k1, k2⟩ := (HFC1.out.below hl).cells; simp only [svV] at k0 k1 k2; clear hl hd2; unfold relAt; go_simp; exact rel_is LeW.refl)
                intro _
                rw [tyIs_f]
                go_simp
                apply wpRel_cons (t := tyIs _ _)
                case h1 => (intro w' hl hd2; clear hl hd2; unfold relAt; go_simp; exact rel_is LeW.refl)
                intro _
                rw [tyIs_f]
                go_simp
                apply wpRel_cons (t := tyBd la)
                case h1 => (intro w' hl hd2; have hst := HST.out w' hl; clear hl hd2; unfold relAt; go_simp; refine ⟨LeW.refl _, ?_⟩; refine hst.mono ?_; rintro e w'' ⟨q, n, c, rfl, hs, hb⟩; exact ⟨⟨(q, n, c), trivial⟩, rfl, hb, hs⟩)
                rintro ⟨⟨sq, sn, sc⟩, -⟩
                rw [tyBd_f]
                go_simp
                apply wpRel_cons (t := tyIs _ _)
                case h1 => (intro w' hl hd2; clear hl hd2; unfold relAt; go_simp; exact rel_is LeW.refl)
                intro _
                rw [tyIs_f]
                go_simp
                apply wpRel_cons (t := tyIs _ _)
                case h1 => (intro w' hl hd2; clear hl hd2; unfold relAt; go_simp; exact rel_is LeW.refl)
                intro _
                rw [tyIs_f]
                go_simp
                apply wpRel_cons (t := tyIs _ _)
                case h1 => (intro w' hl hd2; clear hl hd2; unfold relAt; go_simp; exact rel_is LeW.refl)
                intro _
                rw [tyIs_f]
                go_simp
                apply wpRel_cons (t := tyIs _ _)
                case h1 => (intro w' hl hd2; have c0 := HRA1.out.below hl; unfold SvRow at c0; clear hl hd2; unfold relAt; go_simp; exact rel_is LeW.refl)
                intro _
                rw [tyIs_f]
                go_simp
                apply wpRel_cons (t := tyIs _ (.bool true))
                case h1 => (intro w' hl hd2; have hx := fact_lw hd2 (j := 11) (by kernel_rfl); simp [upd] at hx; have hx2 : SlIs encBd w' (.slice sq sn sc) la := hx; have hx3 := HLA1.out.below hl; clear hl hd2 hx; unfold relAt; go_simp; refine ⟨LeW.refl _, ?_⟩; refine (sameB_eq sq sn sc qa na ca4 la _ HLL.out hx2 hx3).mono ?_; rintro e w'' ⟨rfl, hb''⟩; exact ⟨(), rfl, hb'', trivial⟩)
                intro _
                rw [tyIs_f]
                go_simp
                apply wpRel_nil (Ts := [])
                intro wq hl hF
                have HBZ := Lib.hid (hbx.out.trans ((((Below.refl _ wy).drew).trans hl).mono hbx.out.size))
                clear hl hF HST HRA1 HLA1 HFC1
                go_wp2_with fail
                go_roundw
                case rel => exact ⟨ii + 1, by omega, by go_num, HBZ⟩
                case measure => simp [intOf]; omega
          · obtain rfl : ii = 4 := by omega
            obtain ⟨km, hmod, hk0, hk4⟩ := mod_any turn 4 (by omega) (by omega) htl hth
            obtain ⟨k, rfl⟩ : ∃ k : Nat, km = k := ⟨km.toNat, by omega⟩
            have hkn : k < 4 := by omega
            have HMD := Lib.hid (hmod wx)
            obtain ⟨RF, hrf1, hrf2, hrf3⟩ := HFB.out
            have hc4 : 4 ≤ c4 ∧ c4 ≤ maxLen := ⟨(hrf1.lies).2.1, (hrf1.lies).2.2.1⟩
            have hc4a := hc4.1
            have hke : ¬ c4 = k := by omega
            have hki : (k : Int) ≤ 4 := by omega
            have hki0 : (0 : Int) ≤ k := by omega
            have hkc : k ≤ c4 := by omega
            have HKN := Lib.hid hkn
            have hc4b : (c4 : Int) ≤ 9223372036854775807 := by have := hc4.2; unfold maxLen at this; omega
            have hdr := (Below.refl wx.heap.size wx).drew
            have hwd : Below wA.heap.size wA wx.drew := bnext hbx.out hdr
            have HBQ3 : Hid (wA.heap.size ≤ wx.drew.heap.size) := hwd.size
            have HRC : Hid (CellsAt wx.drew g4 0 (encFc.all RF)) := by
              obtain ⟨b, off, e, hc⟩ := (hrf1.lies).2.2.2 (by omega)
              injection e with e
              injection e with e1 e2 _
              subst e1; subst e2
              exact hc.below hwd
            have HRF2 := Lib.hid hrf2
            have HRF4 : Hid (RF.length = 4) := hrf2.trans HL4.out
            have HRF3 := Lib.hid hrf3
            clear hmod hk0 hrf1 hrf2 hrf3 hc4 hdr
            go_wp2_with (first
              | (go_at_call 30; refine HMD.out.mono ?_; rintro e w' ⟨rfl, rfl⟩)
              | fail)
            clear HMD
            apply wp_region_relT LeW.refl LeW.trans 7
            case hm => kernel_rfl
            case hB => kernel_rfl
            simp only [List.take_succ_cons, List.take_zero, List.drop_succ_cons, List.drop_zero]
            apply wpRel_cons (t := tyIs _ _)
            case h1 => (intro w' hl hd2; clear hl hd2; unfold relAt; go_simp; exact rel_is LeW.refl)
            intro _
            rw [tyIs_f]
            go_simp
            apply wpRel_cons (t := tyIs _ _)
            case h1 => (intro w' hl hd2; clear hl hd2; unfold relAt; go_simp; exact rel_is LeW.refl)
            intro _
            rw [tyIs_f]
            go_simp
            apply wpRel_cons (t := tyIs _ _)
            case h1 => (intro w' hl hd2; clear hl hd2; unfold relAt; go_simp; exact rel_is LeW.refl)
            intro _
            rw [tyIs_f]
            go_simp
            apply wpRel_cons (t := tyOwnF wx.drew.heap.size (RF.drop k))
            case h1 => (intro w' hl hd2; obtain ⟨v', w'', hr, ho⟩ := app_fc (cp := c4 - k) (w := w') (base := wx.drew.heap.size) hl.size (HRC.out.below hl) HRF4.out (Nat.le_of_lt HKN.out) 46; clear hl hd2; exact relAt_appendF rfl rfl rfl rfl hr ho)
            rintro ⟨v1, -⟩
            rw [tyOwnF_f]
            go_simp
            apply wpRel_cons (t := tyIs _ _)
            case h1 => (intro w' hl hd2; clear hl hd2; unfold relAt; go_simp; exact rel_is LeW.refl)
            intro _
            rw [tyIs_f]
            go_simp
            apply wpRel_cons (t := tyIs _ _)
            case h1 => (intro w' hl hd2; clear hl hd2; unfold relAt; go_simp; exact rel_is LeW.refl)
            intro _
            rw [tyIs_f]
            go_simp
            apply wpRel_cons (t := tyIs _ _)
            case h1 => (intro w' hl hd2; clear hl hd2; unfold relAt; go_simp; exact rel_is LeW.refl)
            intro _
            rw [tyIs_f]
            go_simp
            apply wpRel_nil (Ts := [])
            intro wq hl hF
            have ho1 : OwnL encFc fcT wq wx.drew.heap.size v1 (RF.drop k) := hF 3
            have HBQ : Hid (Below wA.heap.size wA wq) := bnext hwd hl
            have HRQ := Lib.hid (HRC.out.below hl)
            have HBQ2 := Lib.hid hl
            clear hF hl hwd
            go_wp2_with (first
              | (at_builtin; refine wpList_append_own_at _ rfl (.tmp 131) (.tmp 134) 46 rfl wx.drew.heap.size fcT i0 (.agg #[.string ⟨#[]⟩, .slice none 0 0, .slice none 0 0]) 3 64 Try.underlying46 hi0 hz0 hz1 hz2 rfl (by decide) v1 (RF.drop k).length (encFc.all (RF.drop k)) rfl ho1 ⟨g4, 0, none⟩ k c4 (encFc.all (RF.take k)) rfl (by rw [encFc.all_length, List.length_take, HRF4.out, Nat.min_eq_left (Nat.le_of_lt HKN.out)]; rfl) (fun j u hu => by rw [add_lit]; have h := HRQ.out j u (all_front (by rw [HRF4.out]; exact Nat.le_of_lt HKN.out) j u hu); exact h) (fun u hu => encFc.all_one _ u hu) (by rw [List.length_drop, HRF4.out]; unfold maxLen; omega) (by rw [List.length_drop, HRF4.out]; omega) HBQ2.out.size ?_
                 intro v2 w20 h1 h2 _ _
                 have HO20 : Hid (OwnL encFc fcT w20 wx.drew.heap.size v2 (RF.drop k ++ RF.take k)) := (by
                   unfold Hid OwnL
                   rw [List.length_append, encFc.all_append, List.length_take, HRF4.out, Nat.min_eq_left (Nat.le_of_lt HKN.out)]
                   exact h1)
                 have HB20 : Hid (Below wA.heap.size wA w20) := HBQ.out.trans ((OwnL.grown_below ho1 h2 HBQ2.out.size).mono (by have := HBQ3.out; exact this))
                 clear h1 h2 ho1)
              | fail)
            obtain ⟨g6, c6, rfl⟩ : ∃ g c, v2 = .slice (some ⟨g, 0, none⟩) 4 c := by
              have hlen := rot_len HRF4.out (Nat.le_of_lt HKN.out)
              rcases HO20.out.2 with ⟨_, hz⟩ | ⟨g, c, cur, hz, _⟩
              · omega
              · exact ⟨g, c, by rw [hz, hlen]⟩
            have HF20 : Hid (FacesAt w20 (.slice (some ⟨g6, 0, none⟩) 4 c6) (l.drop k ++ l.take k)) := faces_rot (Nat.le_of_lt HKN.out) HL4.out HRF2.out HRF3.out HB20.out HO20.out.sl
            have HFT2 : Hid (FcsFit (l.drop k ++ l.take k)) := fit_rot HL4.out (Nat.le_of_lt HKN.out) HFT.out
            clear HO20 HBQ HRQ HBQ2 HBQ3 HRC HRF2 HRF3 HRF4
            refine (all_any _ _ _ (l.drop k ++ l.take k) w20 HF20.out HFT2.out).mono ?_
            rintro e wB ⟨ob2, RB, LB, rfl, hsB, hlB, hbB⟩
            have HBB : Hid (Below wA.heap.size wA wB) := bnext HB20.out hbB
            have HSB := Lib.hid hsB
            have HEQ : Hid (∀ i, i < 4 → LB i = LA ((i + k) % 4)) := fun i hi => lists_rot HL4.out HKN.out (by rw [four_mo HL4.out HM.out]; unfold namesM; decide) (fun i hi => HGA.out i (by have := HL4.out; omega)) (fun i hi => (hlB i (by rw [rot_len HL4.out (Nat.le_of_lt HKN.out)] at hi; exact hi)).2) i hi
            have HLB : Hid (∀ i, i < 4 → SlIs encBd wB (svV (RB i)) (LA ((i + k) % 4))) := fun i hi => by rw [← HEQ.out i hi]; exact (hlB i hi).1
            clear hsB hlB hbB HF20 HFT2 HB20 HEQ
            go_wp2_with fail
            clear hbx
            go_loopw [18] (fun i wr => ∃ ii : Nat, ii ≤ 4 ∧ i = .int .i64 ii ∧ Hid (Below wB.heap.size wB wr)) (fun i _ => 4 - (intOf i).toNat)
            case atStart => exact ⟨0, Nat.zero_le _, rfl, Below.refl _ _⟩
            case round =>
              obtain ⟨ii, hii, rfl, hbx⟩ := hrel
              obtain ⟨wy, rfl⟩ : ∃ x, x = wr := ⟨wr, rfl⟩
              by_cases hlt : ii < 4
              · have hli : (ii : Int) < 4 := by omega
                obtain ⟨t, hte⟩ : ∃ t, t = (ii + k) % 4 := ⟨_, rfl⟩
                have ht4 : t < 4 := by omega
                have hdr := bnext hbx.out ((Below.refl wy.heap.size wy).drew)
                have car : SvRow wB ob t (svV (RA t)) := (SvRow.below (sv_at HSA.out ht4) HBB.out)
                have cbr : SvRow wB ob2 ii (svV (RB ii)) := sv_at HSB.out hlt
                have hla := ((HLA.out t ht4).below HBB.out).below hdr
                have hlb := (HLB.out ii hlt).below hdr
                rw [← hte] at hlb
                obtain ⟨⟨qa, na, ca4⟩, hra⟩ : ∃ s, RA t = s := ⟨_, rfl⟩
                obtain ⟨⟨qb, nb, cb4⟩, hrb⟩ : ∃ s, RB ii = s := ⟨_, rfl⟩
                rw [hra] at car hla
                rw [hrb] at cbr hlb
                have HRA1 : Hid (SvRow wy.drew ob t (.slice qa na ca4)) := car.below hdr
                have HRB1 : Hid (SvRow wy.drew ob2 ii (.slice qb nb cb4)) := cbr.below hdr
                have HLA1 : Hid (SlIs encBd wy.drew (.slice qa na ca4) (LA t)) := hla
                have HLB1 : Hid (SlIs encBd wy.drew (.slice qb nb cb4) (LA t)) := hlb
                have HLL : Hid ((LA t).length ≤ 1000000) := by
                  have h := GivA.len (fun i hi => HGA.out i (by have := HL4.out; omega)) HFT.out (show t < l.length by have := HL4.out; omega)
                  unfold Hid
                  omega
                have hmt : (IntKind.i64.wrap ((ii : Int) + (k : Int))).tmod 4 = (t : Int) := by rw [IntWalk.i64_in _ (by omega), Int.tmod_eq_emod_of_nonneg (by omega)]; omega
                have hti : (t : Int) < 4 := by omega
                have HTE := Lib.hid hte
                clear hdr car cbr hla hlb hra hrb hte
                go_wp2_with fail
                apply wp_region_relT LeW.refl LeW.trans 12
                case hm => kernel_rfl
                case hB => kernel_rfl
                simp only [List.take_succ_cons, List.take_zero, List.drop_succ_cons, List.drop_zero]
                apply wpRel_cons (t := tyIs _ _)
                case h1 => (intro w' hl hd2; clear hl hd2; unfold relAt; go_simp; exact rel_is LeW.refl)
                intro _
                rw [tyIs_f]
                go_simp
                apply wpRel_cons (t := tyIs _ _)
                case h1 => (intro w' hl hd2; clear hl hd2; unfold relAt; go_simp; exact rel_is LeW.refl)
                intro _
                rw [tyIs_f]
                go_simp
                apply wpRel_cons (t := tyIs _ _)
                case h1 => (intro w' hl hd2; clear hl hd2; unfold relAt; go_simp; exact rel_is LeW.refl)
                intro _
                rw [tyIs_f]
                go_simp
                apply wpRel_cons (t := tyIs _ _)
                case h1 => (intro w' hl hd2; clear hl hd2; unfold relAt; go_simp; exact rel_is LeW.refl)
                intro _
                rw [tyIs_f]
                go_simp
                apply wpRel_cons (t := tyIs _ _)
                case h1 => (intro w' hl hd2; clear hl hd2; unfold relAt; go_simp; exact rel_is LeW.refl)
                intro _
                rw [tyIs_f]
                go_simp
                apply wpRel_cons (t := tyIs _ _)
                case h1 => (intro w' hl hd2; clear hl hd2; unfold relAt; go_simp; exact rel_is LeW.refl)
                intro _
                rw [tyIs_f]
                go_simp
                apply wpRel_cons (t := tyIs _ _)
                case h1 => (intro w' hl hd2; have c0 := HRA1.out.below hl; unfold SvRow at c0; clear hl hd2; unfold relAt; go_simp; exact rel_is LeW.refl)
                intro _
                rw [tyIs_f]
                go_simp
                apply wpRel_cons (t := tyIs _ _)
                case h1 => (intro w' hl hd2; clear hl hd2; unfold relAt; go_simp; exact rel_is LeW.refl)
                intro _
                rw [tyIs_f]
                go_simp
                apply wpRel_cons (t := tyIs _ _)
                case h1 => (intro w' hl hd2; clear hl hd2; unfold relAt; go_simp; exact rel_is LeW.refl)
                intro _
                rw [tyIs_f]
                go_simp
                apply wpRel_cons (t := tyIs _ _)
                case h1 => (intro w' hl hd2; clear hl hd2; unfold relAt; go_simp; exact rel_is LeW.refl)
                intro _
                rw [tyIs_f]
                go_simp
                apply wpRel_cons (t := tyIs _ _)
                case h1 => (intro w' hl hd2; have c0 := HRB1.out.below hl; unfold SvRow at c0; clear hl hd2; unfold relAt; go_simp; exact rel_is LeW.refl)
                intro _
                rw [tyIs_f]
                go_simp
                apply wpRel_cons (t := tyIs _ (.bool true))
                case h1 => (intro w' hl hd2; have hx2 := HLA1.out.below hl; have hx3 := HLB1.out.below hl; clear hl hd2; unfold relAt; go_simp; refine ⟨LeW.refl _, ?_⟩; refine (sameB_eq qa na ca4 qb nb cb4 (LA t) _ HLL.out hx2 hx3).mono ?_; rintro e w'' ⟨rfl, hb''⟩; exact ⟨(), rfl, hb'', trivial⟩)
                intro _
                rw [tyIs_f]
                go_simp
                apply wpRel_nil (Ts := [])
                intro wq hl hF
                have HBZ := Lib.hid (hbx.out.trans ((((Below.refl _ wy).drew).trans hl).mono hbx.out.size))
                clear hl hF HRA1 HRB1 HLA1 HLB1
                go_wp2_with fail
                go_roundw
                case rel => exact ⟨ii + 1, by omega, by go_num, HBZ⟩
                case measure => simp [intOf]; omega
              · obtain rfl : ii = 4 := by omega
                rw [show ((4 : Nat) : Int) = 4 from rfl]
                have hbx0 := hbx
                clear hbx
                go_wp2_with fail
                go_loopw [19] (fun i wr => ∃ ii : Nat, ii ≤ 4 ∧ i = .int .i64 ii ∧ Hid (Below wB.heap.size wB wr)) (fun i _ => 4 - (intOf i).toNat)
                case atStart => exact ⟨0, Nat.zero_le _, rfl, hbx0⟩
                case round =>
                  obtain ⟨ii, hii, rfl, hbx⟩ := hrel
                  obtain ⟨wy, rfl⟩ : ∃ x, x = wr := ⟨wr, rfl⟩
                  by_cases hlt : ii < 4
                  · have hli : (ii : Int) < 4 := by omega
                    have car : SvRow wB ob ii (svV (RA ii)) := (SvRow.below (sv_at HSA.out hlt) HBB.out)
                    have hla := (HLA.out ii hlt).below HBB.out
                    obtain ⟨qa, ca, ea, ha1, ha2, ha3, ha4⟩ := sv_open hla
                    rw [ea] at car
                    have HCA : Hid (SvRow wB ob ii (.slice qa (LA ii).length ca)) := car
                    have HA3 := Lib.hid ha3
                    have HA4 := Lib.hid ha4
                    have HGL : Hid (∀ b ∈ LA ii, ∃ (j : Nat) (f : Fc), l[j]? = some f ∧ b.1 ∈ f.own ∧ b.2 = defB f.mo b.1) := fun b hb => giv_defined (((HGA.out ii hlt).2 b).1 hb)
                    clear ha3 ha4 ea car hla
                    generalize LA ii = la at *
                    generalize hna : la.length = na at *
                    have HNA := Lib.hid hna
                    have hna1 : (na : Int) ≤ 9223372036854775807 := by unfold maxLen at ha2; omega
                    clear hna ha1 ha2
                    go_wp2_with fail
                    go_loopw [20] (fun j wr => ∃ jj : Nat, jj ≤ na ∧ j = .int .i64 jj ∧ Hid (Below wB.heap.size wB wr)) (fun j _ => na - (intOf j).toNat)
                    case atStart => exact ⟨0, Nat.zero_le _, rfl, hbx⟩
                    case round =>
                      clear hbx
                      obtain ⟨jj, hjj, rfl, hbx⟩ := hrel
                      obtain ⟨wz2, rfl⟩ : ∃ x, x = wr := ⟨wr, rfl⟩
                      have hca := HCA.out.below hbx.out
                      unfold SvRow at hca
                      by_cases hltj : jj < na
                      · obtain ⟨ba, oa, rfl⟩ := HA4.out (by omega)
                        have hjl : jj < la.length := by rw [HNA.out]; exact hltj
                        have hxc : CellsAt wz2 ba oa (encBd.all la) := by
                          obtain ⟨b, off, e, hc⟩ := (HA3.out.lies).2.2.2 (by omega)
                          injection e with e
                          injection e with e1 e2 _
                          subst e1; subst e2
                          exact hc.below hbx.out
                        obtain ⟨q0, q1⟩ := bdAt hxc jj hjl
                        obtain ⟨j0, f0, hf0, ho0, hd0⟩ := HGL.out (la.getD jj bd0) (by simp [List.getD, List.getElem?_eq_getElem hjl])
                        generalize la.getD jj bd0 = x at *
                        obtain ⟨x1, x2⟩ := x
                        simp only at ho0 hd0 q0 q1
                        have hj4 : j0 < 4 := by have h1 := (List.getElem?_eq_some_iff.1 hf0).1; have h2 := HL4.out; omega
                        have hfl := HM.out j0 f0 hf0
                        obtain ⟨⟨qo, no, co⟩, ⟨qp, np, cp⟩, hfc⟩ := face_cells HFB.out HL4.out hj4
                        rw [show l.getD j0 fc0 = f0 from by simp [List.getD, hf0]] at hfc
                        have HFC0 := Lib.hid hfc
                        have hnoe : no = f0.own.length := (hfc.own.lies).1
                        have HNO := Lib.hid hnoe
                        have hnoi : (no : Int) ≤ 2 := by have := hfl.owns; omega
                        have HO0 := Lib.hid ho0
                        have hin := hfl.own x1 ho0
                        rw [hfl.mo] at hd0
                        clear hfc hnoe hfl ho0 hf0 hxc hjl
                        have hx1s : x1.size = 1 := by
                          unfold inW namesW at hin
                          simp only [List.mem_cons, List.not_mem_nil, or_false] at hin
                          rcases hin with rfl | rfl | rfl | rfl <;> rfl
                        clear hin
                        · obtain ⟨cB, hcB, hmB⟩ := name_byte hj4
                          rw [hmB] at hd0
                          obtain ⟨hz, eb, hsl⟩ := x2_of (B := cB) hd0 hx1s
                          have HSL := Lib.hid hsl
                          have HX1 := Lib.hid hx1s
                          have hz0 : 0 < x2.size := by omega
                          have hz2 : ((x2.size : Int) == 0) = false := by rw [hz]; rfl
                          have hz3 : ¬ (x2.size = 0) := by omega
                          have HZ := Lib.hid hz
                          obtain ⟨cN, hcN⟩ : ∃ c, c = cB.toNat := ⟨_, rfl⟩
                          have eb0 : (x2[0]'hz0).toNat = cN := (eb hz0).trans hcN.symm
                          have hc97 : ¬ (cN : Int) < 97 := by omega
                          have hc100 : ¬ (100 : Int) < (cN : Int) := by omega
                          have hcw : IntKind.u8.wrap ((cN : Int) - 97) = (j0 : Int) := by rw [IntWalk.u8_in _ (by omega)]; omega
                          have hcw2 : IntKind.i64.wrap (j0 : Int) = (j0 : Int) := IntWalk.i64_in _ (by omega)
                          have hj4i : (j0 : Int) < 4 := by omega
                          clear hcB hmB hcN
                          clear hd0 hsl eb hx1s hz
                          have HC := Lib.hid (cellsAt_alloc wz2 [.string x1, .string x2] bdT)
                          have HBX : Hid (Below wB.heap.size wB (wz2.alloc (.cells #[.string x1, .string x2] bdT))) := bnext hbx.out (below_box wz2 _)
                          have HFC := Lib.hid ((HFC0.out.below HBB.out).below HBX.out)
                          obtain ⟨y0, y1⟩ := bd2 HC.out
                          obtain ⟨k0, k1, k2⟩ := HFC.out.cells
                          simp only [svV] at k1 k2
                          go_wp2_with fail
                          clear y0 y1 k0 k1 k2 q0 q1 hca eb0 hz2 hz3 hz0 hc97 hc100 hcw hcw2 hj4i
                          generalize hY : wz2.heap.size = Y at *
                          clear hY
                          generalize wz2.alloc (.cells #[.string x1, .string x2] bdT) = W1 at *
                          clear hbx
                          go_loopw [23, 24] (fun t m wr => ∃ (mm : Nat) (bb : Bool), mm ≤ no ∧ m = .int .i64 mm ∧ t = .bool bb ∧ Hid (Below W1.heap.size W1 wr) ∧ Hid (bb = true ∨ ∀ x, x < mm → f0.own.getD x ByteArray.empty ≠ x1)) (fun _ m _ => no - (intOf m).toNat)
                          case atStart => exact ⟨0, false, Nat.zero_le _, rfl, rfl, Below.refl _ _, .inr fun x hx => by omega⟩
                          case round =>
                            obtain ⟨mm, bb, hmm, rfl, rfl, hb9, HTH⟩ := hrel
                            obtain ⟨w9, rfl⟩ : ∃ x, x = wr := ⟨wr, rfl⟩
                            by_cases hlt9 : mm < no
                            · by_cases hbt : bb = true
                              · subst hbt
                                go_wp2_with fail
                                apply wp_region_relT LeW.refl LeW.trans 10
                                case hm => kernel_rfl
                                case hB => kernel_rfl
                                simp only [List.take_succ_cons, List.take_zero, List.drop_succ_cons, List.drop_zero]
                                apply wpRel_cons (t := tyIs _ _)
                                case h1 => (intro w' hl hd2; clear hl hd2; unfold relAt; go_simp; exact rel_is LeW.refl)
                                intro _
                                rw [tyIs_f]
                                go_simp
                                apply wpRel_cons (t := tyIs _ _)
                                case h1 => (intro w' hl hd2; clear hl hd2; unfold relAt; go_simp; exact rel_is LeW.refl)
                                intro _
                                rw [tyIs_f]
                                go_simp
                                apply wpRel_cons (t := tyIs _ undef)
                                case h1 => (intro w' hl hd2; clear hl hd2; unfold relAt; go_simp; exact ⟨(), rfl, trivial⟩)
                                intro _
                                rw [tyIs_f]
                                go_simp
                                apply wpRel_cons (t := tyIs _ undef)
                                case h1 => (intro w' hl hd2; clear hl hd2; unfold relAt; go_simp; exact ⟨(), rfl, trivial⟩)
                                intro _
                                rw [tyIs_f]
                                go_simp
                                apply wpRel_cons (t := tyIs _ undef)
                                case h1 => (intro w' hl hd2; clear hl hd2; unfold relAt; go_simp; exact ⟨(), rfl, trivial⟩)
                                intro _
                                rw [tyIs_f]
                                go_simp
                                apply wpRel_cons (t := tyIs _ undef)
                                case h1 => (intro w' hl hd2; clear hl hd2; unfold relAt; go_simp; exact ⟨(), rfl, trivial⟩)
                                intro _
                                rw [tyIs_f]
                                go_simp
                                apply wpRel_cons (t := tyIs _ undef)
                                case h1 => (intro w' hl hd2; clear hl hd2; unfold relAt; go_simp; exact ⟨(), rfl, trivial⟩)
                                intro _
                                rw [tyIs_f]
                                go_simp
                                apply wpRel_cons (t := tyIs _ undef)
                                case h1 => (intro w' hl hd2; clear hl hd2; unfold relAt; go_simp; exact ⟨(), rfl, trivial⟩)
                                intro _
                                rw [tyIs_f]
                                go_simp
                                apply wpRel_cons (t := tyIs _ undef)
                                case h1 => (intro w' hl hd2; clear hl hd2; unfold relAt; go_simp; exact ⟨(), rfl, trivial⟩)
                                intro _
                                rw [tyIs_f]
                                go_simp
                                apply wpRel_cons (t := tyIs _ _)
                                case h1 => (intro w' hl hd2; clear hl hd2; unfold relAt; go_simp; exact rel_is LeW.refl)
                                intro _
                                rw [tyIs_f]
                                go_simp
                                apply wpRel_nil (Ts := [])
                                intro wq hl hF
                                have HBZ := Lib.hid (hb9.out.trans ((((Below.refl _ w9).drew).trans hl).mono hb9.out.size))
                                clear hl hF
                                go_wp2_with fail
                                go_roundw
                                case rel => exact ⟨mm + 1, true, by omega, by go_num, rfl, HBZ, .inl rfl⟩
                                case measure => simp [intOf]; omega
                              · have hbf : bb = false := by cases bb; rfl; exact absurd rfl hbt
                                subst hbf
                                have HNE : Hid (∀ x, x < mm → f0.own.getD x ByteArray.empty ≠ x1) := by
                                  rcases HTH.out with h | h
                                  · cases h
                                  · exact h
                                have hdr : Below W1.heap.size W1 w9.drew := hb9.out.trans ((Below.refl _ w9).drew)
                                obtain ⟨bo, oo, hqo, hco⟩ := ((HFC.out.below hdr).own.lies).2.2.2 (show 0 < no by omega)
                                have hqo' : qo = some ⟨bo, oo, none⟩ := hqo
                                subst hqo'
                                have HCO : Hid (CellsAt w9.drew bo oo (encS.all f0.own)) := hco
                                have HC9 := Lib.hid (HC.out.below hdr)
                                have HML : Hid (mm < f0.own.length) := by have := HNO.out; unfold Hid; omega
                                obtain ⟨sx, hsx⟩ : ∃ s, f0.own.getD mm ByteArray.empty = s := ⟨_, rfl⟩
                                have HSX := Lib.hid hsx
                                clear hqo hco hdr hsx HTH
                                by_cases hxy : sx = x1
                                · subst hxy
                                  go_wp2_with fail
                                  apply wp_region_relT LeW.refl LeW.trans 10
                                  case hm => kernel_rfl
                                  case hB => kernel_rfl
                                  simp only [List.take_succ_cons, List.take_zero, List.drop_succ_cons, List.drop_zero]
                                  apply wpRel_cons (t := tyIs _ _)
                                  case h1 => (intro w' hl hd2; clear hl hd2; unfold relAt; go_simp; exact rel_is LeW.refl)
                                  intro _
                                  rw [tyIs_f]
                                  go_simp
                                  apply wpRel_cons (t := tyIs _ _)
                                  case h1 => (intro w' hl hd2; clear hl hd2; unfold relAt; go_simp; exact rel_is LeW.refl)
                                  intro _
                                  rw [tyIs_f]
                                  go_simp
                                  apply wpRel_cons (t := tyIs _ _)
                                  case h1 => (intro w' hl hd2; clear hl hd2; unfold relAt; go_simp; exact rel_is LeW.refl)
                                  intro _
                                  rw [tyIs_f]
                                  go_simp
                                  apply wpRel_cons (t := tyIs _ _)
                                  case h1 => (intro w' hl hd2; clear hl hd2; unfold relAt; go_simp; exact rel_is LeW.refl)
                                  intro _
                                  rw [tyIs_f]
                                  go_simp
                                  apply wpRel_cons (t := tyIs _ _)
                                  case h1 => (intro w' hl hd2; clear hl hd2; unfold relAt; go_simp; exact rel_is LeW.refl)
                                  intro _
                                  rw [tyIs_f]
                                  go_simp
                                  apply wpRel_cons (t := tyIs _ _)
                                  case h1 => (intro w' hl hd2; have c0 := sAt (HCO.out.below hl) mm HML.out; rw [HSX.out] at c0; clear hl hd2; unfold relAt; go_simp; exact rel_is LeW.refl)
                                  intro _
                                  rw [tyIs_f]
                                  go_simp
                                  apply wpRel_cons (t := tyIs _ _)
                                  case h1 => (intro w' hl hd2; clear hl hd2; unfold relAt; go_simp; exact rel_is LeW.refl)
                                  intro _
                                  rw [tyIs_f]
                                  go_simp
                                  apply wpRel_cons (t := tyIs _ _)
                                  case h1 => (intro w' hl hd2; obtain ⟨y0, y1⟩ := bd2 (HC9.out.below hl); clear hl hd2; unfold relAt; go_simp; exact rel_is LeW.refl)
                                  intro _
                                  rw [tyIs_f]
                                  go_simp
                                  apply wpRel_cons (t := tyIs _ (.bool true))
                                  case h1 => (intro w' hl hd2; clear hl hd2; unfold relAt; go_simp; first | exact rel_is LeW.refl | (simp; exact rel_is LeW.refl))
                                  intro _
                                  rw [tyIs_f]
                                  go_simp
                                  apply wpRel_cons (t := tyIs _ _)
                                  case h1 => (intro w' hl hd2; clear hl hd2; unfold relAt; go_simp; exact rel_is LeW.refl)
                                  intro _
                                  rw [tyIs_f]
                                  go_simp
                                  apply wpRel_nil (Ts := [])
                                  intro wq hl hF
                                  have HBZ := Lib.hid (hb9.out.trans ((((Below.refl _ w9).drew).trans hl).mono hb9.out.size))
                                  clear hl hF HCO HC9 HSX
                                  go_wp2_with fail
                                  go_roundw
                                  case rel => exact ⟨mm + 1, true, by omega, by go_num, rfl, HBZ, .inl rfl⟩
                                  case measure => simp [intOf]; omega
                                · have hsn : (sx.toList == x1.toList) = false := beq_eq_false_iff_ne.2 (bytes_ne hxy)
                                  have HNE2 : Hid (∀ x, x < mm + 1 → f0.own.getD x ByteArray.empty ≠ x1) := fun x hx => by
                                    rcases (show x < mm ∨ x = mm by omega) with h | rfl
                                    · exact HNE.out x h
                                    · rw [HSX.out]; exact hxy
                                  go_wp2_with fail
                                  apply wp_region_relT LeW.refl LeW.trans 10
                                  case hm => kernel_rfl
                                  case hB => kernel_rfl
                                  simp only [List.take_succ_cons, List.take_zero, List.drop_succ_cons, List.drop_zero]
                                  apply wpRel_cons (t := tyIs _ _)
                                  case h1 => (intro w' hl hd2; clear hl hd2; unfold relAt; go_simp; exact rel_is LeW.refl)
                                  intro _
                                  rw [tyIs_f]
                                  go_simp
                                  apply wpRel_cons (t := tyIs _ _)
                                  case h1 => (intro w' hl hd2; clear hl hd2; unfold relAt; go_simp; exact rel_is LeW.refl)
                                  intro _
                                  rw [tyIs_f]
                                  go_simp
                                  apply wpRel_cons (t := tyIs _ _)
                                  case h1 => (intro w' hl hd2; clear hl hd2; unfold relAt; go_simp; exact rel_is LeW.refl)
                                  intro _
                                  rw [tyIs_f]
                                  go_simp
                                  apply wpRel_cons (t := tyIs _ _)
                                  case h1 => (intro w' hl hd2; clear hl hd2; unfold relAt; go_simp; exact rel_is LeW.refl)
                                  intro _
                                  rw [tyIs_f]
                                  go_simp
                                  apply wpRel_cons (t := tyIs _ _)
                                  case h1 => (intro w' hl hd2; clear hl hd2; unfold relAt; go_simp; exact rel_is LeW.refl)
                                  intro _
                                  rw [tyIs_f]
                                  go_simp
                                  apply wpRel_cons (t := tyIs _ _)
                                  case h1 => (intro w' hl hd2; have c0 := sAt (HCO.out.below hl) mm HML.out; rw [HSX.out] at c0; clear hl hd2; unfold relAt; go_simp; exact rel_is LeW.refl)
                                  intro _
                                  rw [tyIs_f]
                                  go_simp
                                  apply wpRel_cons (t := tyIs _ _)
                                  case h1 => (intro w' hl hd2; clear hl hd2; unfold relAt; go_simp; exact rel_is LeW.refl)
                                  intro _
                                  rw [tyIs_f]
                                  go_simp
                                  apply wpRel_cons (t := tyIs _ _)
                                  case h1 => (intro w' hl hd2; obtain ⟨y0, y1⟩ := bd2 (HC9.out.below hl); clear hl hd2; unfold relAt; go_simp; exact rel_is LeW.refl)
                                  intro _
                                  rw [tyIs_f]
                                  go_simp
                                  apply wpRel_cons (t := tyIs _ (.bool false))
                                  case h1 => (intro w' hl hd2; clear hl hd2; unfold relAt; go_simp; first | exact rel_is LeW.refl | (rw [hsn]; exact rel_is LeW.refl) | (simp only [hsn]; exact rel_is LeW.refl))
                                  intro _
                                  rw [tyIs_f]
                                  go_simp
                                  apply wpRel_cons (t := tyIs _ _)
                                  case h1 => (intro w' hl hd2; clear hl hd2; unfold relAt; go_simp; exact rel_is LeW.refl)
                                  intro _
                                  rw [tyIs_f]
                                  go_simp
                                  apply wpRel_nil (Ts := [])
                                  intro wq hl hF
                                  have HBZ := Lib.hid (hb9.out.trans ((((Below.refl _ w9).drew).trans hl).mono hb9.out.size))
                                  clear hl hF HCO HC9 HSX hsn hxy
                                  go_wp2_with fail
                                  go_roundw
                                  case rel => exact ⟨mm + 1, false, by omega, by go_num, rfl, HBZ, .inr HNE2.out⟩
                                  case measure => simp [intOf]; omega
                            · obtain rfl : mm = no := by omega
                              have hbt : bb = true := by
                                rcases HTH.out with h | h
                                · exact h
                                · exfalso
                                  obtain ⟨x, hx1, hx2⟩ := List.getElem_of_mem HO0.out
                                  exact h x (by rw [HNO.out]; exact hx1) (by rw [← hx2]; simp [List.getD, List.getElem?_eq_getElem hx1])
                              subst hbt
                              have HC9 := Lib.hid ((HC.out.below hb9.out).below ((Below.refl w9.heap.size w9).drew))
                              have hz := HZ.out
                              have hsr : ∀ w, (Instr.slice 9 (.string x2) (some (.int .i64 1)) none none).run Try.prog w = .ok (.string (⟨#[58, 58]⟩ ++ x1)) w := fun w => by
                                rw [run_slice_string_l w _ _ Try.underlying9 .i64 1 (by omega) (by omega), ← HSL.out]
                                rfl
                              have hsi : (1 : Int) ≤ (x2.size : Int) := by omega
                              have hsl := HSL.out
                              have hx1 := HX1.out
                              clear hz
                              clear HTH
                              go_wp2_with fail
                              apply wp_region_relT LeW.refl LeW.trans 10
                              case hm => kernel_rfl
                              case hB => kernel_rfl
                              simp only [List.take_succ_cons, List.take_zero, List.drop_succ_cons, List.drop_zero]
                              apply wpRel_cons (t := tyIs _ _)
                              case h1 => (intro w' hl hd2; clear hl hd2; unfold relAt; go_simp; exact rel_is LeW.refl)
                              intro _
                              rw [tyIs_f]
                              go_simp
                              apply wpRel_cons (t := tyIs _ _)
                              case h1 => (intro w' hl hd2; clear hl hd2; unfold relAt; go_simp; exact rel_is LeW.refl)
                              intro _
                              rw [tyIs_f]
                              go_simp
                              apply wpRel_cons (t := tyIs _ _)
                              case h1 => (intro w' hl hd2; clear hl hd2; unfold relAt; go_simp; exact rel_is LeW.refl)
                              intro _
                              rw [tyIs_f]
                              go_simp
                              apply wpRel_cons (t := tyIs _ _)
                              case h1 => (intro w' hl hd2; clear hl hd2; unfold relAt; go_simp; exact rel_is LeW.refl)
                              intro _
                              rw [tyIs_f]
                              go_simp
                              apply wpRel_cons (t := tyIs _ _)
                              case h1 => (intro w' hl hd2; obtain ⟨y0, y1⟩ := bd2 (HC9.out.below hl); clear hl hd2; unfold relAt; go_simp; exact rel_is LeW.refl)
                              intro _
                              rw [tyIs_f]
                              go_simp
                              apply wpRel_cons (t := tyIs _ _)
                              case h1 => (intro w' hl hd2; clear hl hd2; unfold relAt; go_simp; exact rel_is LeW.refl)
                              intro _
                              rw [tyIs_f]
                              go_simp
                              apply wpRel_cons (t := tyIs _ _)
                              case h1 => (intro w' hl hd2; clear hl hd2; unfold relAt; go_simp; exact rel_is LeW.refl)
                              intro _
                              rw [tyIs_f]
                              go_simp
                              apply wpRel_cons (t := tyIs _ _)
                              case h1 => (intro w' hl hd2; obtain ⟨y0, y1⟩ := bd2 (HC9.out.below hl); clear hl hd2; unfold relAt; go_simp; exact rel_is LeW.refl)
                              intro _
                              rw [tyIs_f]
                              go_simp
                              apply wpRel_cons (t := tyIs _ _)
                              case h1 => (intro w' hl hd2; clear hl hd2; unfold relAt; go_simp; exact rel_is LeW.refl)
                              intro _
                              rw [tyIs_f]
                              go_simp
                              apply wpRel_cons (t := tyIs _ _)
                              case h1 => (intro w' hl hd2; clear hl hd2; unfold relAt; go_simp; exact rel_is LeW.refl)
                              intro _
                              rw [tyIs_f]
                              go_simp
                              apply wpRel_nil (Ts := [])
                              intro wq hl hF
                              have HBZ : Hid (Below wB.heap.size wB wq) := bnext HBX.out (hb9.out.trans ((((Below.refl _ w9).drew).trans hl).mono hb9.out.size))
                              clear hl hF HC9 hsr hsi hsl hx1
                              go_wp2_with fail
                              go_roundw
                              case rel => exact ⟨jj + 1, by omega, by go_num, HBZ⟩
                              case measure => simp [intOf]; omega
                      · obtain rfl : jj = na := by omega
                        go_wp2_with fail
                        go_roundw
                        case rel => exact ⟨ii + 1, by omega, by go_num, hbx⟩
                        case measure => simp [intOf]; omega
                  · obtain rfl : ii = 4 := by omega
                    go_wp2_with fail
                    refine (awake06_any _).mono ?_
                    rintro e w5 ⟨rfl, hb5⟩
                    have HBZ := Lib.hid (HBA.out.trans (((HBB.out.trans (hbx.out.mono HBB.out.size)).trans (hb5.mono (by have h1 := HBB.out.size; have h2 := hbx.out.size; omega))).mono HBA.out.size))
                    clear hb5
                    go_wp2_with fail
                    go_ret
                    exact ⟨rfl, HBZ.out⟩
end Go.Proofs.Ytheigpiffdabnaa.Mds
