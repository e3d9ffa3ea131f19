/-
  CONTRACT: the sanity check of the statements of modules.
-/
import Derived.Test.YtheigpiffdabnaaMdN
namespace Go.Proofs.Ytheigpiffdabnaa.Mds
open Go Go.RowKit Go.Maps
set_option linter.unusedVariables false
set_option linter.unusedSimpArgs false
set_option maxRecDepth 1000000

def awF : List Fc := [⟨⟨#[97]⟩, [⟨#[120]⟩], [⟨#[98]⟩]⟩, ⟨⟨#[98]⟩, [⟨#[121]⟩], [⟨#[97]⟩]⟩]
def awB : List Bd := [(⟨#[120]⟩, ⟨#[97, 58, 58, 120]⟩), (⟨#[121]⟩, ⟨#[98, 58, 58, 121]⟩)]
def awX : List Bd := [(⟨#[120]⟩, ⟨#[97, 58, 58, 120]⟩)]
theorem aw_own0 : ownB ⟨⟨#[97]⟩, [⟨#[120]⟩], [⟨#[98]⟩]⟩ = [(⟨#[120]⟩, ⟨#[97, 58, 58, 120]⟩)] := by decide +kernel
theorem aw_own1 : ownB ⟨⟨#[98]⟩, [⟨#[121]⟩], [⟨#[97]⟩]⟩ = [(⟨#[121]⟩, ⟨#[98, 58, 58, 121]⟩)] := by decide +kernel
theorem aw_asc : AscB awB := by
  unfold AscB awB
  refine List.Pairwise.cons (fun b hb => ?_) (List.Pairwise.cons (fun b hb => by cases hb) List.Pairwise.nil)
  rw [List.mem_singleton] at hb
  subst hb
  decide +kernel
theorem aw_giv0 : Giv awF 0 (⟨#[120]⟩, ⟨#[97, 58, 58, 120]⟩) := .own (f := ⟨⟨#[97]⟩, [⟨#[120]⟩], [⟨#[98]⟩]⟩) rfl (by rw [aw_own0]; exact List.mem_singleton.2 rfl)
theorem aw_giv1 : Giv awF 1 (⟨#[121]⟩, ⟨#[98, 58, 58, 121]⟩) := .own (f := ⟨⟨#[98]⟩, [⟨#[121]⟩], [⟨#[97]⟩]⟩) rfl (by rw [aw_own1]; exact List.mem_singleton.2 rfl)
theorem aw_giv (i : Nat) (hi : i < 2) (b : Bd) : b ∈ awB ↔ Giv awF i b := by
  refine ⟨fun h => ?_, fun h => ?_⟩
  · have h2 : b = (⟨#[120]⟩, ⟨#[97, 58, 58, 120]⟩) ∨ b = (⟨#[121]⟩, ⟨#[98, 58, 58, 121]⟩) := by simpa [awB] using h
    obtain rfl | rfl : i = 0 ∨ i = 1 := by omega
    · rcases h2 with rfl | rfl
      · exact aw_giv0
      · exact .took (m := ⟨#[98]⟩) aw_giv1 (j := 0) rfl (List.mem_singleton.2 rfl) (by decide +kernel) (by decide +kernel)
    · rcases h2 with rfl | rfl
      · exact .took (m := ⟨#[97]⟩) aw_giv0 (j := 1) rfl (List.mem_singleton.2 rfl) (by decide +kernel) (by decide +kernel)
      · exact aw_giv1
  · obtain ⟨j, f, h1, h2⟩ := h.name
    have hj : j < 2 := (List.getElem?_eq_some_iff.1 h1).1
    obtain rfl | rfl : j = 0 ∨ j = 1 := by omega
    · injection h1 with h1; subst h1
      rw [aw_own0, List.mem_singleton] at h2; subst h2; simp [awB]
    · injection h1 with h1; subst h1
      rw [aw_own1, List.mem_singleton] at h2; subst h2; simp [awB]
theorem aw_look : lookD awX ⟨#[120]⟩ = ⟨#[97, 58, 58, 120]⟩ := by decide +kernel
theorem aw_defs : (defsOf awX ⟨#[120]⟩).length = 1 := by decide +kernel
theorem aw_fit : FcsFit awF := ⟨by decide, fun f hf => by
  have h2 : f = ⟨⟨#[97]⟩, [⟨#[120]⟩], [⟨#[98]⟩]⟩ ∨ f = ⟨⟨#[98]⟩, [⟨#[121]⟩], [⟨#[97]⟩]⟩ := by simpa [awF] using hf
  rcases h2 with rfl | rfl
  · exact ⟨by decide, by decide, by decide, by decide, by decide⟩
  · exact ⟨by decide, by decide, by decide, by decide, by decide⟩⟩
theorem sl_one (w : World) (k : Nat) (hk : k = w.heap.size) (s : ByteArray) : SlIs encS (w.alloc (.cells #[.string s] strT)) (.slice (some ⟨k, 0, none⟩) 1 1) [s] := by
  subst hk
  exact ⟨_, 1, rfl, by simp, by decide, fun _ => ⟨_, 0, rfl, cellsAt_alloc w [.string s] strT⟩⟩
theorem aw_faces (w : World) : FacesAt (((((w.alloc (.cells #[.string ⟨#[120]⟩] strT)).alloc (.cells #[.string ⟨#[98]⟩] strT)).alloc (.cells #[.string ⟨#[121]⟩] strT)).alloc (.cells #[.string ⟨#[97]⟩] strT)).alloc (.cells #[.string ⟨#[97]⟩, .slice (some ⟨w.heap.size, 0, none⟩) 1 1, .slice (some ⟨w.heap.size + 1, 0, none⟩) 1 1, .string ⟨#[98]⟩, .slice (some ⟨w.heap.size + 1 + 1, 0, none⟩) 1 1, .slice (some ⟨w.heap.size + 1 + 1 + 1, 0, none⟩) 1 1] fcT)) (.slice (some ⟨w.heap.size + 1 + 1 + 1 + 1, 0, none⟩) 2 2) awF := by
  have s1 := sl_one w w.heap.size rfl ⟨#[120]⟩
  have s2 := sl_one (w.alloc (.cells #[.string ⟨#[120]⟩] strT)) (w.heap.size + 1) (by simp) ⟨#[98]⟩
  have s3 := sl_one ((w.alloc (.cells #[.string ⟨#[120]⟩] strT)).alloc (.cells #[.string ⟨#[98]⟩] strT)) (w.heap.size + 1 + 1) (by simp) ⟨#[121]⟩
  have s4 := sl_one (((w.alloc (.cells #[.string ⟨#[120]⟩] strT)).alloc (.cells #[.string ⟨#[98]⟩] strT)).alloc (.cells #[.string ⟨#[121]⟩] strT)) (w.heap.size + 1 + 1 + 1) (by simp) ⟨#[97]⟩
  have b2 := below_box (w.alloc (.cells #[.string ⟨#[120]⟩] strT)) (.cells #[.string ⟨#[98]⟩] strT)
  have b3 := below_box ((w.alloc (.cells #[.string ⟨#[120]⟩] strT)).alloc (.cells #[.string ⟨#[98]⟩] strT)) (.cells #[.string ⟨#[121]⟩] strT)
  have b4 := below_box (((w.alloc (.cells #[.string ⟨#[120]⟩] strT)).alloc (.cells #[.string ⟨#[98]⟩] strT)).alloc (.cells #[.string ⟨#[121]⟩] strT)) (.cells #[.string ⟨#[97]⟩] strT)
  have b5 := below_box ((((w.alloc (.cells #[.string ⟨#[120]⟩] strT)).alloc (.cells #[.string ⟨#[98]⟩] strT)).alloc (.cells #[.string ⟨#[121]⟩] strT)).alloc (.cells #[.string ⟨#[97]⟩] strT)) (.cells #[.string ⟨#[97]⟩, .slice (some ⟨w.heap.size, 0, none⟩) 1 1, .slice (some ⟨w.heap.size + 1, 0, none⟩) 1 1, .string ⟨#[98]⟩, .slice (some ⟨w.heap.size + 1 + 1, 0, none⟩) 1 1, .slice (some ⟨w.heap.size + 1 + 1 + 1, 0, none⟩) 1 1] fcT)
  have c5 := cellsAt_alloc ((((w.alloc (.cells #[.string ⟨#[120]⟩] strT)).alloc (.cells #[.string ⟨#[98]⟩] strT)).alloc (.cells #[.string ⟨#[121]⟩] strT)).alloc (.cells #[.string ⟨#[97]⟩] strT)) [.string ⟨#[97]⟩, .slice (some ⟨w.heap.size, 0, none⟩) 1 1, .slice (some ⟨w.heap.size + 1, 0, none⟩) 1 1, .string ⟨#[98]⟩, .slice (some ⟨w.heap.size + 1 + 1, 0, none⟩) 1 1, .slice (some ⟨w.heap.size + 1 + 1 + 1, 0, none⟩) 1 1] fcT
  have e : ((((w.alloc (.cells #[.string ⟨#[120]⟩] strT)).alloc (.cells #[.string ⟨#[98]⟩] strT)).alloc (.cells #[.string ⟨#[121]⟩] strT)).alloc (.cells #[.string ⟨#[97]⟩] strT)).heap.size = w.heap.size + 1 + 1 + 1 + 1 := by simp
  rw [e] at c5
  refine ⟨[(⟨#[97]⟩, (some ⟨w.heap.size, 0, none⟩, 1, 1), (some ⟨w.heap.size + 1, 0, none⟩, 1, 1)), (⟨#[98]⟩, (some ⟨w.heap.size + 1 + 1, 0, none⟩, 1, 1), (some ⟨w.heap.size + 1 + 1 + 1, 0, none⟩, 1, 1))], ⟨_, 2, rfl, by simp, by decide, fun _ => ⟨_, 0, rfl, c5⟩⟩, rfl, fun i f r hf hr => ?_⟩
  have hi : i < 2 := (List.getElem?_eq_some_iff.1 hf).1
  obtain rfl | rfl : i = 0 ∨ i = 1 := by omega
  · injection hf with hf; injection hr with hr; subst hf; subst hr
    exact ⟨rfl, (((s1.below b2).below b3).below b4).below b5, ((s2.below b3).below b4).below b5⟩
  · injection hf with hf; injection hr with hr; subst hf; subst hr
    exact ⟨rfl, (s3.below b4).below b5, s4.below b5⟩
def SvAt2 (w : World) (ob : Nat) (u v : Value) : Prop := w.cell? ⟨ob, 0, none⟩ = some u ∧ w.cell? ⟨ob, 1, none⟩ = some v
theorem SvAt2.below {w w' : World} {ob : Nat} {u v : Value} (h : SvAt2 w ob u v) (hb : Below w.heap.size w w') : SvAt2 w' ob u v := by
  obtain ⟨c0, c1⟩ := h
  have hbl := World.block_lt_of_cell? w _ c0
  exact ⟨by rw [hb.cell (p := ⟨ob, 0, none⟩) hbl]; exact c0, by rw [hb.cell (p := ⟨ob, 1, none⟩) hbl]; exact c1⟩

set_option maxHeartbeats 4000000 in
theorem awake06_any (w : World) : Calls Try.prog 20 #[] w fun e w' => e = .returned (.bool true) ∧ Below w.heap.size w w' := by
  have HA1 := Lib.hid (all_any _ _ _ awF _ (aw_faces w) aw_fit)
  have HB0 : Hid (Below w.heap.size w (((((w.alloc (.cells #[.string ⟨#[120]⟩] strT)).alloc (.cells #[.string ⟨#[98]⟩] strT)).alloc (.cells #[.string ⟨#[121]⟩] strT)).alloc (.cells #[.string ⟨#[97]⟩] strT)).alloc (.cells #[.string ⟨#[97]⟩, .slice (some ⟨w.heap.size, 0, none⟩) 1 1, .slice (some ⟨w.heap.size + 1, 0, none⟩) 1 1, .string ⟨#[98]⟩, .slice (some ⟨w.heap.size + 1 + 1, 0, none⟩) 1 1, .slice (some ⟨w.heap.size + 1 + 1 + 1, 0, none⟩) 1 1] fcT))) := bnext (below_box _ _) (bnext (below_box _ _) (bnext (below_box _ _) (bnext (below_box _ _) (below_box _ _))))
  go_enter Try.func20, Try.ntmps20
  go_wp2_with (first
    | (go_at_call 22; refine HA1.out.mono ?_; rintro e w1 ⟨ob, R, LL, rfl, hs1, hl1, hb1⟩
       obtain ⟨p0, a0, g0⟩ := hl1 0 (by omega)
       obtain ⟨p1, a1, g1⟩ := hl1 1 (by omega)
       have e0 : LL 0 = awB := AscB.eq a0 aw_asc fun b => by rw [g0 b, aw_giv 0 (by omega) b]
       have e1 : LL 1 = awB := AscB.eq a1 aw_asc fun b => by rw [g1 b, aw_giv 1 (by omega) b]
       rw [e0] at p0
       rw [e1] at p1
       obtain ⟨pp0, y0, ee0, hx1, hx2, hx3⟩ := p0
       obtain ⟨b0, of0, rfl, hc0⟩ := hx3 (by decide)
       obtain ⟨pp1, y1, ee1, hz1, hz2, hz3⟩ := p1
       have p0 : SlIs encBd w1 (.slice (some ⟨b0, of0, none⟩) 2 y0) awB := ⟨_, _, rfl, hx1, hx2, fun _ => ⟨b0, of0, rfl, hc0⟩⟩
       have p1 : SlIs encBd w1 (.slice pp1 2 y1) awB := ⟨_, _, rfl, hz1, hz2, hz3⟩
       have HC0 := Lib.hid hc0
       have HSV : Hid (SvAt2 w1 ob (.slice (some ⟨b0, of0, none⟩) 2 y0) (.slice pp1 2 y1)) := (by
         obtain ⟨-, -, -, hl⟩ := hs1.lies
         obtain ⟨b, off, e, hc⟩ := hl (by omega)
         injection e with e
         injection e with e1 e2 _
         subst e1
         subst e2
         have c0 := hc 0 (svV (R 0)) rfl
         have c1 := hc 1 (svV (R 1)) rfl
         rw [ee0] at c0
         rw [ee1] at c1
         exact ⟨c0, c1⟩)
       have HP0 := Lib.hid p0
       have HP1 := Lib.hid p1
       have HB1 := Lib.hid (bnext HB0.out hb1)
       have HLK := Lib.hid (lookup_any (some ⟨w1.heap.size, 0, none⟩) 1 1 awX ⟨#[120]⟩ (w1.alloc (.cells #[.string ⟨#[120]⟩, .string ⟨#[97, 58, 58, 120]⟩] bdT)) (by decide) ⟨_, 1, rfl, by decide, by decide, fun _ => ⟨_, 0, rfl, cellsAt_alloc w1 [.string ⟨#[120]⟩, .string ⟨#[97, 58, 58, 120]⟩] bdT⟩⟩ (by decide))
       have HBB := Lib.hid (below_box w1 (.cells #[.string ⟨#[120]⟩, .string ⟨#[97, 58, 58, 120]⟩] bdT))
       clear hs1 hl1 hb1 HA1 HB0 p0 p1 a0 a1 g0 g1 e0 e1 ee0 ee1 hx1 hx2 hx3 hz1 hz2 hz3 hc0)
    | (go_at_call 28; refine HLK.out.mono ?_; rintro e w2 ⟨rfl, hb2⟩; rw [aw_look, aw_defs]; have HB2 := Lib.hid (bnext HB1.out (bnext HBB.out hb2)); have HS0 := Lib.hid ((HP0.out.below HBB.out).below hb2); have HS1 := Lib.hid ((HP1.out.below HBB.out).below hb2); have HR1 := Lib.hid ((HSV.out.below HBB.out).below (hb2.trans ((Below.refl _ w2).drew))); have HC1 := Lib.hid ((HC0.out.below HBB.out).below (hb2.trans ((Below.refl _ w2).drew))); have HD0 := Lib.hid (HS0.out.below ((Below.refl _ w2).drew)); have HD1 := Lib.hid (HS1.out.below ((Below.refl _ w2).drew)); clear hb2 HLK HBB HP0 HP1 HSV HB1 HC0)
    | go_in)
  apply wp_region_relT LeW.refl LeW.trans 36
  case hm => kernel_rfl
  case hB => kernel_rfl
  simp only [List.take_succ_cons, List.take_zero, List.drop_succ_cons, List.drop_zero]
  apply wpRel_cons (t := tyIs _ _)
  case h1 => (intro w' hl hd2; clear hl hd2; unfold relAt; go_simp; exact rel_is LeW.refl)
  intro _
  rw [tyIs_f]
  go_simp
  apply wpRel_cons (t := tyIs _ _)
  case h1 => (intro w' hl hd2; clear hl hd2; unfold relAt; go_simp; exact rel_is LeW.refl)
  intro _
  rw [tyIs_f]
  go_simp
  apply wpRel_cons (t := tyIs _ _)
  case h1 => (intro w' hl hd2; clear hl hd2; unfold relAt; go_simp; exact rel_is LeW.refl)
  intro _
  rw [tyIs_f]
  go_simp
  apply wpRel_cons (t := tyIs _ _)
  case h1 => (intro w' hl hd2; clear hl hd2; unfold relAt; go_simp; exact rel_is LeW.refl)
  intro _
  rw [tyIs_f]
  go_simp
  apply wpRel_cons (t := tyIs _ _)
  case h1 => (intro w' hl hd2; clear hl hd2; unfold relAt; go_simp; exact rel_is LeW.refl)
  intro _
  rw [tyIs_f]
  go_simp
  apply wpRel_cons (t := tyIs _ _)
  case h1 => (intro w' hl hd2; clear hl hd2; unfold relAt; go_simp; exact rel_is LeW.refl)
  intro _
  rw [tyIs_f]
  go_simp
  apply wpRel_cons (t := tyIs _ _)
  case h1 => (intro w' hl hd2; have c0 := (HR1.out.below hl).1; have c1 := (HR1.out.below hl).2; clear hl hd2; unfold relAt; go_simp; exact rel_is LeW.refl)
  intro _
  rw [tyIs_f]
  go_simp
  apply wpRel_cons (t := tyIs _ _)
  case h1 => (intro w' hl hd2; clear hl hd2; unfold relAt; go_simp; exact rel_is LeW.refl)
  intro _
  rw [tyIs_f]
  go_simp
  apply wpRel_cons (t := tyIs _ _)
  case h1 => (intro w' hl hd2; clear hl hd2; unfold relAt; go_simp; exact rel_is LeW.refl)
  intro _
  rw [tyIs_f]
  go_simp
  apply wpRel_cons (t := tyIs _ _)
  case h1 => (intro w' hl hd2; clear hl hd2; unfold relAt; go_simp; exact rel_is LeW.refl)
  intro _
  rw [tyIs_f]
  go_simp
  apply wpRel_cons (t := tyIs _ _)
  case h1 => (intro w' hl hd2; clear hl hd2; unfold relAt; go_simp; exact rel_is LeW.refl)
  intro _
  rw [tyIs_f]
  go_simp
  apply wpRel_cons (t := tyIs _ _)
  case h1 => (intro w' hl hd2; clear hl hd2; unfold relAt; go_simp; exact rel_is LeW.refl)
  intro _
  rw [tyIs_f]
  go_simp
  apply wpRel_cons (t := tyIs _ _)
  case h1 => (intro w' hl hd2; clear hl hd2; unfold relAt; go_simp; exact rel_is LeW.refl)
  intro _
  rw [tyIs_f]
  go_simp
  apply wpRel_cons (t := tyIs _ _)
  case h1 => (intro w' hl hd2; have c0 := (HR1.out.below hl).1; have c1 := (HR1.out.below hl).2; clear hl hd2; unfold relAt; go_simp; exact rel_is LeW.refl)
  intro _
  rw [tyIs_f]
  go_simp
  apply wpRel_cons (t := tyIs _ _)
  case h1 => (intro w' hl hd2; clear hl hd2; unfold relAt; go_simp; exact rel_is LeW.refl)
  intro _
  rw [tyIs_f]
  go_simp
  apply wpRel_cons (t := tyIs _ _)
  case h1 => (intro w' hl hd2; obtain ⟨d0, d1⟩ := bdAt (HC1.out.below hl) 1 (by decide); simp only [Nat.one_mul] at d0 d1; have d0' : w'.cell? ⟨b0, of0 + 2, none⟩ = some (.string ⟨#[121]⟩) := d0; have d1' : w'.cell? ⟨b0, of0 + 2 + 1, none⟩ = some (.string ⟨#[98, 58, 58, 121]⟩) := d1; clear d0 d1; clear hl hd2; unfold relAt; go_simp; exact rel_is LeW.refl)
  intro _
  rw [tyIs_f]
  go_simp
  apply wpRel_cons (t := tyIs _ _)
  case h1 => (intro w' hl hd2; clear hl hd2; unfold relAt; go_simp; exact rel_is LeW.refl)
  intro _
  rw [tyIs_f]
  go_simp
  apply wpRel_cons (t := tyIs _ (.bool true))
  case h1 => (intro w' hl hd2; have e1 : (⟨#[121]⟩ : ByteArray).toList = [121] := (by rw [ByteArray.toList_eq]); have e2 : (⟨#[98, 58, 58, 121]⟩ : ByteArray).toList = [98, 58, 58, 121] := (by rw [ByteArray.toList_eq]); clear hl hd2; unfold relAt; go_simp; first | exact rel_is LeW.refl | (simp only [e1, e2]; exact rel_is LeW.refl))
  intro _
  rw [tyIs_f]
  go_simp
  apply wpRel_cons (t := tyIs _ _)
  case h1 => (intro w' hl hd2; clear hl hd2; unfold relAt; go_simp; exact rel_is LeW.refl)
  intro _
  rw [tyIs_f]
  go_simp
  apply wpRel_cons (t := tyIs _ _)
  case h1 => (intro w' hl hd2; clear hl hd2; unfold relAt; go_simp; exact rel_is LeW.refl)
  intro _
  rw [tyIs_f]
  go_simp
  apply wpRel_cons (t := tyIs _ _)
  case h1 => (intro w' hl hd2; clear hl hd2; unfold relAt; go_simp; exact rel_is LeW.refl)
  intro _
  rw [tyIs_f]
  go_simp
  apply wpRel_cons (t := tyIs _ _)
  case h1 => (intro w' hl hd2; clear hl hd2; unfold relAt; go_simp; exact rel_is LeW.refl)
  intro _
  rw [tyIs_f]
  go_simp
  apply wpRel_cons (t := tyIs _ _)
  case h1 => (intro w' hl hd2; have c0 := (HR1.out.below hl).1; have c1 := (HR1.out.below hl).2; clear hl hd2; unfold relAt; go_simp; exact rel_is LeW.refl)
  intro _
  rw [tyIs_f]
  go_simp
  apply wpRel_cons (t := tyIs _ _)
  case h1 => (intro w' hl hd2; clear hl hd2; unfold relAt; go_simp; exact rel_is LeW.refl)
  intro _
  rw [tyIs_f]
  go_simp
  apply wpRel_cons (t := tyIs _ _)
  case h1 => (intro w' hl hd2; clear hl hd2; unfold relAt; go_simp; exact rel_is LeW.refl)
  intro _
  rw [tyIs_f]
  go_simp
  apply wpRel_cons (t := tyIs _ _)
  case h1 => (intro w' hl hd2; have c0 := (HR1.out.below hl).1; have c1 := (HR1.out.below hl).2; clear hl hd2; unfold relAt; go_simp; exact rel_is LeW.refl)
  intro _
  rw [tyIs_f]
  go_simp
  apply wpRel_cons (t := tyIs _ (.bool true))
  case h1 => (intro w' hl hd2; have S0 := HD0.out.below hl; have S1 := HD1.out.below hl; clear hl hd2; unfold relAt; go_simp; refine ⟨LeW.refl _, ?_⟩; refine (sameB_eq _ _ _ _ _ _ awB _ (by decide) S0 S1).mono ?_; rintro e w'' ⟨rfl, hb''⟩; exact ⟨(), rfl, hb'', trivial⟩)
  intro _
  rw [tyIs_f]
  go_simp
  apply wpRel_cons (t := tyIs _ _)
  case h1 => (intro w' hl hd2; clear hl hd2; unfold relAt; go_simp; exact rel_is LeW.refl)
  intro _
  rw [tyIs_f]
  go_simp
  apply wpRel_cons (t := tyIs _ _)
  case h1 => (intro w' hl hd2; clear hl hd2; unfold relAt; go_simp; exact rel_is LeW.refl)
  intro _
  rw [tyIs_f]
  go_simp
  apply wpRel_cons (t := tyIs _ _)
  case h1 => (intro w' hl hd2; clear hl hd2; unfold relAt; go_simp; exact rel_is LeW.refl)
  intro _
  rw [tyIs_f]
  go_simp
  apply wpRel_cons (t := tyIs _ _)
  case h1 => (intro w' hl hd2; clear hl hd2; unfold relAt; go_simp; exact rel_is LeW.refl)
  intro _
  rw [tyIs_f]
  go_simp
  apply wpRel_cons (t := tyIs _ _)
  case h1 => (intro w' hl hd2; clear hl hd2; unfold relAt; go_simp; exact rel_is LeW.refl)
  intro _
  rw [tyIs_f]
  go_simp
  apply wpRel_cons (t := tyIs _ _)
  case h1 => (intro w' hl hd2; clear hl hd2; unfold relAt; go_simp; exact rel_is LeW.refl)
  intro _
  rw [tyIs_f]
  go_simp
  apply wpRel_cons (t := tyIs _ _)
  case h1 => (intro w' hl hd2; clear hl hd2; unfold relAt; go_simp; exact rel_is LeW.refl)
  intro _
  rw [tyIs_f]
  go_simp
  apply wpRel_cons (t := tyIs _ _)
  case h1 => (intro w' hl hd2; clear hl hd2; unfold relAt; go_simp; exact rel_is LeW.refl)
  intro _
  rw [tyIs_f]
  go_simp
  apply wpRel_cons (t := tyIs _ _)
  case h1 => (intro w' hl hd2; clear hl hd2; unfold relAt; go_simp; exact rel_is LeW.refl)
  intro _
  rw [tyIs_f]
  go_simp
  apply wpRel_nil (Ts := [])
  intro w9 hl hF
  have HB3 := Lib.hid (HB2.out.trans ((((Below.refl _ w2).drew).trans hl).mono HB2.out.size))
  clear hl hF HR1 HC1 HD0 HD1 HS0 HS1 HB2
  go_wp2_with fail
  go_ret
  exact ⟨rfl, HB3.out⟩
end Go.Proofs.Ytheigpiffdabnaa.Mds
