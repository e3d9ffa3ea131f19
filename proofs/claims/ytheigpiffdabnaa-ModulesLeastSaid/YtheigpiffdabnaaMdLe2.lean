/-
  CONTRACT: modules.Step of a face and of what the faces that it re-exports give, for ModulesLeast.
-/
import Derived.Test.YtheigpiffdabnaaMdZ
import Derived.Test.YtheigpiffdabnaaMdLeP
import Derived.Test.YtheigpiffdabnaaMdQ
namespace Go.Proofs.Ytheigpiffdabnaa.Mds
open Go Go.RowKit Go.Maps
set_option linter.unusedVariables false
set_option linter.unusedSimpArgs false
set_option maxRecDepth 1000000

theorem AscB.nodup {l : List Bd} (h : AscB l) : l.Nodup := by
  refine List.Pairwise.imp (fun {a b} hab e => ?_) h
  subst e
  have h1 := bcmp_neg a a
  omega
theorem sumB_le {LL : List (List Bd)} {k : Nat} (h : ∀ l ∈ LL, l.length ≤ k) : sumB LL ≤ LL.length * k := by
  induction LL with
  | nil => exact Nat.zero_le _
  | cons x LL ih =>
    have e2 : sumB (x :: LL) = x.length + sumB LL := by unfold sumB; simp
    have h1 := h x List.mem_cons_self
    have h2 := ih (fun l hl => h l (List.mem_cons_of_mem _ hl))
    rw [e2, List.length_cons, Nat.succ_mul]
    omega
/-- what the faces give, one list each -/
def GivA (l : List Fc) (LA : Nat → List Bd) : Prop := ∀ i, i < l.length → AscB (LA i) ∧ ∀ b, b ∈ LA i ↔ Giv l i b
theorem GivA.len {l : List Fc} {LA : Nat → List Bd} (h : GivA l LA) (hf : FcsFit l) {i : Nat} (hi : i < l.length) : (LA i).length ≤ 10000 := by
  obtain ⟨h1, h2⟩ := h i hi
  have h3 := List.Nodup.length_le_of_subset h1.nodup (fun b hb => ((h2 b).1 hb).univ)
  have h4 := univ_len l (fun f hf' => (hf.2 f hf').owns)
  have h5 := hf.1
  omega
/-- a solution: Step of face i, its names and the lists of those that it re-exports gives list i -/
theorem step_sol {l : List Fc} {LA : Nat → List Bd} {RA : Nat → Sv} {i : Nat} {f : Fc} {po : Option Addr} {no co : Nat} {p2 : Option Addr} {c2 : Nat} {PS : List Sv} {W : World} (hp : f.pub.length ≤ 10) (hfit : FcsFit l) (hG : GivA l LA) (hi : i < l.length) (hf : l[i]? = some f) (ix : ByteArray → Nat) (hix : ∀ m ∈ f.pub, firstI l m = some (ix m))
    (hs : SlIs encS W (.slice po no co) f.own) (h2 : SlIs encSv W (.slice p2 f.pub.length c2) PS) (hPS : ∀ (x : Nat) (m : ByteArray), f.pub[x]? = some m → PS[x]? = some (RA (ix m))) (hLA : ∀ k, k < l.length → SlIs encBd W (svV (RA k)) (LA k)) :
    Calls Try.prog 25 #[.string f.mo, .slice po no co, .slice p2 f.pub.length c2] W fun e w' => ∃ q n c, e = .returned (.slice q n c) ∧ SlIs encBd w' (.slice q n c) (LA i) ∧ Below W.heap.size W w' := by
  have hfm := hfit.2 f (List.mem_of_getElem? hf)
  have hixl : ∀ m ∈ f.pub, ix m < l.length := fun m hm => firstI_lt (hix m hm)
  have hPL : PS.length = f.pub.length := (h2.lies).1.symm
  have hmem : ∀ l' ∈ f.pub.map (fun m => LA (ix m)), l'.length ≤ 10000 ∧ ∀ x ∈ l', x.1.size ≤ maxLen ∧ x.2.size ≤ maxLen := fun l' h => by
    obtain ⟨m, hm, rfl⟩ := List.mem_map.1 h
    exact ⟨hG.len hfit (hixl m hm), fun x hx => univ_fit hfit x ((((hG _ (hixl m hm)).2 x).1 hx).univ)⟩
  have hpubs : f.pub.length ≤ 100 := hfm.pubs
  refine (step_any f.mo po no co f.own p2 f.pub.length c2 PS (f.pub.map fun m => LA (ix m)) W hfm.mo (by have := hfm.owns; omega) hs hfm.own h2 (by rw [List.length_map]; exact hPL) (fun x r l' hr hl => ?_) (fun l' h => (hmem l' h).2) ?_ (by omega)).mono ?_
  · rw [List.getElem?_map] at hl
    cases hm : f.pub[x]? with
    | none => rw [hm] at hl; cases hl
    | some m =>
      rw [hm] at hl
      injection hl with hl
      subst hl
      rw [hPS x m hm] at hr
      injection hr with hr
      subst hr
      exact hLA _ (hixl m (List.mem_of_getElem? hm))
  · have h1 := sumB_le (fun l' h => (hmem l' h).1)
    rw [List.length_map] at h1
    omega
  · rintro e w' ⟨v, l', rfl, h3, h4, h5, h6⟩
    have he : l' = LA i := AscB.eq h3 (hG i hi).1 fun b => by
      rw [h4 b, (hG i hi).2 b, giv_step hf b]
      refine or_congr Iff.rfl (and_congr_left fun _ => ⟨?_, ?_⟩)
      · rintro ⟨l2, hl2, hb⟩
        obtain ⟨m, hm, rfl⟩ := List.mem_map.1 hl2
        exact ⟨m, hm, _, hix m hm, ((hG _ (hixl m hm)).2 b).1 hb⟩
      · rintro ⟨m, hm, k, hk, hg⟩
        rw [hix m hm] at hk
        injection hk with hk
        subst hk
        exact ⟨_, List.mem_map.2 ⟨m, hm, rfl⟩, ((hG _ (hixl m hm)).2 b).2 hg⟩
    subst he
    obtain ⟨q, c, rfl, hr⟩ := h5
    exact ⟨q, _, c, rfl, ⟨q, c, rfl, hr⟩, h6⟩
end Go.Proofs.Ytheigpiffdabnaa.Mds
