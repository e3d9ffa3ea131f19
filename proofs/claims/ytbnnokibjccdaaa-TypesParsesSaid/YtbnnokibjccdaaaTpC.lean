/-
  CONTRACT: types.clone: a type in new memory.
-/
import Derived.Test.YtbnnokibjccdaaaTpE
import Derived.Test.YtbnnokibjccdaaaTpC0
import Derived.Deep.RegionWith
namespace Go.Proofs.Ytbnnokibjccdaaa
open Go Go.RowKit
set_option linter.unusedVariables false
set_option linter.unusedSimpArgs false

/-- a list is no longer than it has nodes -/
theorem length_le_sizes (l : List Tp) : l.length ≤ (l.map sizeP).sum := by
  induction l with
  | nil => simp
  | cons t l ih =>
    cases t with
    | mk s m => simp only [List.map_cons, List.sum_cons, List.length_cons, sizeP_mk]; omega
def CloneC (A : Nat → Prop) (t : Tp) : Prop := ∀ (q : Rw) (w : World), IsP A w q t → sizeP t ≤ 1000000000 →
  Calls Try.prog 64 #[.agg #[.string q.name, .slice q.p q.n q.cap]] w fun e w' => ∃ q' : Rw, e = .returned (.agg #[.string q'.name, .slice q'.p q'.n q'.cap]) ∧ IsP (fun k => w.heap.size ≤ k) w' q' t ∧ Below w.heap.size w w'
/-- the result lies in new memory behind the store, too -/
theorem store_fin {w W w5 : World} {B : Nat} {v : Value} {l : List Tp} (h0 : Below w.heap.size w W) (hB : w.heap.size ≤ B) (hW : B < W.heap.size) (h5 : IsPs (fun k => W.heap.size ≤ k) w5 v l) (hb : Below W.heap.size W w5) (x y : Value) :
    IsPs (fun k => w.heap.size ≤ k) ((w5.setCell ⟨B, 0, none⟩ x).setCell ⟨B, 1, none⟩ y) v l ∧ Below w.heap.size w ((w5.setCell ⟨B, 0, none⟩ x).setCell ⟨B, 1, none⟩ y) := by
  have key : ∀ (W : World) (k : Nat) (v : Value), But (fun a => a.block = B) W (W.setCell ⟨B, k, none⟩ v) := fun W k v => But.setCell W _ v rfl
  have hbut : But (fun a => a.block = B) w5 ((w5.setCell ⟨B, 0, none⟩ x).setCell ⟨B, 1, none⟩ y) := (key _ _ _).trans (key _ _ _)
  have h1 := h0.size
  have h2 := bnext h0 hb
  exact ⟨(h5.but hbut (fun a e k => by have e' : a.block = B := e; omega)).mono (fun k hk => by omega), h2.trans (But.below hbut h2.size (fun a e => by have e' : a.block = B := e; omega))⟩
set_option maxHeartbeats 4000000 in
set_option maxRecDepth 100000 in
theorem clone_step {A : Nat → Prop} (s : ByteArray) (l : List Tp) (hS : ∀ j (a : j < l.length), CloneC A l[j]) : CloneC A (.mk s l) := by
  intro q w h hz
  rw [sizeP_mk] at hz
  obtain ⟨e1, g⟩ := h.parts
  obtain ⟨s1, p, n, c⟩ := q
  have e1' : s1 = s := e1
  subst e1'
  have g' : IsPs A w (.slice p n c) l := g
  obtain ⟨z1, hm, -⟩ := g'.at_
  subst z1
  unfold maxLen at hm
  have hb := below_box w (.cells #[.string s1, .slice p l.length c] 24)
  have hb2 := (bnext hb (below_box _ (.cells #[.string ⟨#[]⟩, .slice none 0 0] 24))).drew
  have HX := Lib.hid ((box_p w ⟨s1, p, l.length, c⟩ 24).below (below_box _ (.cells #[.string ⟨#[]⟩, .slice none 0 0] 24)).drew)
  obtain ⟨x0, x1⟩ := HX.out
  simp only [Nat.zero_add] at x0 x1
  have hz5 : ((w.alloc (.cells #[.string s1, .slice p l.length c] 24)).alloc (.cells #[.string ⟨#[]⟩, .slice none 0 0] 24)).drew.heap[w.heap.size + 1]? = some (.cells #[.string ⟨#[]⟩, .slice none 0 0] 24 (0, 0)) := by
    have h := heap_alloc_new (w.alloc (.cells #[.string s1, .slice p l.length c] 24)) (.cells #[.string ⟨#[]⟩, .slice none 0 0] 24)
    rw [World.size_alloc] at h
    exact h
  have hsz : w.heap.size + 1 < ((w.alloc (.cells #[.string s1, .slice p l.length c] 24)).alloc (.cells #[.string ⟨#[]⟩, .slice none 0 0] 24)).drew.heap.size := by
    show _ < ((w.alloc _).alloc _).heap.size
    rw [World.size_alloc, World.size_alloc]
    omega
  have HZ5 := Lib.hid (fun (w5 : World) (hb : Below ((w.alloc (.cells #[.string s1, .slice p l.length c] 24)).alloc (.cells #[.string ⟨#[]⟩, .slice none 0 0] 24)).drew.heap.size ((w.alloc (.cells #[.string s1, .slice p l.length c] 24)).alloc (.cells #[.string ⟨#[]⟩, .slice none 0 0] 24)).drew w5) => (hb.block _ hsz).trans hz5)
  have HB2 := Lib.hid hb2
  have HSZ := Lib.hid hsz
  have hlen := length_le_sizes l
  have HC := Lib.hid (each_any (A := A) 64 #[] (fun t => t) l p l.length c _ (g'.later hb2) (by omega) (fun _ _ => rfl) (fun j hj q1 w1 _ hq => hS j hj q1 w1 hq (by have := sizeP_at hj; omega)))
  clear h g g' e1 hb hb2 hS hz hlen hz5 hsz
  go_enter Try.func64, Try.ntmps64
  go_wp2_with fail
  go_region_with (go_at_call 65; refine HC.out.mono ?_; rintro e w5 ⟨p', c', rfl, h5, hb5⟩; obtain ⟨z0, z1, f0, f1, r0, r1⟩ := box_facts (HZ5.out w5 hb5) s1 p' l.length c'; obtain ⟨X0, X1⟩ := HX.out.below hb5; simp only [Nat.zero_add] at X0 X1; have H5 := Lib.hid h5; have HB5 := Lib.hid hb5; clear h5 hb5)
  all_goals
    go_wp2_with fail
    have hcell := box_store (HZ5.out w5 HB5.out) s1 p' l.length c'
    obtain ⟨g1, g2⟩ := store_fin (B := w.heap.size + 1) HB2.out (Nat.le_succ _) HSZ.out H5.out HB5.out (.string s1) (.slice p' l.length c')
    rw [List.map_id'] at g1
    exact bodyPost_ret (results_cellP rfl _ _ _ ⟨w.heap.size + 1, 0, none⟩ _ rfl (load_tp _ _ _ _ _ _ hcell)) rfl ⟨⟨s1, p', l.length, c'⟩, rfl, IsP.node s1 g1, g2⟩
theorem cloneN_any {A : Nat → Prop} : ∀ (N : Nat) (t : Tp), SizeOf.sizeOf t < N → CloneC A t
  | 0, t, hN => absurd hN (by omega)
  | N + 1, .mk s l, hN => clone_step s l fun j a => cloneN_any N l[j] (by
      have h3 := List.sizeOf_lt_of_mem (List.getElem_mem a)
      simp only [Tp.mk.sizeOf_spec] at hN
      omega)
theorem clone_any {A : Nat → Prop} (t : Tp) : CloneC A t := cloneN_any _ t (Nat.lt_succ_self _)
end Go.Proofs.Ytbnnokibjccdaaa
