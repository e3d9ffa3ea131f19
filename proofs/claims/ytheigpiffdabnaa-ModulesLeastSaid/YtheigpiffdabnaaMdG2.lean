/-
  LAWS: the kinds of a region that throws and appends, where each string thrown is known to be one of some.
-/
import Derived.Test.YtheigpiffdabnaaMdH
namespace Go.Proofs.Ytheigpiffdabnaa.Mds
open Go Go.RowKit Go.Maps
set_option linter.unusedVariables false
set_option linter.unusedSimpArgs false
set_option maxRecDepth 1000000

/-- strings in a row, each with N -/
def ShortsM (N : ByteArray → Prop) (w : World) (p : Option Addr) (m : Nat) : Prop :=
  ∀ i, i < m → ∃ b o, ∃ s : ByteArray, p = some ⟨b, o, none⟩ ∧ w.cell? ⟨b, o + i, none⟩ = some (.string s) ∧ N s
theorem ShortsM.thrown {N : ByteArray → Prop} {d : Dice} {w w' : World} {p : Option Addr} {n : Nat} (h : ShortsM N w p n) (ht : Thrown d w w') (hp : ∀ b o, p = some ⟨b, o, none⟩ → b ≠ d.D) : ShortsM N w' p n := by
  intro i hi
  obtain ⟨b, o, s, e, hc, hs⟩ := h i hi
  exact ⟨b, o, s, e, ht.but.keep hc (fun q => by unfold isAt at q; injection q with q1 _ _; exact hp b o e q1), hs⟩
theorem ofM_any (d : Dice) (N : ByteArray → Prop) (m cap b o : Nat) (w : World) (hd : DiceAt d w) (h1 : 1 ≤ m) (h2 : m ≤ 1000000) (hs : ShortsM N w (some ⟨b, o, none⟩) m) (hb : b ≠ d.D) :
    Calls Try.prog 15 #[.pointer (some ⟨d.D, 0, none⟩), .slice (some ⟨b, o, none⟩) m cap] w fun e w' => ∃ s : ByteArray, N s ∧ e = .returned (.string s) ∧ Thrown d w w' := by
  have HD := Lib.hid hd
  have HS := Lib.hid hs
  clear hd hs
  go_enter Try.func15, Try.ntmps15
  go_wp2_with (go_at_call 12; refine (next_any d m _ HD.out h1 h2).mono ?_; rintro e w1 ⟨k, hk, rfl, ht, -⟩; obtain ⟨b', o', s, hp, hc, hn⟩ := (HS.out.thrown ht (fun x y e => by injection e with e; injection e with e _ _; omega)) k hk; injection hp with hp; injection hp with hp1 hp2 _; subst hp1; subst hp2; have HT := Lib.hid ht; have HN := Lib.hid hn; clear ht hn)
  go_ret
  exact ⟨s, HN.out, rfl, HT.out⟩
/-- a slice of strings that has been laid -/
def tvShM (d : Dice) (row : Option Nat) (N : ByteArray → Prop) (m : Nat) : TyV := ⟨{b : Nat // True}, ⟨⟨0, trivial⟩⟩, fun b => .slice (some ⟨b.1, 0, none⟩) m m, fun b w => ShortsM N w (some ⟨b.1, 0, none⟩) m ∧ some b.1 ≠ row ∧ b.1 < w.heap.size ∧ b.1 ≠ d.D⟩
theorem shortsM_same {N : ByteArray → Prop} {m b : Nat} {w w' : World} (h : ShortsM N w (some ⟨b, 0, none⟩) m) (e : w'.heap[b]? = w.heap[b]?) : ShortsM N w' (some ⟨b, 0, none⟩) m := by
  intro i hi
  obtain ⟨b', o, s, hp, hc, hn⟩ := h i hi
  injection hp with hp; injection hp with h1 h2 _
  subst h1; subst h2
  exact ⟨_, _, s, rfl, by rw [World.cell?_of_block (w := w) e]; exact hc, hn⟩
theorem tvShM_good (d : Dice) (row : Option Nat) (N : ByteArray → Prop) (m c k : Nat) : Good (AD d) (fun x y => x.grownBy y row) c k (tvShM d row N m) :=
  ⟨fun b w w' hl h => ⟨shortsM_same h.1 (hl.block b.1 h.2.2.1 h.2.2.2), h.2.1, Nat.lt_of_lt_of_le h.2.2.1 hl.size, h.2.2.2⟩, fun _ b w w' hl h => ⟨shortsM_same h.1 (hl.block b.1 h.2.2.1 h.2.1), h.2.1, Nat.lt_of_lt_of_le h.2.2.1 hl.size, h.2.2.2⟩⟩
theorem tvShM_f (d : Dice) (row : Option Nat) (N : ByteArray → Prop) (m b : Nat) (h : True) : (tvShM d row N m).f ⟨b, h⟩ = .slice (some ⟨b, 0, none⟩) m m := rfl
theorem shortsM_lit (N : ByteArray → Prop) (w : World) (l : List ByteArray) (h : ∀ s ∈ l, N s) (T : TypeId) : ShortsM N (w.alloc (.cells (l.map Value.string).toArray T)) (some ⟨w.heap.size, 0, none⟩) l.length := by
  intro i hi
  refine ⟨w.heap.size, 0, l[i], rfl, ?_, h _ (List.getElem_mem hi)⟩
  have := cellsAt_alloc w (l.map Value.string) T i (.string l[i]) (by simp [hi])
  exact this
theorem tvShM_mk {d : Dice} {row : Option Nat} {N : ByteArray → Prop} {c k m : Nat} {l : List ByteArray} {cs : Array Value} {w : World} {P : Program} {Pn : Ending → World → Prop} {T : TypeId} (hl : ∀ s ∈ l, N s) (hm : l.length = m) (hcs : (l.map Value.string).toArray = cs) (hlow : DcLow d w.heap.size) (hr : ∀ j, row = some j → j < w.heap.size) (h : k ≠ c) :
    oneUpon P (sel (AD d) (fun x y => x.grownBy y row) c k) Pn (tvShM d row N m) w (.ok (.value (.slice (some ⟨w.heap.size, 0, none⟩) m m)) (w.alloc (.cells cs T))) := by
  subst hm
  subst hcs
  refine ⟨?_, ⟨w.heap.size, trivial⟩, rfl, shortsM_lit N w l hl T, fun e => ?_, by simp, fun e => ?_⟩
  · unfold sel; rw [if_neg h]; exact Dr.of_below (below_box w _) hlow
  · have := hr _ e.symm; simp only at this; omega
  · have := hlow.1; simp only at e; omega
/-- a string that was drawn -/
def tvStrM (N : ByteArray → Prop) (e0 : ByteArray) (he : N e0) : TyV := ⟨{s : ByteArray // N s}, ⟨⟨e0, he⟩⟩, fun s => .string s.1, fun _ _ => True⟩
theorem tvStrM_good (d : Dice) (C : World → World → Prop) (N : ByteArray → Prop) (e0 : ByteArray) (he : N e0) (c k : Nat) : Good (AD d) C c k (tvStrM N e0 he) := ⟨fun _ _ _ _ h => h, fun _ _ _ _ _ h => h⟩
theorem tvStrM_f (N : ByteArray → Prop) (e0 : ByteArray) (he : N e0) (s : ByteArray) (h : N s) : (tvStrM N e0 he).f ⟨s, h⟩ = .string s := rfl
/-- one string in a slice that was just laid -/
def tvOneM (d : Dice) (row : Option Nat) (N : ByteArray → Prop) (e0 : ByteArray) (he : N e0) : TyV := ⟨{b : Nat × ByteArray // N b.2}, ⟨⟨(0, e0), he⟩⟩, fun b => .slice (some ⟨b.1.1, 0, none⟩) 1 1, fun b w => CellsAt w b.1.1 0 [.string b.1.2] ∧ some b.1.1 ≠ row ∧ b.1.1 < w.heap.size ∧ b.1.1 ≠ d.D⟩
theorem tvOneM_good (d : Dice) (row : Option Nat) (N : ByteArray → Prop) (e0 : ByteArray) (he : N e0) (c k : Nat) : Good (AD d) (fun x y => x.grownBy y row) c k (tvOneM d row N e0 he) :=
  ⟨fun b w w' hl h => ⟨cells_same h.1 (hl.block b.1.1 h.2.2.1 h.2.2.2), h.2.1, Nat.lt_of_lt_of_le h.2.2.1 hl.size, h.2.2.2⟩, fun _ b w w' hl h => ⟨cells_same h.1 (hl.block b.1.1 h.2.2.1 h.2.1), h.2.1, Nat.lt_of_lt_of_le h.2.2.1 hl.size, h.2.2.2⟩⟩
theorem tvOneM_f (d : Dice) (row : Option Nat) (N : ByteArray → Prop) (e0 : ByteArray) (he : N e0) (b : Nat) (s : ByteArray) (h : N s) : (tvOneM d row N e0 he).f ⟨(b, s), h⟩ = .slice (some ⟨b, 0, none⟩) 1 1 := rfl
theorem tvOneM_mk {d : Dice} {row : Option Nat} {N : ByteArray → Prop} {e0 : ByteArray} {he : N e0} {s : ByteArray} {w : World} {c k : Nat} {P : Program} {Pn : Ending → World → Prop} (hs : N s) (hlow : DcLow d w.heap.size) (hr : ∀ j, row = some j → j < w.heap.size) (h : k ≠ c) :
    oneUpon P (sel (AD d) (fun x y => x.grownBy y row) c k) Pn (tvOneM d row N e0 he) w (.ok (.value (.slice (some ⟨w.heap.size, 0, none⟩) 1 1)) (w.alloc (.cells #[.string s] strT))) := by
  refine ⟨?_, ⟨(w.heap.size, s), hs⟩, rfl, cellsAt_alloc w [.string s] strT, fun e => ?_, by simp, fun e => ?_⟩
  · unfold sel; rw [if_neg h]; exact Dr.of_below (below_box w _) hlow
  · have := hr _ e.symm; simp only at this; omega
  · have := hlow.1; simp only at e; omega
/-- the list with one more -/
def tvAppM (row : Option Nat) (B base : Nat) (zs : List ByteArray) (N : ByteArray → Prop) (e0 : ByteArray) (he : N e0) : TyV := ⟨{v : Value × ByteArray // N v.2}, ⟨⟨(undef, e0), he⟩⟩, fun v => v.1.1, fun v w => OwnL encS strT w base v.1.1 (zs ++ [v.1.2]) ∧ (v.1.1.ownBlock = row ∨ ∃ k, v.1.1.ownBlock = some k ∧ B ≤ k)⟩
theorem tvAppM_good (d : Dice) (row : Option Nat) (B base : Nat) (zs : List ByteArray) (N : ByteArray → Prop) (e0 : ByteArray) (he : N e0) (c : Nat) (hD : d.D < base) : Good (AD d) (fun x y => x.grownBy y row) c c (tvAppM row B base zs N e0 he) :=
  ⟨fun v w w' hl h => ⟨own_dr h.1 hl hD (Nat.le_refl _), h.2⟩, fun hk => absurd rfl hk⟩
theorem tvAppM_f (row : Option Nat) (B base : Nat) (zs : List ByteArray) (N : ByteArray → Prop) (e0 : ByteArray) (he : N e0) (v : Value) (s : ByteArray) (h : N s) : (tvAppM row B base zs N e0 he).f ⟨(v, s), h⟩ = v := rfl
theorem tvAppM_mk {d : Dice} {row : Option Nat} {B base c sb : Nat} {N : ByteArray → Prop} {e0 : ByteArray} {he : N e0} {zs : List ByteArray} {s : ByteArray} {v : Value} {w : World} {Pn : Ending → World → Prop} (hv : OwnL encS strT w base v zs) (hrow : row = v.ownBlock) (hx : CellsAt w sb 0 [.string s]) (hs : N s) (hl : zs.length ≤ 100000) (hb : base ≤ w.heap.size) (hB : B ≤ w.heap.size) (ty : TypeId) :
    ∃ v' w', (Builtin.append_ #[54, 54] ty #[v, .slice (some ⟨sb, 0, none⟩) 1 1]).run Try.prog w = .ok v' w' ∧ oneUpon Try.prog (sel (AD d) (fun x y => x.grownBy y row) c c) Pn (tvAppM row B base zs N e0 he) w (.ok (.value v') w') := by
  obtain ⟨i0, hi0, hz0, hz1, hz2⟩ := info_parts infoS
  obtain ⟨v', w', hr, h2, h3, _, h5⟩ := run_append_own_at (P := Try.prog) w base 54 ty strT i0 (.string ⟨#[]⟩) 1 16 Try.underlying54 hi0 hz0 hz1 hz2 rfl (by decide) v zs.length (encS.all zs) hv ⟨sb, 0, none⟩ 1 1 [.string s] rfl (fun j u hj => by rw [add_lit]; exact hx j u hj) (fun u hu => by simp at hu; subst hu; rfl) (by unfold maxLen; omega) (by omega) hb
  refine ⟨v', w', hr, ?_, ⟨(v', s), hs⟩, rfl, ?_, ?_⟩
  · unfold sel; rw [if_pos rfl, hrow]; exact h3
  · show OwnL encS strT w' base v' (zs ++ [s])
    unfold OwnL
    rw [List.length_append, encS.all_append]; exact h2
  · rcases h5 with e | e
    · exact .inl (by rw [hrow]; exact e)
    · exact .inr ⟨_, e, hB⟩
end Go.Proofs.Ytheigpiffdabnaa.Mds
