/-
  LAWS: what dice leave, with rows that grow: for the faces that statements make.
-/
import Derived.Test.YtheigpiffdabnaaMdQ
import Derived.Test.YtheigpiffdabnaaDice
import Derived.Test.YtheigpiffdabnaaOne
namespace Go.Proofs.Ytheigpiffdabnaa.Mds
open Go Go.RowKit Go.Maps
set_option linter.unusedVariables false
set_option linter.unusedSimpArgs false
set_option maxRecDepth 1000000

abbrev strT : TypeId := 9
/-- below B nothing has changed but the dice's count -/
structure Dr (d : Dice) (B : Nat) (w w' : World) : Prop where
  os : w'.os = w.os
  tape : w'.tape = w.tape
  output : w'.output = w.output
  size : w.heap.size ≤ w'.heap.size
  block : ∀ k, k < B → k ≠ d.D → w'.heap[k]? = w.heap[k]?
  die : ∀ a : Addr, a.block = d.D → ¬ isAt d.D a → w'.cell? a = w.cell? a
  cold : ∀ a : Addr, a.block = d.D → w'.frozen? a = w.frozen? a
  good : DiceAt d w → DiceAt d w'
  le : DiceAt d w → atOf d.D w ≤ atOf d.D w'
theorem Dr.refl (d : Dice) (B : Nat) (w : World) : Dr d B w w := ⟨rfl, rfl, rfl, Nat.le_refl _, fun _ _ _ => rfl, fun _ _ _ => rfl, fun _ _ => rfl, id, fun _ => Nat.le_refl _⟩
theorem Dr.trans {d : Dice} {B : Nat} {a b c : World} (h : Dr d B a b) (k : Dr d B b c) : Dr d B a c :=
  ⟨k.os.trans h.os, k.tape.trans h.tape, k.output.trans h.output, Nat.le_trans h.size k.size, fun x hx hn => (k.block x hx hn).trans (h.block x hx hn), fun x hx hn => (k.die x hx hn).trans (h.die x hx hn), fun x hx => (k.cold x hx).trans (h.cold x hx), fun q => k.good (h.good q), fun q => Nat.le_trans (h.le q) (k.le (h.good q))⟩
theorem Dr.mono {d : Dice} {B B' : Nat} {w w' : World} (h : Dr d B w w') (hb : B' ≤ B) : Dr d B' w w' :=
  ⟨h.os, h.tape, h.output, h.size, fun k hk => h.block k (by omega), h.die, h.cold, h.good, h.le⟩
theorem Dr.of_thrown {d : Dice} {w w' : World} (h : Thrown d w w') (hD : d.D < w.heap.size) : Dr d w.heap.size w w' :=
  ⟨h.but.os, h.but.tape, h.but.output, h.but.size, fun k hk hn => h.but.block k hk (fun a ha q => by unfold isAt at q; subst q; exact hn ha.symm), fun a ha hn => h.but.cell a (by omega) hn, fun a ha => h.but.frozen a (by omega), fun _ => h.good, fun _ => h.le⟩
theorem dice_below {d : Dice} {w w' : World} {B : Nat} (h : DiceAt d w) (hb : Below B w w') (hD : d.D < B) (hB : B ≤ w.heap.size) (hr : ∀ b o, d.p = some ⟨b, o, none⟩ → b < B) : DiceAt d w' ∧ atOf d.D w' = atOf d.D w := by
  have hat : w'.cell? ⟨d.D, 1, none⟩ = some (.int .i64 (atOf d.D w : Nat)) := by rw [hb.cell (p := ⟨d.D, 1, none⟩) hD]; exact h.at_
  have e := atOf_eq hat
  refine ⟨⟨h.few, by rw [hb.cell (p := ⟨d.D, 0, none⟩) hD]; exact h.row, by rw [e]; exact hat, by rw [e]; exact h.le, fun i hi => ?_, h.away, by rw [hb.frozen (p := ⟨d.D, 1, none⟩) hD]; exact h.warm⟩, e⟩
  obtain ⟨b, o, hp, x, h1, h2, hc⟩ := h.rolls i hi
  exact ⟨b, o, hp, x, h1, h2, by rw [hb.cell (p := ⟨b, o + i, none⟩) (hr b o hp)]; exact hc⟩
/-- the dice and their list lie below B -/
def DcLow (d : Dice) (B : Nat) : Prop := d.D < B ∧ ∀ b o, d.p = some ⟨b, o, none⟩ → 0 < d.n → b < B
theorem dcLow {d : Dice} {w : World} (h : DiceAt d w) : DcLow d w.heap.size := by
  refine ⟨World.block_lt_of_cell? w _ h.at_, fun b o hp hn => ?_⟩
  obtain ⟨b', o', hp', x, _, _, hc⟩ := h.rolls 0 hn
  rw [hp] at hp'
  injection hp' with q; injection q with q1 q2 _
  rw [q1]
  exact World.block_lt_of_cell? w _ hc
theorem Dr.of_below {d : Dice} {B : Nat} {w w' : World} (h : Below B w w') (hl : DcLow d B) : Dr d B w w' := by
  refine ⟨h.os, h.tape, h.output, h.size, fun k hk _ => h.block k hk, fun a ha _ => h.cell (p := a) (by have := hl.1; omega), fun a ha => h.frozen (p := a) (by have := hl.1; omega), fun q => ?_, fun q => ?_⟩
  all_goals
    have hat : w'.cell? ⟨d.D, 1, none⟩ = some (.int .i64 (atOf d.D w : Nat)) := by rw [h.cell (p := ⟨d.D, 1, none⟩) hl.1]; exact q.at_
    have e := atOf_eq hat
  · refine ⟨q.few, by rw [h.cell (p := ⟨d.D, 0, none⟩) hl.1]; exact q.row, by rw [e]; exact hat, by rw [e]; exact q.le, fun i hi => ?_, q.away, by rw [h.frozen (p := ⟨d.D, 1, none⟩) hl.1]; exact q.warm⟩
    obtain ⟨b, o, hp, x, h1, h2, hc⟩ := q.rolls i hi
    exact ⟨b, o, hp, x, h1, h2, by rw [h.cell (p := ⟨b, o + i, none⟩) (hl.2 b o hp (by omega))]; exact hc⟩
  · omega
theorem Dr.thrown {d : Dice} {w w' : World} (h : Dr d w.heap.size w w') (hd : DiceAt d w) : Thrown d w w' := by
  refine ⟨⟨h.os, h.tape, h.output, h.size, fun a ha hn => ?_, fun a ha => ?_, fun k hk hn => h.block k hk (fun q => hn ⟨d.D, 1, none⟩ q.symm rfl)⟩, h.good hd, h.le hd⟩
  · by_cases e : a.block = d.D
    · exact h.die a e hn
    · exact World.cell?_of_block (w := w) (h.block a.block ha e)
  · by_cases e : a.block = d.D
    · exact h.cold a e
    · have hb := h.block a.block ha e
      simp only [World.frozen?, hb]
/-- a row of one's own outlives it -/
theorem own_dr {α : Type} {E : Enc α} {t : TypeId} {d : Dice} {B s0 : Nat} {w w' : World} {v : Value} {L : List α} (h : OwnL E t w B v L) (hd : Dr d s0 w w') (hD : d.D < B) (hs : w.heap.size ≤ s0) : OwnL E t w' B v L := by
  unfold OwnL at h ⊢
  refine ⟨h.1, ?_⟩
  rcases h.2 with hn | ⟨g, cap, cur, hv, hb, hg, r⟩
  · exact .inl hn
  · exact .inr ⟨g, cap, cur, hv, hb, by rw [hd.block g (by have := heap_lt hg; omega) (by omega)]; exact hg, r⟩
theorem box_dr {d : Dice} {s0 b : Nat} {w w' : World} {o : Obj} (h : w.heap[b]? = some o) (hd : Dr d s0 w w') (hD : b ≠ d.D) (hs : b < s0) : w'.heap[b]? = some o := by
  rw [hd.block b hs hD]; exact h

/-! ### the kinds of a region that throws and appends -/
abbrev AD (d : Dice) : World → World → Prop := fun x y => Dr d x.heap.size x y
theorem one_isD {d : Dice} {P : Program} {C : World → World → Prop} {Pn : Ending → World → Prop} {c k : Nat} {v : Value} {w : World} (h : k ≠ c) : oneUpon P (sel (AD d) C c k) Pn (tvIs v) w (.ok (.value v) w) := by
  refine ⟨?_, (), rfl, trivial⟩
  unfold sel
  rw [if_neg h]
  exact Dr.refl _ _ _
/-- a slice of strings that has been laid -/
def tvSh (d : Dice) (row : Option Nat) (N m : Nat) : TyV := ⟨{b : Nat // True}, ⟨⟨0, trivial⟩⟩, fun b => .slice (some ⟨b.1, 0, none⟩) m m, fun b w => Shorts N w (some ⟨b.1, 0, none⟩) m ∧ some b.1 ≠ row ∧ b.1 < w.heap.size ∧ b.1 ≠ d.D⟩
theorem shorts_same {N m b : Nat} {w w' : World} (h : Shorts N w (some ⟨b, 0, none⟩) m) (e : w'.heap[b]? = w.heap[b]?) : Shorts N w' (some ⟨b, 0, none⟩) m := by
  intro i hi
  obtain ⟨b', o, s, hp, hc, hn⟩ := h i hi
  injection hp with hp; injection hp with h1 h2 _
  subst h1; subst h2
  exact ⟨_, _, s, rfl, by rw [World.cell?_of_block (w := w) e]; exact hc, hn⟩
theorem tvSh_good (d : Dice) (row : Option Nat) (N m c k : Nat) : Good (AD d) (fun x y => x.grownBy y row) c k (tvSh d row N m) :=
  ⟨fun b w w' hl h => ⟨shorts_same h.1 (hl.block b.1 h.2.2.1 h.2.2.2), h.2.1, Nat.lt_of_lt_of_le h.2.2.1 hl.size, h.2.2.2⟩, fun _ b w w' hl h => ⟨shorts_same h.1 (hl.block b.1 h.2.2.1 h.2.1), h.2.1, Nat.lt_of_lt_of_le h.2.2.1 hl.size, h.2.2.2⟩⟩
theorem tvSh_f (d : Dice) (row : Option Nat) (N m b : Nat) (h : True) : (tvSh d row N m).f ⟨b, h⟩ = .slice (some ⟨b, 0, none⟩) m m := rfl
theorem shorts_lit (N : Nat) (w : World) (l : List ByteArray) (h : ∀ s ∈ l, s.size ≤ N) (T : TypeId) : Shorts N (w.alloc (.cells (l.map Value.string).toArray T)) (some ⟨w.heap.size, 0, none⟩) l.length := by
  intro i hi
  refine ⟨w.heap.size, 0, l[i], rfl, ?_, h _ (List.getElem_mem hi)⟩
  have := cellsAt_alloc w (l.map Value.string) T i (.string l[i]) (by simp [hi])
  exact this
theorem tvSh_mk {d : Dice} {row : Option Nat} {N c k m : Nat} {l : List ByteArray} {cs : Array Value} {w : World} {P : Program} {Pn : Ending → World → Prop} {T : TypeId} (hl : ∀ s ∈ l, s.size ≤ N) (hm : l.length = m) (hcs : (l.map Value.string).toArray = cs) (hlow : DcLow d w.heap.size) (hr : ∀ j, row = some j → j < w.heap.size) (h : k ≠ c) :
    oneUpon P (sel (AD d) (fun x y => x.grownBy y row) c k) Pn (tvSh d row N m) w (.ok (.value (.slice (some ⟨w.heap.size, 0, none⟩) m m)) (w.alloc (.cells cs T))) := by
  subst hm
  subst hcs
  refine ⟨?_, ⟨w.heap.size, trivial⟩, rfl, shorts_lit N w l hl T, fun e => ?_, by simp, fun e => ?_⟩
  · unfold sel; rw [if_neg h]; exact Dr.of_below (below_box w _) hlow
  · have := hr _ e.symm; simp only at this; omega
  · have := hlow.1; simp only at e; omega
/-- a string that was drawn -/
def tvStr (N : Nat) : TyV := ⟨{s : ByteArray // s.size ≤ N}, ⟨⟨⟨#[]⟩, Nat.zero_le _⟩⟩, fun s => .string s.1, fun _ _ => True⟩
theorem tvStr_good (d : Dice) (C : World → World → Prop) (N c k : Nat) : Good (AD d) C c k (tvStr N) := ⟨fun _ _ _ _ h => h, fun _ _ _ _ _ h => h⟩
theorem tvStr_f (N : Nat) (s : ByteArray) (h : s.size ≤ N) : (tvStr N).f ⟨s, h⟩ = .string s := rfl
/-- one string in a slice that was just laid -/
def tvOneS (d : Dice) (row : Option Nat) (N : Nat) : TyV := ⟨{b : Nat × ByteArray // b.2.size ≤ N}, ⟨⟨(0, ⟨#[]⟩), Nat.zero_le _⟩⟩, fun b => .slice (some ⟨b.1.1, 0, none⟩) 1 1, fun b w => CellsAt w b.1.1 0 [.string b.1.2] ∧ some b.1.1 ≠ row ∧ b.1.1 < w.heap.size ∧ b.1.1 ≠ d.D⟩
theorem cells_same {w w' : World} {b off : Nat} {cs : List Value} (h : CellsAt w b off cs) (e : w'.heap[b]? = w.heap[b]?) : CellsAt w' b off cs := fun j v hv => by
  rw [World.cell?_of_block (w := w) e]; exact h j v hv
theorem tvOneS_good (d : Dice) (row : Option Nat) (N : Nat) (c k : Nat) : Good (AD d) (fun x y => x.grownBy y row) c k (tvOneS d row N) :=
  ⟨fun b w w' hl h => ⟨cells_same h.1 (hl.block b.1.1 h.2.2.1 h.2.2.2), h.2.1, Nat.lt_of_lt_of_le h.2.2.1 hl.size, h.2.2.2⟩, fun _ b w w' hl h => ⟨cells_same h.1 (hl.block b.1.1 h.2.2.1 h.2.1), h.2.1, Nat.lt_of_lt_of_le h.2.2.1 hl.size, h.2.2.2⟩⟩
theorem tvOneS_f (d : Dice) (row : Option Nat) (N : Nat) (b : Nat) (s : ByteArray) (h : s.size ≤ N) : (tvOneS d row N).f ⟨(b, s), h⟩ = .slice (some ⟨b, 0, none⟩) 1 1 := rfl
theorem tvOneS_mk {d : Dice} {row : Option Nat} {N : Nat} {s : ByteArray} {w : World} {c k : Nat} {P : Program} {Pn : Ending → World → Prop} (hs : s.size ≤ N) (hlow : DcLow d w.heap.size) (hr : ∀ j, row = some j → j < w.heap.size) (h : k ≠ c) :
    oneUpon P (sel (AD d) (fun x y => x.grownBy y row) c k) Pn (tvOneS d row N) w (.ok (.value (.slice (some ⟨w.heap.size, 0, none⟩) 1 1)) (w.alloc (.cells #[.string s] strT))) := by
  refine ⟨?_, ⟨(w.heap.size, s), hs⟩, rfl, cellsAt_alloc w [.string s] strT, fun e => ?_, by simp, fun e => ?_⟩
  · unfold sel; rw [if_neg h]; exact Dr.of_below (below_box w _) hlow
  · have := hr _ e.symm; simp only at this; omega
  · have := hlow.1; simp only at e; omega
/-- the list with one more -/
def tvAppS (row : Option Nat) (B base : Nat) (zs : List ByteArray) (N : Nat) : TyV := ⟨{v : Value × ByteArray // v.2.size ≤ N}, ⟨⟨(undef, ⟨#[]⟩), Nat.zero_le _⟩⟩, fun v => v.1.1, fun v w => OwnL encS strT w base v.1.1 (zs ++ [v.1.2]) ∧ (v.1.1.ownBlock = row ∨ ∃ k, v.1.1.ownBlock = some k ∧ B ≤ k)⟩
theorem tvAppS_good (d : Dice) (row : Option Nat) (B base : Nat) (zs : List ByteArray) (N c : Nat) (hD : d.D < base) : Good (AD d) (fun x y => x.grownBy y row) c c (tvAppS row B base zs N) :=
  ⟨fun v w w' hl h => ⟨own_dr h.1 hl hD (Nat.le_refl _), h.2⟩, fun hk => absurd rfl hk⟩
theorem tvAppS_f (row : Option Nat) (B base : Nat) (zs : List ByteArray) (N : Nat) (v : Value) (s : ByteArray) (h : s.size ≤ N) : (tvAppS row B base zs N).f ⟨(v, s), h⟩ = v := rfl
theorem tvAppS_mk {d : Dice} {row : Option Nat} {B base c sb N : Nat} {zs : List ByteArray} {s : ByteArray} {v : Value} {w : World} {Pn : Ending → World → Prop} (hv : OwnL encS strT w base v zs) (hrow : row = v.ownBlock) (hx : CellsAt w sb 0 [.string s]) (hs : s.size ≤ N) (hl : zs.length ≤ 100000) (hb : base ≤ w.heap.size) (hB : B ≤ w.heap.size) (ty : TypeId) :
    ∃ v' w', (Builtin.append_ #[54, 54] ty #[v, .slice (some ⟨sb, 0, none⟩) 1 1]).run Try.prog w = .ok v' w' ∧ oneUpon Try.prog (sel (AD d) (fun x y => x.grownBy y row) c c) Pn (tvAppS row B base zs N) w (.ok (.value v') w') := by
  obtain ⟨i0, hi0, hz0, hz1, hz2⟩ := info_parts infoS
  obtain ⟨v', w', hr, h2, h3, _, h5⟩ := run_append_own_at (P := Try.prog) w base 54 ty strT i0 (.string ⟨#[]⟩) 1 16 Try.underlying54 hi0 hz0 hz1 hz2 rfl (by decide) v zs.length (encS.all zs) hv ⟨sb, 0, none⟩ 1 1 [.string s] rfl (fun j u hj => by rw [add_lit]; exact hx j u hj) (fun u hu => by simp at hu; subst hu; rfl) (by unfold maxLen; omega) (by omega) hb
  refine ⟨v', w', hr, ?_, ⟨(v', s), hs⟩, rfl, ?_, ?_⟩
  · unfold sel; rw [if_pos rfl, hrow]; exact h3
  · show OwnL encS strT w' base v' (zs ++ [s])
    unfold OwnL
    rw [List.length_append, encS.all_append]; exact h2
  · rcases h5 with e | e
    · exact .inl (by rw [hrow]; exact e)
    · exact .inr ⟨_, e, hB⟩
theorem oneAt_appendS {P : Program} {ops : Array Oper} {o : Oper} {a : Act} {L : World → World → Prop} {Pn : Ending → World → Prop} {t : TyV} {w w' : World} {s x : Operand} {sT : TypeId} {v u v' : Value} (hgd : o.guard = none)
    (ho : o.op = .call { callee := .builtin .append, args := #[s, x], argTypes := #[sT, sT] }) (hs : a.eval s = v) (hx : a.eval x = u) (hr : (Builtin.append_ #[sT, sT] o.type #[v, u]).run P w = .ok v' w') (h : oneUpon P L Pn t w (.ok (.value v') w')) : oneAt P ops L Pn t o a w := by
  have hw : Region.wanted o (yielded ops a.tmps) = true := by simp [Region.wanted, hgd]
  unfold oneAt
  rw [if_pos hw]
  unfold execOp
  simp only [ho, resolve, invoke, builtin, Sem.run_bind, Sem.run_pure, Result.andThen_ok, List.map_toArray, List.map_cons, List.map_nil, hs, hx, hr]
  exact h
theorem lean_ofD {md : Region.Mode} {o : Oper} {i : Nat} {F : Facts} {w : World} (h : leanO md o i F w) (j : Nat) (hj : (o.after.any fun e => Region.binds md e && (e.on == j)) = true) : F j w := by
  obtain ⟨e, he, h2⟩ := Array.any_eq_true'.1 hj
  simp only [Bool.and_eq_true, beq_iff_eq] at h2
  rw [← h2.2]
  exact h.2 e he h2.1
end Go.Proofs.Ytheigpiffdabnaa.Mds
