/-
  LAWS: what dice leave in a world that grows (as in MdG, for any seat).
-/
import Derived.Test.YtbnnokibjccdaaaDice
import Derived.Test.YtbnnokibjccdaaaOne
import Derived.Test.YtbnnokibjccdaaaLw
namespace Go.Proofs.Ytbnnokibjccdaaa
open Go Go.RowKit Go.Maps
set_option linter.unusedVariables false
set_option linter.unusedSimpArgs false
set_option maxRecDepth 1000000

theorem heap_lt {w : World} {b : Nat} {o : Obj} (h : w.heap[b]? = some o) : b < w.heap.size := by
  rcases Nat.lt_or_ge b w.heap.size with h' | h'
  · exact h'
  · rw [Array.getElem?_eq_none h'] at h; cases h
/-- below B nothing has changed but the dice's count -/
structure Dr (d : Dice) (B : Nat) (w w' : World) : Prop where
  os : w'.os = w.os
  tape : w'.tape = w.tape
  output : w'.output = w.output
  size : w.heap.size ≤ w'.heap.size
  block : ∀ k, k < B → k ≠ d.D → w'.heap[k]? = w.heap[k]?
  die : ∀ a : Addr, a.block = d.D → ¬ isAt d.D a → w'.cell? a = w.cell? a
  cold : ∀ a : Addr, a.block = d.D → w'.frozen? a = w.frozen? a
  good : DiceAt d w → DiceAt d w'
  le : DiceAt d w → atOf d.D w ≤ atOf d.D w'
theorem Dr.refl (d : Dice) (B : Nat) (w : World) : Dr d B w w := ⟨rfl, rfl, rfl, Nat.le_refl _, fun _ _ _ => rfl, fun _ _ _ => rfl, fun _ _ => rfl, id, fun _ => Nat.le_refl _⟩
theorem Dr.trans {d : Dice} {B : Nat} {a b c : World} (h : Dr d B a b) (k : Dr d B b c) : Dr d B a c :=
  ⟨k.os.trans h.os, k.tape.trans h.tape, k.output.trans h.output, Nat.le_trans h.size k.size, fun x hx hn => (k.block x hx hn).trans (h.block x hx hn), fun x hx hn => (k.die x hx hn).trans (h.die x hx hn), fun x hx => (k.cold x hx).trans (h.cold x hx), fun q => k.good (h.good q), fun q => Nat.le_trans (h.le q) (k.le (h.good q))⟩
theorem Dr.mono {d : Dice} {B B' : Nat} {w w' : World} (h : Dr d B w w') (hb : B' ≤ B) : Dr d B' w w' :=
  ⟨h.os, h.tape, h.output, h.size, fun k hk => h.block k (by omega), h.die, h.cold, h.good, h.le⟩
theorem Dr.of_thrown {d : Dice} {w w' : World} (h : Thrown d w w') (hD : d.D < w.heap.size) : Dr d w.heap.size w w' :=
  ⟨h.but.os, h.but.tape, h.but.output, h.but.size, fun k hk hn => h.but.block k hk (fun a ha q => by unfold isAt at q; subst q; exact hn ha.symm), fun a ha hn => h.but.cell a (by omega) hn, fun a ha => h.but.frozen a (by omega), fun _ => h.good, fun _ => h.le⟩
theorem dice_below {d : Dice} {w w' : World} {B : Nat} (h : DiceAt d w) (hb : Below B w w') (hD : d.D < B) (hB : B ≤ w.heap.size) (hr : ∀ b o, d.p = some ⟨b, o, none⟩ → b < B) : DiceAt d w' ∧ atOf d.D w' = atOf d.D w := by
  have hat : w'.cell? ⟨d.D, 1, none⟩ = some (.int .i64 (atOf d.D w : Nat)) := by rw [hb.cell (p := ⟨d.D, 1, none⟩) hD]; exact h.at_
  have e := atOf_eq hat
  refine ⟨⟨h.few, by rw [hb.cell (p := ⟨d.D, 0, none⟩) hD]; exact h.row, by rw [e]; exact hat, by rw [e]; exact h.le, fun i hi => ?_, h.away, by rw [hb.frozen (p := ⟨d.D, 1, none⟩) hD]; exact h.warm⟩, e⟩
  obtain ⟨b, o, hp, x, h1, h2, hc⟩ := h.rolls i hi
  exact ⟨b, o, hp, x, h1, h2, by rw [hb.cell (p := ⟨b, o + i, none⟩) (hr b o hp)]; exact hc⟩
/-- the dice and their list lie below B -/
def DcLow (d : Dice) (B : Nat) : Prop := d.D < B ∧ ∀ b o, d.p = some ⟨b, o, none⟩ → 0 < d.n → b < B
theorem dcLow {d : Dice} {w : World} (h : DiceAt d w) : DcLow d w.heap.size := by
  refine ⟨World.block_lt_of_cell? w _ h.at_, fun b o hp hn => ?_⟩
  obtain ⟨b', o', hp', x, _, _, hc⟩ := h.rolls 0 hn
  rw [hp] at hp'
  injection hp' with q; injection q with q1 q2 _
  rw [q1]
  exact World.block_lt_of_cell? w _ hc
theorem Dr.of_below {d : Dice} {B : Nat} {w w' : World} (h : Below B w w') (hl : DcLow d B) : Dr d B w w' := by
  refine ⟨h.os, h.tape, h.output, h.size, fun k hk _ => h.block k hk, fun a ha _ => h.cell (p := a) (by have := hl.1; omega), fun a ha => h.frozen (p := a) (by have := hl.1; omega), fun q => ?_, fun q => ?_⟩
  all_goals
    have hat : w'.cell? ⟨d.D, 1, none⟩ = some (.int .i64 (atOf d.D w : Nat)) := by rw [h.cell (p := ⟨d.D, 1, none⟩) hl.1]; exact q.at_
    have e := atOf_eq hat
  · refine ⟨q.few, by rw [h.cell (p := ⟨d.D, 0, none⟩) hl.1]; exact q.row, by rw [e]; exact hat, by rw [e]; exact q.le, fun i hi => ?_, q.away, by rw [h.frozen (p := ⟨d.D, 1, none⟩) hl.1]; exact q.warm⟩
    obtain ⟨b, o, hp, x, h1, h2, hc⟩ := q.rolls i hi
    exact ⟨b, o, hp, x, h1, h2, by rw [h.cell (p := ⟨b, o + i, none⟩) (hl.2 b o hp (by omega))]; exact hc⟩
  · omega
theorem Dr.thrown {d : Dice} {w w' : World} (h : Dr d w.heap.size w w') (hd : DiceAt d w) : Thrown d w w' := by
  refine ⟨⟨h.os, h.tape, h.output, h.size, fun a ha hn => ?_, fun a ha => ?_, fun k hk hn => h.block k hk (fun q => hn ⟨d.D, 1, none⟩ q.symm rfl)⟩, h.good hd, h.le hd⟩
  · by_cases e : a.block = d.D
    · exact h.die a e hn
    · exact World.cell?_of_block (w := w) (h.block a.block ha e)
  · by_cases e : a.block = d.D
    · exact h.cold a e
    · have hb := h.block a.block ha e
      simp only [World.frozen?, hb]
/-- a row of one's own outlives it -/
theorem own_dr {α : Type} {E : Enc α} {t : TypeId} {d : Dice} {B s0 : Nat} {w w' : World} {v : Value} {L : List α} (h : OwnL E t w B v L) (hd : Dr d s0 w w') (hD : d.D < B) (hs : w.heap.size ≤ s0) : OwnL E t w' B v L := by
  unfold OwnL at h ⊢
  refine ⟨h.1, ?_⟩
  rcases h.2 with hn | ⟨g, cap, cur, hv, hb, hg, r⟩
  · exact .inl hn
  · exact .inr ⟨g, cap, cur, hv, hb, by rw [hd.block g (by have := heap_lt hg; omega) (by omega)]; exact hg, r⟩
theorem box_dr {d : Dice} {s0 b : Nat} {w w' : World} {o : Obj} (h : w.heap[b]? = some o) (hd : Dr d s0 w w') (hD : b ≠ d.D) (hs : b < s0) : w'.heap[b]? = some o := by
  rw [hd.block b hs hD]; exact h

/-! ### the kinds of a region that throws and appends -/
abbrev AD (d : Dice) : World → World → Prop := fun x y => Dr d x.heap.size x y
theorem one_isD {d : Dice} {P : Program} {C : World → World → Prop} {Pn : Ending → World → Prop} {c k : Nat} {v : Value} {w : World} (h : k ≠ c) : oneUpon P (sel (AD d) C c k) Pn (tvIs v) w (.ok (.value v) w) := by
  refine ⟨?_, (), rfl, trivial⟩
  unfold sel
  rw [if_neg h]
  exact Dr.refl _ _ _
theorem oneAt_appendS {P : Program} {ops : Array Oper} {o : Oper} {a : Act} {L : World → World → Prop} {Pn : Ending → World → Prop} {t : TyV} {w w' : World} {s x : Operand} {sT : TypeId} {v u v' : Value} (hgd : o.guard = none)
    (ho : o.op = .call { callee := .builtin .append, args := #[s, x], argTypes := #[sT, sT] }) (hs : a.eval s = v) (hx : a.eval x = u) (hr : (Builtin.append_ #[sT, sT] o.type #[v, u]).run P w = .ok v' w') (h : oneUpon P L Pn t w (.ok (.value v') w')) : oneAt P ops L Pn t o a w := by
  have hw : Region.wanted o (yielded ops a.tmps) = true := by simp [Region.wanted, hgd]
  unfold oneAt
  rw [if_pos hw]
  unfold execOp
  simp only [ho, resolve, invoke, builtin, Sem.run_bind, Sem.run_pure, Result.andThen_ok, List.map_toArray, List.map_cons, List.map_nil, hs, hx, hr]
  exact h
theorem lean_ofD {md : Region.Mode} {o : Oper} {i : Nat} {F : Facts} {w : World} (h : leanO md o i F w) (j : Nat) (hj : (o.after.any fun e => Region.binds md e && (e.on == j)) = true) : F j w := by
  obtain ⟨e, he, h2⟩ := Array.any_eq_true'.1 hj
  simp only [Bool.and_eq_true, beq_iff_eq] at h2
  rw [← h2.2]
  exact h.2 e he h2.1
theorem set_dr {d : Dice} {s0 yb i : Nat} {w : World} {v : Value} (hlow : DcLow d s0) (hy : s0 ≤ yb) : Dr d s0 w (w.setCell ⟨yb, i, none⟩ v) :=
  Dr.of_below ((Below.refl _ _).setCell (p := ⟨yb, i, none⟩) hy v) hlow
theorem DcLow.mono {d : Dice} {B B' : Nat} (h : DcLow d B) (hb : B ≤ B') : DcLow d B' := ⟨by have := h.1; omega, fun b o hp hn => by have := h.2 b o hp hn; omega⟩
theorem thrown_allocD {d : Dice} {w : World} (h : DiceAt d w) (o : Obj) : Thrown d w (w.alloc o) := by
  have hb := below_box w o
  have hs := h.still (But.of_below (M := fun _ => False) hb) (fun _ _ _ _ q => q) (fun _ q => q)
  exact ⟨But.of_below hb, hs.1, Nat.le_of_eq hs.2.symm⟩
end Go.Proofs.Ytbnnokibjccdaaa
