/-
  PLAIN: the way of a reader of types; a row of types with one more; the frame of the reader's node.
-/
import Derived.Test.YtbnnokibjccdaaaTpNm
import Derived.Test.YtbnnokibjccdaaaTpK
import Derived.Maps.AppendAt
namespace Go.Proofs.Ytbnnokibjccdaaa
open Go Go.RowKit Go.Maps
set_option linter.unusedVariables false
set_option linter.unusedSimpArgs false
set_option maxRecDepth 100000

def sizesP (l : List Tp) : Nat := (l.map sizeP).sum
theorem sizesP_append (a b : List Tp) : sizesP (a ++ b) = sizesP a + sizesP b := by unfold sizesP; rw [List.map_append, List.sum_append]
theorem sizesP_one (t : Tp) : sizesP [t] = sizeP t := by simp [sizesP]
theorem sizesP_cons (t : Tp) (l : List Tp) : sizesP (t :: l) = sizeP t + sizesP l := by simp [sizesP]
theorem sizeP_mk2 (s : ByteArray) (l : List Tp) : sizeP (.mk s l) = 1 + sizesP l := sizeP_mk s l
/-- l has been read of q, and r is left -/
def Way (P : List UInt8 → Option (Tp × List UInt8)) (q : List UInt8) (l : List Tp) (r : List UInt8) : Prop := ∃ g, r.length < g ∧ parL P (q.length + 1) q = (parL P g r).map (fun x => (l ++ x.1, x.2))
theorem Way.start (P : List UInt8 → Option (Tp × List UInt8)) (q : List UInt8) : Way P q [] q := ⟨q.length + 1, Nat.lt_succ_self _, by cases parL P (q.length + 1) q <;> simp⟩
theorem parL_succ (P : List UInt8 → Option (Tp × List UInt8)) (f : Nat) (q : List UInt8) : parL P (f + 1) q = match P q with
    | some (t, c :: q') => if c = 44 then (parL P f q').map (fun x => (t :: x.1, x.2)) else if c = 62 then some ([t], q') else none
    | _ => none := rfl
theorem Way.next {P : List UInt8 → Option (Tp × List UInt8)} {q r r2 : List UInt8} {l : List Tp} {t : Tp} (h : Way P q l r) (ht : P r = some (t, 44 :: r2)) (hl : r2.length < r.length) : Way P q (l ++ [t]) r2 := by
  obtain ⟨g, hg, e⟩ := h
  cases g with
  | zero => omega
  | succ g =>
    refine ⟨g, by omega, ?_⟩
    rw [e, parL_succ, ht]
    simp only [if_true]
    cases parL P g r2 <;> simp
theorem Way.fin {P : List UInt8 → Option (Tp × List UInt8)} {q r r2 : List UInt8} {l : List Tp} {t : Tp} (h : Way P q l r) (ht : P r = some (t, 62 :: r2)) : parL P (q.length + 1) q = some (l ++ [t], r2) := by
  obtain ⟨g, hg, e⟩ := h
  cases g with
  | zero => omega
  | succ g =>
    rw [e, parL_succ, ht]
    simp
theorem Way.bad {P : List UInt8 → Option (Tp × List UInt8)} {q r r2 : List UInt8} {l : List Tp} {t : Tp} (h : Way P q l r) (ht : P r = some (t, r2)) (h1 : r2.head? ≠ some 44) (h2 : r2.head? ≠ some 62) : parL P (q.length + 1) q = none := by
  obtain ⟨g, hg, e⟩ := h
  cases g with
  | zero => omega
  | succ g =>
    rw [e, parL_succ, ht]
    cases r2 with
    | nil => rfl
    | cons c r2 =>
      have e1 : c ≠ 44 := fun h => h1 (by rw [h]; rfl)
      have e2 : c ≠ 62 := fun h => h2 (by rw [h]; rfl)
      simp [e1, e2]
theorem Way.no {P : List UInt8 → Option (Tp × List UInt8)} {q r : List UInt8} {l : List Tp} {m : Nat} (h : Way P q l r) (hn : ∀ t r2, P r = some (t, r2) → 20000 < m + sizeP t) {l2 : List Tp} {r3 : List UInt8} (hp : parL P (q.length + 1) q = some (l2, r3)) : 20000 + sizesP l < m + sizesP l2 := by
  obtain ⟨g, hg, e⟩ := h
  cases g with
  | zero => omega
  | succ g =>
    rw [e, parL_succ] at hp
    cases hP : P r with
    | none => rw [hP] at hp; simp at hp
    | some x =>
      obtain ⟨t, r2⟩ := x
      have hs := hn t r2 hP
      rw [hP] at hp
      cases r2 with
      | nil => simp at hp
      | cons c r2 =>
        simp only at hp
        by_cases h1 : c = 44
        · rw [if_pos h1] at hp
          cases hL : parL P g r2 with
          | none => rw [hL] at hp; simp at hp
          | some y =>
            rw [hL] at hp
            simp only [Option.map_some, Option.some.injEq, Prod.mk.injEq] at hp
            obtain ⟨rfl, -⟩ := hp
            rw [sizesP_append, sizesP_cons]
            omega
        · rw [if_neg h1] at hp
          by_cases h2 : c = 62
          · rw [if_pos h2] at hp
            simp only [Option.map_some, Option.some.injEq, Prod.mk.injEq] at hp
            obtain ⟨rfl, -⟩ := hp
            rw [sizesP_append, sizesP_one]
            omega
          · rw [if_neg h2] at hp
            simp at hp
theorem parT_succ (f : Nat) (r : List UInt8) : parT (f + 1) r = if r.takeWhile plb = [] then none else match r.dropWhile plb with
    | [] => some (.mk ⟨(r.takeWhile plb).toArray⟩ [], [])
    | c :: q => if c = 60 then (parL (parT f) (q.length + 1) q).map (fun x => (.mk ⟨(r.takeWhile plb).toArray⟩ x.1, x.2)) else some (.mk ⟨(r.takeWhile plb).toArray⟩ [], c :: q) := rfl
theorem sizeP_pos (t : Tp) : 1 ≤ sizeP t := by
  cases t with
  | mk s l => rw [sizeP_mk]; omega
/-- append of one type to a row of one's own -/
theorem wpList_appTp {w : World} {ops : Array Oper} {rest : List Oper} {o : Oper} {a : Act} {Q : Exit → Act → World → Prop}
    (hgd : o.guard = none) (s x : Operand)
    (ho : o.op = .call { callee := .builtin .append, args := #[s, x], argTypes := #[22, 22] })
    (base : Nat) (K : Nat → Prop) (v : Value) (R : List Rw) (l : List Tp) (hs : a.eval s = v) (hv : TRk w base K v R l) (sb : Nat) (q : Rw) (t : Tp) (hx : a.eval x = .slice (some ⟨sb, 0, none⟩) 1 1) (hc : CellsAt w sb 0 (Rw.cells q)) (hq : IsP (offK K v.ownBlock) w q t)
    (hl : Hid (l.length ≤ 1000000000)) (hbase : base ≤ w.heap.size)
    (h : ∀ v' w', TRk w' base K v' (R ++ [q]) (l ++ [t]) → w.grownBy w' v.ownBlock → wpList Try.prog ops Q rest (a.put o.dst v') w') : wpList Try.prog ops Q (o :: rest) a w := by
  obtain ⟨i0, hi0, hz0, hz1, hz2⟩ := info_parts infoTp
  have hl' := hl.out
  have hRl := hv.len
  refine wpList_append_own_at w hgd s x 22 ho base tpT i0 (.agg #[.string ⟨#[]⟩, .slice none 0 0]) 2 40 Try.underlying22 hi0 hz0 hz1 hz2 rfl (by decide) v R.length (rwEnc.all R) hs hv.own ⟨sb, 0, none⟩ 1 1 (Rw.cells q) hx rfl (fun j u hj => by rw [add_lit]; exact hc j u hj) (fun u hu => rwEnc.one q u hu) (by unfold maxLen; omega) (by omega) hbase ?_
  intro v' w' h2 h3 _ h5
  refine h v' w' (hv.push h3 ?_ h5 hq) h3
  unfold OwnL
  rw [List.length_append, rwEnc.all_append, show rwEnc.all [q] = Rw.cells q by simp [Enc.all, rwEnc]]
  exact h2
end Go.Proofs.Ytbnnokibjccdaaa
