/-
  LAWS: a list of strings in a block of the call's own: append, and what keeps it.
-/
import Derived.Test.YtflcpcefjliijaaInt
import Derived.Test.YtflcpcefjliijaaCopyN
import Derived.Laws.AppendOwn
namespace Go.Proofs.Ytflcpcefjliijaa
open Go Go.RowKit
set_option linter.unusedVariables false

/-- the slice lies in a block from base on, and reads as T -/
def OwnT (w : World) (base : Nat) (v : Value) (T : List ByteArray) : Prop := w.ownsRow base 9 1 v T.length (T.map Value.string)

theorem infoString : (Try.prog.info? 9).map (fun i => (i.zero, i.size, i.bytes)) = some (some (.string ⟨#[]⟩), 1, 16) := by kernel_rfl

theorem OwnT.nil (w : World) (base : Nat) : OwnT w base (.slice none 0 0) [] := ⟨rfl, Or.inl ⟨rfl, rfl⟩⟩

theorem OwnT.cells {w : World} {base : Nat} {v : Value} {T : List ByteArray} (h : OwnT w base v T) : ∃ p cap, v = .slice p T.length cap ∧ ∀ i (hi : i < T.length), ∃ g, p = some ⟨g, 0, none⟩ ∧ base ≤ g ∧ w.cell? ⟨g, i, none⟩ = some (.string T[i]) := by
  obtain ⟨hl, h | ⟨g, cap, cur, hv, hg, hh, hn, hc, hs, ht⟩⟩ := h
  · obtain ⟨rfl, h0⟩ := h
    have e : T = [] := by simpa using h0
    subst e
    exact ⟨none, 0, rfl, fun i hi => by simp at hi⟩
  · refine ⟨_, cap, hv, fun i hi => ⟨g, rfl, hg, ?_⟩⟩
    rw [cell_of_row _ g i _ _ _ hh]
    have : (cur.toList.take (T.length * 1))[i]? = some (.string T[i]) := by rw [ht]; simp [hi]
    rw [List.getElem?_take] at this
    split at this
    · simpa using this
    · exact absurd this (by simp)

theorem OwnT.keep {M : Addr → Prop} {w w' : World} {base : Nat} {v : Value} {T : List ByteArray} (h : OwnT w base v T) (hb : But M w w') (hm : ∀ a, M a → a.block < base) : OwnT w' base v T := by
  obtain ⟨hl, h | ⟨g, cap, cur, hv, hg, hh, hn, hc, hs, ht⟩⟩ := h
  · exact ⟨hl, Or.inl h⟩
  · refine ⟨hl, Or.inr ⟨g, cap, cur, hv, hg, ?_, hn, hc, hs, ht⟩⟩
    rw [hb.block g (Array.getElem?_eq_some_iff.1 hh).1 (fun a ha q => by have := hm a q; omega)]
    exact hh

theorem wpList_appendT {ops : Array Oper} {rest : List Oper} {o : Oper} {a : Act} {Q : Exit → Act → World → Prop} {w : World} (hgd : o.guard = none) (s x : Operand)
    (ho : o.op = .call { callee := .builtin .append, args := #[s, x], argTypes := #[65, 65] })
    (base : Nat) (v : Value) (T : List ByteArray) (hs : a.eval s = v) (hown : OwnT w base v T)
    (ad : Addr) (m c : Nat) (news : List ByteArray) (hx : a.eval x = .slice (some ad) m c) (hl : news.length = m) (hnews : ∀ j (hj : j < news.length), w.cell? (ad.add j) = some (.string news[j]))
    (h63 : T.length + m ≤ 1000000) (hbase : base ≤ w.heap.size)
    (h : ∀ v' w', OwnT w' base v' (T ++ news) → w.grownBy w' v.ownBlock → wpList Try.prog ops Q rest (a.put o.dst v') w') : wpList Try.prog ops Q (o :: rest) a w := by
  obtain ⟨i, hi, hz, h1, h2⟩ := info_parts infoString
  refine wpList_append_own _ hgd s x 65 ho base 9 i _ 1 16 Try.underlying65 hi hz h1 h2 rfl (by omega) v T.length (T.map Value.string) hs hown ad m c (news.map Value.string) hx (by simpa using hl) ?_ ?_ ?_ ?_ hbase ?_
  · intro j u hj
    rw [List.getElem?_map] at hj
    cases hn : news[j]? with
    | none => rw [hn] at hj; cases hj
    | some y =>
      rw [hn] at hj
      have hj := Option.some.inj hj
      subst hj
      obtain ⟨hlt, he⟩ := List.getElem?_eq_some_iff.1 hn
      rw [hnews j hlt, he]
  · intro u hu
    obtain ⟨y, _, rfl⟩ := List.mem_map.1 hu
    rfl
  · unfold maxLen; omega
  · omega
  · intro v' w' h3 h4 _
    refine h v' w' ?_ h4
    unfold OwnT
    rw [List.map_append, List.length_append, hl]
    exact h3

end Go.Proofs.Ytflcpcefjliijaa
