/-
  PLAIN: what one round of IdentityStays asks.
-/
import Derived.Test.YtcplhnpblpmalaaSame5
namespace Go.Proofs.Ytcplhnpblpmalaa.Idn
open Go Go.RowKit Go.Maps
set_option linter.unusedVariables false
set_option maxRecDepth 1000000

/-- who stays keeps the number -/
theorem stays_find {next n1 : Int} {E : List En} {l : List It} (hc : Chk next E) (hc1 : Chk n1 (byId (given next E l))) {a : En} (ha : a ∈ E) :
    foundV (byId (given next E l)) (dfn a.2) = .tuple #[.int .i64 a.1, .bool true] ∨ foundV (byId (given next E l)) (dfn a.2) = .tuple #[.int .i64 0, .bool false] := by
  cases e : at? (byId (given next E l)) (dfn a.2) with
  | none => right; unfold foundV; rw [e]
  | some u =>
    left
    obtain ⟨h1, h2⟩ := at_some e
    have hu : u.2 ∈ l := by
      have := given_items next E l
      rw [← this]
      exact List.mem_map.2 ⟨u, (byId_perm _).mem_iff.1 h1, rfl⟩
    have hid : idOf E (dfn u.2) = a.1 := by rw [h2]; exact idOf_mem hc ha
    have hne : idOf E (dfn u.2) ≠ 0 := by rw [hid]; have := (hc.pos a ha).1; omega
    have hk := (byId_perm _).mem_iff.2 (given_keeps (next := next) hu hne)
    rw [hid] at hk
    have h3 := at_found hc1 hk
    have h4 : at? (byId (given next E l)) (dfn u.2) = some u := by rw [h2]; exact e
    have h5 : u = (a.1, u.2) := Option.some.inj (h4.symm.trans h3)
    unfold foundV
    rw [e, h5]
/-- all of one round -/
structure Stay (next n1 : Int) (E E1 : List En) (l : List It) : Prop where
  chk : Chk n1 E1
  low : next ≤ n1
  high : n1 ≤ next + 8
  len : E1.length = l.length
  find : ∀ a ∈ E, foundV E1 (dfn a.2) = .tuple #[.int .i64 a.1, .bool true] ∨ foundV E1 (dfn a.2) = .tuple #[.int .i64 0, .bool false]
  again : byId (given n1 E1 l) = E1 ∧ nextV n1 E1 l = n1
  mem : ∀ p ∈ E1, p.2 ∈ l
theorem stay_round {next : Int} {E : List En} {l : List It} (hc : Chk next E) (hn : next ≤ 1000) (h : Made5 l) : Stay next (nextV next E l) E (byId (given next E l)) l := by
  have hd := asc_dif h.asc
  have hl := h.len
  have hle := nextV_le next E l
  have hc1 := upd_chk hc hd (by omega)
  have hs := given_same (next' := nextV next E l) hc1
  rw [given_items] at hs
  refine ⟨hc1, by unfold nextV; omega, by omega, by rw [byId_len, given_len], fun a ha => stays_find hc hc1 ha, ⟨by rw [hs.1], hs.2⟩, fun p hp => ?_⟩
  rw [← given_items next E l]
  exact List.mem_map.2 ⟨p, (byId_perm _).mem_iff.1 hp, rfl⟩
end Go.Proofs.Ytcplhnpblpmalaa.Idn
