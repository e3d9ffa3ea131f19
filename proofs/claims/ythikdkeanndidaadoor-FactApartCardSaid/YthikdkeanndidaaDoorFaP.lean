/-
  PLAIN: numerals that are read back, and packs of strings.
-/
import Derived.Lib.AtoiAllCases
import Derived.Lib.ItoaLen
import Derived.Lib.ItoaMem
import Derived.IntWalk
namespace Go.Proofs.YthikdkeanndidaaDoor.Fa
open Go.Lib
set_option linter.unusedVariables false

/-- a digit -/
def IsD (c : UInt8) : Prop := 48 ≤ c.toNat ∧ c.toNat ≤ 57

theorem isD_of (d : Nat) (h : d < 10) : IsD (UInt8.ofNat (48 + d)) ∧ (UInt8.ofNat (48 + d)).toNat = 48 + d := by
  have e : (UInt8.ofNat (48 + d)).toNat = 48 + d := by simp; omega
  exact ⟨⟨by omega, by omega⟩, e⟩

theorem dec_snoc (u : Nat) (h : ¬ u < 10) : decDigits u = decDigits (u / 10) ++ [UInt8.ofNat (48 + u % 10)] := by
  rw [decDigits, dif_neg h]

theorem dec_all (u : Nat) : ∀ c : UInt8, c ∈ decDigits u → IsD c := by
  induction u using Nat.strongRecOn with
  | ind u ih =>
    intro c hc
    by_cases h : u < 10
    · rw [decDigits_one h, List.mem_singleton] at hc
      subst hc
      exact (isD_of u h).1
    · rw [dec_snoc u h, List.mem_append, List.mem_singleton] at hc
      rcases hc with hc | hc
      · exact ih (u / 10) (by omega) c hc
      · subst hc
        exact (isD_of (u % 10) (by omega)).1

theorem dec_ne (u : Nat) : decDigits u ≠ [] := by
  by_cases h : u < 10
  · rw [decDigits_one h]; simp
  · rw [dec_snoc u h]; simp

theorem parse_app : ∀ (l r : List UInt8) (a : Nat), parseUint10 a (l ++ r) = match parseUint10 a l with
    | .ok u => parseUint10 u r
    | e => e
  | [], r, a => by simp [parseUint10]
  | c :: l, r, a => by
    simp only [List.cons_append, parseUint10]
    split
    · split
      · rfl
      · split
        · rfl
        · exact parse_app l r _
    · rfl

theorem parse_dec (u : Nat) : u < 18446744073709551616 → parseUint10 0 (decDigits u) = .ok u := by
  induction u using Nat.strongRecOn with
  | ind u ih =>
    intro hu
    by_cases h : u < 10
    · rw [decDigits_one h]
      obtain ⟨h1, h2⟩ := isD_of u h
      unfold IsD at h1
      simp only [parseUint10]
      rw [if_pos h1, if_neg (by omega), if_neg (by omega), h2]
      congr 1
      omega
    · rw [dec_snoc u h, parse_app, ih (u / 10) (by omega) (by omega)]
      obtain ⟨h1, h2⟩ := isD_of (u % 10) (by omega)
      unfold IsD at h1
      simp only [parseUint10]
      rw [if_pos h1, if_neg (by omega), if_neg (by omega), h2]
      congr 1
      omega

theorem atoi_dec (u : Nat) (h : u < 9223372036854775808) : atoiAll (decDigits u) = .ok (u : Int) := by
  have hp := parse_dec u (by omega)
  have ha := dec_all u
  have hn := dec_ne u
  generalize decDigits u = l at *
  match l, hn with
  | c :: r, _ =>
    have hc := ha c (by simp)
    rw [atoiAll_plain c r (by have := hc.1; omega) (by have := hc.1; omega)]
    unfold parseMag
    rw [if_neg (by simp), hp]
    simp only [signless]
    rw [if_neg (by omega)]

theorem atoi_itoa (v : Int) (h0 : -9223372036854775808 ≤ v) (h1 : v ≤ 9223372036854775807) : atoiAll (itoa v) = .ok v := by
  unfold itoa
  split
  · rename_i hneg
    rw [atoiAll_minus]
    unfold parseMag
    rw [if_neg (dec_ne _), parse_dec v.natAbs (by omega)]
    simp only [signed]
    rw [if_neg (by omega)]
    congr 1
    omega
  · rw [atoi_dec v.toNat (by omega)]
    congr 1
    omega

/-- the number that a string is, as it is written -/
def numOf (l : List UInt8) : Option Int :=
  match atoiAll l with
  | .ok v => if itoa v = l then some v else none
  | _ => none

theorem numOf_itoa (v : Int) (h0 : -9223372036854775808 ≤ v) (h1 : v ≤ 9223372036854775807) : numOf (itoa v) = some v := by
  unfold numOf
  rw [atoi_itoa v h0 h1]
  simp

theorem numOf_some {l : List UInt8} {v : Int} (h : numOf l = some v) : itoa v = l ∧ -9223372036854775808 ≤ v ∧ v ≤ 9223372036854775807 := by
  unfold numOf at h
  cases ha : atoiAll l with
  | ok u =>
    rw [ha] at h
    simp only at h
    split at h
    · rename_i e
      injection h with h
      subst h
      exact ⟨e, atoiAll_bounds ha⟩
    · cases h
  | range => rw [ha] at h; cases h
  | _ => rw [ha] at h; cases h

theorem numOf_bad {l : List UInt8} {v : Int} (h : atoiAll l = .ok v) (hne : itoa v ≠ l) : numOf l = none := by
  unfold numOf; rw [h]; simp [hne]
theorem numOf_not {l : List UInt8} (h : ∀ v, atoiAll l ≠ .ok v) : numOf l = none := by
  unfold numOf
  split
  · rename_i v e; exact absurd e (h v)
  · rfl
theorem numOf_ok {l : List UInt8} {v : Int} (h : atoiAll l = .ok v) (he : itoa v = l) : numOf l = some v := by
  unfold numOf; rw [h]; simp [he]

/-! ### Packs -/

def packL : List ByteArray → List UInt8
  | [] => []
  | x :: L => itoa (x.size : Int) ++ 58 :: (x.data.toList ++ packL L)

theorem packL_append : ∀ A B : List ByteArray, packL (A ++ B) = packL A ++ packL B
  | [], B => by simp [packL]
  | a :: A, B => by simp [packL, packL_append A B]

theorem packL_snoc (A : List ByteArray) (x : ByteArray) : packL (A ++ [x]) = packL A ++ (itoa (x.size : Int) ++ 58 :: x.data.toList) := by
  rw [packL_append]; simp [packL]

theorem len_data (x : ByteArray) : x.data.toList.length = x.size := by simp

theorem packL_cons_len (x : ByteArray) (L : List ByteArray) : x.size < (packL (x :: L)).length := by
  simp only [packL, List.length_append, List.length_cons, len_data]; omega

theorem col_not (n : Nat) : (58 : UInt8) ∉ itoa (n : Int) := by
  rw [itoa_nonneg]
  intro h
  have := (dec_all n _ h).2
  simp at this

theorem split_unique : ∀ {a a' b b' : List UInt8}, a ++ 58 :: b = a' ++ 58 :: b' → (58 : UInt8) ∉ a → (58 : UInt8) ∉ a' → a = a' ∧ b = b'
  | [], [], b, b', h, _, _ => by simp at h; exact ⟨rfl, h⟩
  | [], c :: a', b, b', h, _, h2 => by simp at h; exact absurd h.1 (fun e => h2 (by simp [← e]))
  | c :: a, [], b, b', h, h1, _ => by simp at h; exact absurd h.1 (fun e => h1 (by simp [e]))
  | c :: a, c' :: a', b, b', h, h1, h2 => by
    simp only [List.cons_append, List.cons.injEq] at h
    obtain ⟨e1, e2⟩ := split_unique h.2 (fun e => h1 (List.mem_cons_of_mem _ e)) (fun e => h2 (List.mem_cons_of_mem _ e))
    exact ⟨by rw [h.1, e1], e2⟩

theorem pack_head {d b : List UInt8} (hd : (58 : UInt8) ∉ d) {x : ByteArray} {L : List ByteArray} (h : packL (x :: L) = d ++ 58 :: b) :
    d = itoa (x.size : Int) ∧ b = x.data.toList ++ packL L := by
  obtain ⟨e1, e2⟩ := split_unique (show itoa (x.size : Int) ++ 58 :: (x.data.toList ++ packL L) = d ++ 58 :: b from h) (col_not _) hd
  exact ⟨e1.symm, e2.symm⟩

theorem itoa_inj {m n : Nat} (hm : m < 9223372036854775808) (hn : n < 9223372036854775808) (h : itoa (m : Int) = itoa (n : Int)) : m = n := by
  have e1 := atoi_itoa (m : Int) (by omega) (by omega)
  have e2 := atoi_itoa (n : Int) (by omega) (by omega)
  rw [h, e2] at e1
  injection e1 with e1
  omega

/-- what comes behind a pack's first strings is the pack of the others -/
theorem pack_tail : ∀ (A : List ByteArray) {L : List ByteArray} {r : List UInt8}, (packL L).length < 9223372036854775808 → packL L = packL A ++ r → ∃ L', L = A ++ L' ∧ packL L' = r
  | [], L, r, _, h => ⟨L, rfl, by simpa [packL] using h⟩
  | a :: A, [], r, _, h => by simp [packL] at h
  | a :: A, x :: L, r, hlen, h => by
    have h1 : packL (x :: L) = itoa (a.size : Int) ++ 58 :: (a.data.toList ++ (packL A ++ r)) := by rw [h]; simp [packL]
    obtain ⟨e1, e2⟩ := pack_head (col_not _) h1
    have b1 := packL_cons_len x L
    have b2 : a.size < (packL (x :: L)).length := by
      rw [h1]
      simp only [List.length_append, List.length_cons, len_data]
      omega
    have es : a.size = x.size := itoa_inj (by omega) (by omega) e1
    obtain ⟨e3, e4⟩ := List.append_inj e2 (by rw [len_data, len_data, es])
    have ea : a = x := ByteArray.ext (Array.toList_inj.1 e3)
    subst ea
    obtain ⟨L', rfl, h4⟩ := pack_tail A (by simp only [packL, List.length_append, List.length_cons] at hlen; omega) e4.symm
    exact ⟨L', rfl, h4⟩

theorem pack_inj {A B : List ByteArray} (hlen : (packL A).length < 9223372036854775808) (h : packL A = packL B) : A = B := by
  obtain ⟨L', e1, e2⟩ := pack_tail B (r := []) hlen (by simpa using h)
  match L', e1, e2 with
  | [], e1, _ => simpa using e1
  | x :: L', _, e2 => simp [packL] at e2

/-- no pack: it has no colon -/
theorem bad_colon {r : List UInt8} (hr : r ≠ []) (h : (58 : UInt8) ∉ r) (L : List ByteArray) : packL L ≠ r := by
  intro e
  match L, e with
  | [], e => exact hr e.symm
  | x :: L, e => exact h (by rw [← e]; simp [packL])

/-- no pack: what stands before its first colon is no number, or too great a one -/
theorem bad_head {d b : List UInt8} (hd : (58 : UInt8) ∉ d) (hbad : ∀ n : Nat, n ≤ b.length → itoa (n : Int) ≠ d) (L : List ByteArray) : packL L ≠ d ++ 58 :: b := by
  intro e
  match L, e with
  | [], e => simp [packL] at e
  | x :: L, e =>
    obtain ⟨e1, e2⟩ := pack_head hd e
    refine hbad x.size ?_ e1.symm
    rw [e2, List.length_append, len_data]
    omega

/-- no pack: what stands before its first colon is too long -/
theorem bad_long {r : List UInt8} (hlen : r.length < 9223372036854775808) (h20 : 21 ≤ r.length) (h : (58 : UInt8) ∉ r.take 21) (L : List ByteArray) : packL L ≠ r := by
  intro e
  match L, e with
  | [], e => rw [← e] at h20; simp [packL] at h20
  | x :: L, e =>
    have b1 := packL_cons_len x L
    rw [e] at b1
    have b2 : (itoa (x.size : Int)).length ≤ 20 := by
      rw [itoa_nonneg, decDigits_length]
      exact nDigits_le20 _ (by omega)
    apply h
    rw [← e]
    have : packL (x :: L) = (itoa (x.size : Int) ++ [58]) ++ (x.data.toList ++ packL L) := by simp [packL]
    rw [this, List.take_append, List.mem_append]
    left
    rw [List.take_of_length_le (by simp; omega)]
    simp

/-- what reading a pack must say: the strings, or that there are none -/
def Unp (s : List UInt8) (o : Option (List ByteArray)) : Prop :=
  match o with
  | some L => packL L = s
  | none => ∀ L, packL L ≠ s

theorem Unp.same {s : List UInt8} {o o' : Option (List ByteArray)} (hlen : s.length < 9223372036854775808) (h : Unp s o) (h' : Unp s o') : o = o' := by
  match o, o', h, h' with
  | some A, some B, h, h' =>
    have e : packL A = s := h
    have e' : packL B = s := h'
    rw [pack_inj (by rw [e]; exact hlen) (e.trans e'.symm)]
  | some A, none, h, h' => exact absurd h (h' A)
  | none, some B, h, h' => exact absurd h' (h B)
  | none, none, _, _ => rfl

/-- what was read so far, and what is left -/
theorem Unp.fail {s r : List UInt8} {A : List ByteArray} (hlen : s.length < 9223372036854775808) (h : s = packL A ++ r) (hbad : ∀ L, packL L ≠ r) : Unp s none := by
  intro L e
  obtain ⟨L', _, e2⟩ := pack_tail A (by rw [e]; exact hlen) (e.trans h)
  exact hbad L' e2

/-- one string more -/
theorem unp_step {s d b : List UInt8} {A : List ByteArray} {n : Nat} (h : s = packL A ++ (d ++ 58 :: b)) (hd : itoa (n : Int) = d) (hn : n ≤ b.length) (x : ByteArray) (hx : x.data.toList = b.take n) :
    s = packL (A ++ [x]) ++ b.drop n := by
  have hs : x.size = n := by rw [← len_data, hx, List.length_take]; omega
  rw [h, packL_snoc, hs, hd, hx]
  simp

/-! ### The value of a string's digits -/

theorem nd_le : ∀ (k u : Nat), 1 ≤ k → u < 10 ^ k → nDigits u ≤ k := by
  intro k
  induction k with
  | zero => intro u h; omega
  | succ k ih =>
    intro u _ hu
    rw [nDigits]
    split
    · omega
    · by_cases hk : 1 ≤ k
      · have := ih (u / 10) hk (by rw [Nat.pow_succ] at hu; omega)
        omega
      · obtain rfl : k = 0 := by omega
        simp at hu
        omega
theorem itoa_len (v : Int) (h0 : -9223372036854775808 ≤ v) (h1 : v ≤ 9223372036854775807) : (itoa v).length ≤ 20 ∧ 0 < (itoa v).length := by
  have hb : ∀ u : Nat, u ≤ 9223372036854775808 → (decDigits u).length ≤ 19 ∧ 0 < (decDigits u).length := by
    intro u hu
    refine ⟨?_, List.length_pos_iff.2 (dec_ne u)⟩
    rw [decDigits_length]
    exact nd_le 19 u (by omega) (by omega)
  unfold itoa
  split
  · have := hb v.natAbs (by omega)
    simp only [List.length_cons]
    omega
  · have := hb v.toNat (by omega)
    omega

/-- what the digits of a string make -/
def dv (a : Nat) (l : List UInt8) : Nat := l.foldl (fun a c => if 48 ≤ c.toNat ∧ c.toNat ≤ 57 then a * 10 + (c.toNat - 48) else a) a
theorem dv_snoc (a : Nat) (l : List UInt8) (c : UInt8) : dv a (l ++ [c]) = if 48 ≤ c.toNat ∧ c.toNat ≤ 57 then dv a l * 10 + (c.toNat - 48) else dv a l := by
  unfold dv; rw [List.foldl_append]; rfl
theorem dv_dec (u : Nat) : dv 0 (decDigits u) = u := by
  induction u using Nat.strongRecOn with
  | ind u ih =>
    by_cases h : u < 10
    · rw [decDigits_one h]
      obtain ⟨h1, h2⟩ := isD_of u h
      unfold IsD at h1
      show (if _ then _ else _) = u
      rw [if_pos h1, h2]
      omega
    · rw [dec_snoc u h, dv_snoc, ih (u / 10) (by omega)]
      obtain ⟨h1, h2⟩ := isD_of (u % 10) (by omega)
      unfold IsD at h1
      rw [if_pos h1, h2]
      omega
theorem dv_itoa (v : Int) : dv 0 (itoa v) = v.natAbs := by
  unfold itoa
  split
  · show dv (if (48 : Nat) ≤ (45 : UInt8).toNat ∧ (45 : UInt8).toNat ≤ 57 then _ else 0) (decDigits v.natAbs) = _
    rw [if_neg (by decide), dv_dec]
  · rw [dv_dec]; omega
theorem head_itoa (v : Int) : (itoa v).head? = some 45 ↔ v < 0 := by
  unfold itoa
  split
  · simp; assumption
  · constructor
    · intro h
      have ha := dec_all v.toNat
      generalize decDigits v.toNat = l at *
      match l, h with
      | c :: r, h =>
        simp at h
        subst h
        have := (ha 45 (by simp)).1
        simp at this
    · intro h; omega

theorem wrap_step (a d : Int) : Go.RowKit.wrap64 (Go.RowKit.wrap64 (Go.RowKit.wrap64 a * 10) - d) = Go.RowKit.wrap64 (a * 10 - d) := by
  unfold Go.RowKit.wrap64
  omega

/-- what reading a number must say -/
theorem numOf_none_ne {l : List UInt8} (h : numOf l = none) (v : Int) (h0 : -9223372036854775808 ≤ v) (h1 : v ≤ 9223372036854775807) : itoa v ≠ l := by
  intro e
  rw [← e, numOf_itoa v h0 h1] at h
  cases h
theorem numOf_long {l : List UInt8} (h : 20 < l.length) : numOf l = none := by
  cases hn : numOf l with
  | none => rfl
  | some v =>
    obtain ⟨e, h0, h1⟩ := numOf_some hn
    have := itoa_len v h0 h1
    rw [e] at this
    omega
theorem numOf_nil : numOf [] = none := rfl
end Go.Proofs.YthikdkeanndidaaDoor.Fa
