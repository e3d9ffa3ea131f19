/-
  PLAIN: numerals that are read back, and packs of strings.
-/
import Derived.Lib.AtoiAllCases
import Derived.Lib.ItoaLen
import Derived.Lib.ItoaMem
import Derived.IntWalk
import Derived.Test.YtbnnokibjccdaaaBase
import Derived.Test.YtbnnokibjccdaaaChecked
import Derived.WalkKit
import Derived.WalkSpells
import Derived.WalkLawsBesides
import Derived.BigQuiet
import Derived.Lib.Hide
import Derived.KernelRfl
import Derived.Test.YtbnnokibjccdaaaLw
import Derived.Lib.AppendStr
import Derived.Laws.IdiomStrings
import Derived.Shelf.Strings.Builder1
import Derived.Test.YtbnnokibjccdaaaMod
import Derived.Lib.ConvBytes
import Derived.Lib.AtoiErrMem
namespace Go.Proofs.Ytbnnokibjccdaaa.Fa
open Go.Lib
set_option linter.unusedVariables false

/-- a digit -/
def IsD (c : UInt8) : Prop := 48 ≤ c.toNat ∧ c.toNat ≤ 57

theorem isD_of (d : Nat) (h : d < 10) : IsD (UInt8.ofNat (48 + d)) ∧ (UInt8.ofNat (48 + d)).toNat = 48 + d := by
  have e : (UInt8.ofNat (48 + d)).toNat = 48 + d := by simp; omega
  exact ⟨⟨by omega, by omega⟩, e⟩

theorem dec_snoc (u : Nat) (h : ¬ u < 10) : decDigits u = decDigits (u / 10) ++ [UInt8.ofNat (48 + u % 10)] := by
  rw [decDigits, dif_neg h]

theorem dec_all (u : Nat) : ∀ c : UInt8, c ∈ decDigits u → IsD c := by
  induction u using Nat.strongRecOn with
  | ind u ih =>
    intro c hc
    by_cases h : u < 10
    · rw [decDigits_one h, List.mem_singleton] at hc
      subst hc
      exact (isD_of u h).1
    · rw [dec_snoc u h, List.mem_append, List.mem_singleton] at hc
      rcases hc with hc | hc
      · exact ih (u / 10) (by omega) c hc
      · subst hc
        exact (isD_of (u % 10) (by omega)).1

theorem dec_ne (u : Nat) : decDigits u ≠ [] := by
  by_cases h : u < 10
  · rw [decDigits_one h]; simp
  · rw [dec_snoc u h]; simp

theorem parse_app : ∀ (l r : List UInt8) (a : Nat), parseUint10 a (l ++ r) = match parseUint10 a l with
    | .ok u => parseUint10 u r
    | e => e
  | [], r, a => by simp [parseUint10]
  | c :: l, r, a => by
    simp only [List.cons_append, parseUint10]
    split
    · split
      · rfl
      · split
        · rfl
        · exact parse_app l r _
    · rfl

theorem parse_dec (u : Nat) : u < 18446744073709551616 → parseUint10 0 (decDigits u) = .ok u := by
  induction u using Nat.strongRecOn with
  | ind u ih =>
    intro hu
    by_cases h : u < 10
    · rw [decDigits_one h]
      obtain ⟨h1, h2⟩ := isD_of u h
      unfold IsD at h1
      simp only [parseUint10]
      rw [if_pos h1, if_neg (by omega), if_neg (by omega), h2]
      congr 1
      omega
    · rw [dec_snoc u h, parse_app, ih (u / 10) (by omega) (by omega)]
      obtain ⟨h1, h2⟩ := isD_of (u % 10) (by omega)
      unfold IsD at h1
      simp only [parseUint10]
      rw [if_pos h1, if_neg (by omega), if_neg (by omega), h2]
      congr 1
      omega

theorem atoi_dec (u : Nat) (h : u < 9223372036854775808) : atoiAll (decDigits u) = .ok (u : Int) := by
  have hp := parse_dec u (by omega)
  have ha := dec_all u
  have hn := dec_ne u
  generalize decDigits u = l at *
  match l, hn with
  | c :: r, _ =>
    have hc := ha c (by simp)
    rw [atoiAll_plain c r (by have := hc.1; omega) (by have := hc.1; omega)]
    unfold parseMag
    rw [if_neg (by simp), hp]
    simp only [signless]
    rw [if_neg (by omega)]

theorem atoi_itoa (v : Int) (h0 : -9223372036854775808 ≤ v) (h1 : v ≤ 9223372036854775807) : atoiAll (itoa v) = .ok v := by
  unfold itoa
  split
  · rename_i hneg
    rw [atoiAll_minus]
    unfold parseMag
    rw [if_neg (dec_ne _), parse_dec v.natAbs (by omega)]
    simp only [signed]
    rw [if_neg (by omega)]
    congr 1
    omega
  · rw [atoi_dec v.toNat (by omega)]
    congr 1
    omega

/-- the number that a string is, as it is written -/
def numOf (l : List UInt8) : Option Int :=
  match atoiAll l with
  | .ok v => if itoa v = l then some v else none
  | _ => none

theorem numOf_itoa (v : Int) (h0 : -9223372036854775808 ≤ v) (h1 : v ≤ 9223372036854775807) : numOf (itoa v) = some v := by
  unfold numOf
  rw [atoi_itoa v h0 h1]
  simp

theorem numOf_some {l : List UInt8} {v : Int} (h : numOf l = some v) : itoa v = l ∧ -9223372036854775808 ≤ v ∧ v ≤ 9223372036854775807 := by
  unfold numOf at h
  cases ha : atoiAll l with
  | ok u =>
    rw [ha] at h
    simp only at h
    split at h
    · rename_i e
      injection h with h
      subst h
      exact ⟨e, atoiAll_bounds ha⟩
    · cases h
  | range => rw [ha] at h; cases h
  | _ => rw [ha] at h; cases h

theorem numOf_bad {l : List UInt8} {v : Int} (h : atoiAll l = .ok v) (hne : itoa v ≠ l) : numOf l = none := by
  unfold numOf; rw [h]; simp [hne]
theorem numOf_not {l : List UInt8} (h : ∀ v, atoiAll l ≠ .ok v) : numOf l = none := by
  unfold numOf
  split
  · rename_i v e; exact absurd e (h v)
  · rfl
theorem numOf_ok {l : List UInt8} {v : Int} (h : atoiAll l = .ok v) (he : itoa v = l) : numOf l = some v := by
  unfold numOf; rw [h]; simp [he]

/-! ### Packs -/

def packL : List ByteArray → List UInt8
  | [] => []
  | x :: L => itoa (x.size : Int) ++ 58 :: (x.data.toList ++ packL L)

theorem packL_append : ∀ A B : List ByteArray, packL (A ++ B) = packL A ++ packL B
  | [], B => by simp [packL]
  | a :: A, B => by simp [packL, packL_append A B]

theorem packL_snoc (A : List ByteArray) (x : ByteArray) : packL (A ++ [x]) = packL A ++ (itoa (x.size : Int) ++ 58 :: x.data.toList) := by
  rw [packL_append]; simp [packL]

theorem len_data (x : ByteArray) : x.data.toList.length = x.size := by simp

theorem packL_cons_len (x : ByteArray) (L : List ByteArray) : x.size < (packL (x :: L)).length := by
  simp only [packL, List.length_append, List.length_cons, len_data]; omega

theorem col_not (n : Nat) : (58 : UInt8) ∉ itoa (n : Int) := by
  rw [itoa_nonneg]
  intro h
  have := (dec_all n _ h).2
  simp at this

theorem split_unique : ∀ {a a' b b' : List UInt8}, a ++ 58 :: b = a' ++ 58 :: b' → (58 : UInt8) ∉ a → (58 : UInt8) ∉ a' → a = a' ∧ b = b'
  | [], [], b, b', h, _, _ => by simp at h; exact ⟨rfl, h⟩
  | [], c :: a', b, b', h, _, h2 => by simp at h; exact absurd h.1 (fun e => h2 (by simp [← e]))
  | c :: a, [], b, b', h, h1, _ => by simp at h; exact absurd h.1 (fun e => h1 (by simp [e]))
  | c :: a, c' :: a', b, b', h, h1, h2 => by
    simp only [List.cons_append, List.cons.injEq] at h
    obtain ⟨e1, e2⟩ := split_unique h.2 (fun e => h1 (List.mem_cons_of_mem _ e)) (fun e => h2 (List.mem_cons_of_mem _ e))
    exact ⟨by rw [h.1, e1], e2⟩

theorem pack_head {d b : List UInt8} (hd : (58 : UInt8) ∉ d) {x : ByteArray} {L : List ByteArray} (h : packL (x :: L) = d ++ 58 :: b) :
    d = itoa (x.size : Int) ∧ b = x.data.toList ++ packL L := by
  obtain ⟨e1, e2⟩ := split_unique (show itoa (x.size : Int) ++ 58 :: (x.data.toList ++ packL L) = d ++ 58 :: b from h) (col_not _) hd
  exact ⟨e1.symm, e2.symm⟩

theorem itoa_inj {m n : Nat} (hm : m < 9223372036854775808) (hn : n < 9223372036854775808) (h : itoa (m : Int) = itoa (n : Int)) : m = n := by
  have e1 := atoi_itoa (m : Int) (by omega) (by omega)
  have e2 := atoi_itoa (n : Int) (by omega) (by omega)
  rw [h, e2] at e1
  injection e1 with e1
  omega

/-- what comes behind a pack's first strings is the pack of the others -/
theorem pack_tail : ∀ (A : List ByteArray) {L : List ByteArray} {r : List UInt8}, (packL L).length < 9223372036854775808 → packL L = packL A ++ r → ∃ L', L = A ++ L' ∧ packL L' = r
  | [], L, r, _, h => ⟨L, rfl, by simpa [packL] using h⟩
  | a :: A, [], r, _, h => by simp [packL] at h
  | a :: A, x :: L, r, hlen, h => by
    have h1 : packL (x :: L) = itoa (a.size : Int) ++ 58 :: (a.data.toList ++ (packL A ++ r)) := by rw [h]; simp [packL]
    obtain ⟨e1, e2⟩ := pack_head (col_not _) h1
    have b1 := packL_cons_len x L
    have b2 : a.size < (packL (x :: L)).length := by
      rw [h1]
      simp only [List.length_append, List.length_cons, len_data]
      omega
    have es : a.size = x.size := itoa_inj (by omega) (by omega) e1
    obtain ⟨e3, e4⟩ := List.append_inj e2 (by rw [len_data, len_data, es])
    have ea : a = x := ByteArray.ext (Array.toList_inj.1 e3)
    subst ea
    obtain ⟨L', rfl, h4⟩ := pack_tail A (by simp only [packL, List.length_append, List.length_cons] at hlen; omega) e4.symm
    exact ⟨L', rfl, h4⟩

theorem pack_inj {A B : List ByteArray} (hlen : (packL A).length < 9223372036854775808) (h : packL A = packL B) : A = B := by
  obtain ⟨L', e1, e2⟩ := pack_tail B (r := []) hlen (by simpa using h)
  match L', e1, e2 with
  | [], e1, _ => simpa using e1
  | x :: L', _, e2 => simp [packL] at e2

/-- no pack: it has no colon -/
theorem bad_colon {r : List UInt8} (hr : r ≠ []) (h : (58 : UInt8) ∉ r) (L : List ByteArray) : packL L ≠ r := by
  intro e
  match L, e with
  | [], e => exact hr e.symm
  | x :: L, e => exact h (by rw [← e]; simp [packL])

/-- no pack: what stands before its first colon is no number, or too great a one -/
theorem bad_head {d b : List UInt8} (hd : (58 : UInt8) ∉ d) (hbad : ∀ n : Nat, n ≤ b.length → itoa (n : Int) ≠ d) (L : List ByteArray) : packL L ≠ d ++ 58 :: b := by
  intro e
  match L, e with
  | [], e => simp [packL] at e
  | x :: L, e =>
    obtain ⟨e1, e2⟩ := pack_head hd e
    refine hbad x.size ?_ e1.symm
    rw [e2, List.length_append, len_data]
    omega

/-- no pack: what stands before its first colon is too long -/
theorem bad_long {r : List UInt8} (hlen : r.length < 9223372036854775808) (h20 : 21 ≤ r.length) (h : (58 : UInt8) ∉ r.take 21) (L : List ByteArray) : packL L ≠ r := by
  intro e
  match L, e with
  | [], e => rw [← e] at h20; simp [packL] at h20
  | x :: L, e =>
    have b1 := packL_cons_len x L
    rw [e] at b1
    have b2 : (itoa (x.size : Int)).length ≤ 20 := by
      rw [itoa_nonneg, decDigits_length]
      exact nDigits_le20 _ (by omega)
    apply h
    rw [← e]
    have : packL (x :: L) = (itoa (x.size : Int) ++ [58]) ++ (x.data.toList ++ packL L) := by simp [packL]
    rw [this, List.take_append, List.mem_append]
    left
    rw [List.take_of_length_le (by simp; omega)]
    simp

/-- what reading a pack must say: the strings, or that there are none -/
def Unp (s : List UInt8) (o : Option (List ByteArray)) : Prop :=
  match o with
  | some L => packL L = s
  | none => ∀ L, packL L ≠ s

theorem Unp.same {s : List UInt8} {o o' : Option (List ByteArray)} (hlen : s.length < 9223372036854775808) (h : Unp s o) (h' : Unp s o') : o = o' := by
  match o, o', h, h' with
  | some A, some B, h, h' =>
    have e : packL A = s := h
    have e' : packL B = s := h'
    rw [pack_inj (by rw [e]; exact hlen) (e.trans e'.symm)]
  | some A, none, h, h' => exact absurd h (h' A)
  | none, some B, h, h' => exact absurd h' (h B)
  | none, none, _, _ => rfl

/-- what was read so far, and what is left -/
theorem Unp.fail {s r : List UInt8} {A : List ByteArray} (hlen : s.length < 9223372036854775808) (h : s = packL A ++ r) (hbad : ∀ L, packL L ≠ r) : Unp s none := by
  intro L e
  obtain ⟨L', _, e2⟩ := pack_tail A (by rw [e]; exact hlen) (e.trans h)
  exact hbad L' e2

/-- one string more -/
theorem unp_step {s d b : List UInt8} {A : List ByteArray} {n : Nat} (h : s = packL A ++ (d ++ 58 :: b)) (hd : itoa (n : Int) = d) (hn : n ≤ b.length) (x : ByteArray) (hx : x.data.toList = b.take n) :
    s = packL (A ++ [x]) ++ b.drop n := by
  have hs : x.size = n := by rw [← len_data, hx, List.length_take]; omega
  rw [h, packL_snoc, hs, hd, hx]
  simp

/-! ### The value of a string's digits -/

theorem nd_le : ∀ (k u : Nat), 1 ≤ k → u < 10 ^ k → nDigits u ≤ k := by
  intro k
  induction k with
  | zero => intro u h; omega
  | succ k ih =>
    intro u _ hu
    rw [nDigits]
    split
    · omega
    · by_cases hk : 1 ≤ k
      · have := ih (u / 10) hk (by rw [Nat.pow_succ] at hu; omega)
        omega
      · obtain rfl : k = 0 := by omega
        simp at hu
        omega
theorem itoa_len (v : Int) (h0 : -9223372036854775808 ≤ v) (h1 : v ≤ 9223372036854775807) : (itoa v).length ≤ 20 ∧ 0 < (itoa v).length := by
  have hb : ∀ u : Nat, u ≤ 9223372036854775808 → (decDigits u).length ≤ 19 ∧ 0 < (decDigits u).length := by
    intro u hu
    refine ⟨?_, List.length_pos_iff.2 (dec_ne u)⟩
    rw [decDigits_length]
    exact nd_le 19 u (by omega) (by omega)
  unfold itoa
  split
  · have := hb v.natAbs (by omega)
    simp only [List.length_cons]
    omega
  · have := hb v.toNat (by omega)
    omega

/-- what the digits of a string make -/
def dv (a : Nat) (l : List UInt8) : Nat := l.foldl (fun a c => if 48 ≤ c.toNat ∧ c.toNat ≤ 57 then a * 10 + (c.toNat - 48) else a) a
theorem dv_snoc (a : Nat) (l : List UInt8) (c : UInt8) : dv a (l ++ [c]) = if 48 ≤ c.toNat ∧ c.toNat ≤ 57 then dv a l * 10 + (c.toNat - 48) else dv a l := by
  unfold dv; rw [List.foldl_append]; rfl
theorem dv_dec (u : Nat) : dv 0 (decDigits u) = u := by
  induction u using Nat.strongRecOn with
  | ind u ih =>
    by_cases h : u < 10
    · rw [decDigits_one h]
      obtain ⟨h1, h2⟩ := isD_of u h
      unfold IsD at h1
      show (if _ then _ else _) = u
      rw [if_pos h1, h2]
      omega
    · rw [dec_snoc u h, dv_snoc, ih (u / 10) (by omega)]
      obtain ⟨h1, h2⟩ := isD_of (u % 10) (by omega)
      unfold IsD at h1
      rw [if_pos h1, h2]
      omega
theorem dv_itoa (v : Int) : dv 0 (itoa v) = v.natAbs := by
  unfold itoa
  split
  · show dv (if (48 : Nat) ≤ (45 : UInt8).toNat ∧ (45 : UInt8).toNat ≤ 57 then _ else 0) (decDigits v.natAbs) = _
    rw [if_neg (by decide), dv_dec]
  · rw [dv_dec]; omega
theorem head_itoa (v : Int) : (itoa v).head? = some 45 ↔ v < 0 := by
  unfold itoa
  split
  · simp; assumption
  · constructor
    · intro h
      have ha := dec_all v.toNat
      generalize decDigits v.toNat = l at *
      match l, h with
      | c :: r, h =>
        simp at h
        subst h
        have := (ha 45 (by simp)).1
        simp at this
    · intro h; omega

theorem wrap_step (a d : Int) : Go.RowKit.wrap64 (Go.RowKit.wrap64 (Go.RowKit.wrap64 a * 10) - d) = Go.RowKit.wrap64 (a * 10 - d) := by
  unfold Go.RowKit.wrap64
  omega

/-- what reading a number must say -/
theorem numOf_none_ne {l : List UInt8} (h : numOf l = none) (v : Int) (h0 : -9223372036854775808 ≤ v) (h1 : v ≤ 9223372036854775807) : itoa v ≠ l := by
  intro e
  rw [← e, numOf_itoa v h0 h1] at h
  cases h
theorem numOf_long {l : List UInt8} (h : 20 < l.length) : numOf l = none := by
  cases hn : numOf l with
  | none => rfl
  | some v =>
    obtain ⟨e, h0, h1⟩ := numOf_some hn
    have := itoa_len v h0 h1
    rw [e] at this
    omega
theorem numOf_nil : numOf [] = none := rfl
end Go.Proofs.Ytbnnokibjccdaaa.Fa

/-
  CONTRACTS: numbers in decimal: the reference's Digits and ReadDigits.
-/
namespace Go.Proofs.Ytbnnokibjccdaaa
open Go Go.RowKit
set_option linter.unusedVariables false
set_option linter.unusedSimpArgs false

/-- string([]byte{c}) -/
theorem byteText (w : World) (c : Nat) (hc : c < 256) : (convert 38 9 (.slice (some ⟨w.heap.size, 0, none⟩) 1 1)).run Try.prog (w.alloc (.cells #[.int .u8 (c : Int)] 5)) = .ok (.string ⟨#[UInt8.ofNat c]⟩) (w.alloc (.cells #[.int .u8 (c : Int)] 5)) := by
  have h := run_convert_bytes_back (P := Try.prog) (w.alloc (.cells #[.int .u8 (c : Int)] 5)) 38 9 5 ⟨w.heap.size, 0, none⟩ 1 [UInt8.ofNat c] Try.underlying38 Try.underlying5 Try.underlying9 (by
    intro j hj
    simp at hj
    subst hj
    have e : (UInt8.ofNat c).toNat = c := by simp; omega
    rw [add_lit, cell_of_row _ w.heap.size (0 + 0) _ 5 (0, 0) (heap_alloc_new w _)]
    simp
    omega)
  simpa using h

/-- the bytes of a number -/
def itS (v : Int) : ByteArray := ⟨(Lib.itoa v).toArray⟩
theorem itS_size (v : Int) : (itS v).size = (Lib.itoa v).length := by simp [itS, ByteArray.size]
theorem itS_data (v : Int) : (itS v).data.toList = Lib.itoa v := by simp [itS]
theorem itS_nat (n : Nat) : itS (n : Int) = ⟨(Lib.decDigits n).toArray⟩ := by unfold itS; rw [Lib.itoa_nonneg]
theorem itS_one (n : Nat) (h : n < 10) : itS (n : Int) = ⟨#[UInt8.ofNat (48 + n)]⟩ := by rw [itS_nat, Lib.decDigits_one h]
theorem bytes_app (a b : List UInt8) : (⟨a.toArray⟩ : ByteArray) ++ ⟨b.toArray⟩ = ⟨(a ++ b).toArray⟩ := by
  apply ByteArray.ext
  simp
theorem itS_more (n : Nat) (h : ¬ n < 10) : itS ((n / 10 : Nat) : Int) ++ itS ((n % 10 : Nat) : Int) = itS (n : Int) := by
  rw [itS_nat, itS_nat, itS_nat, Fa.dec_snoc n h, bytes_app, Lib.decDigits_one (by omega : n % 10 < 10)]
theorem itS_neg (v : Int) (h : v < 0) : (⟨#[45]⟩ : ByteArray) ++ itS (-v) = itS v := by
  have e : Lib.itoa (-v) = Lib.decDigits v.natAbs := by
    have : -v = ((v.natAbs : Nat) : Int) := by omega
    rw [this, Lib.itoa_nonneg]
  unfold itS
  rw [e]
  have e2 : Lib.itoa v = 45 :: Lib.decDigits v.natAbs := by unfold Lib.itoa; rw [if_pos h]
  rw [e2]
  exact bytes_app [45] _

theorem rdig_one (n : Nat) (w : World) (h : n < 10) :
    Calls Try.prog 92 #[.int .i64 (n : Int)] w fun e w' => e = .returned (.string (itS (n : Int))) ∧ Below w.heap.size w w' := by
  have hlt : (n : Int) < 10 := by omega
  have hnn : ¬ (n : Int) < 0 := by omega
  have e1 : IntKind.i64.wrap (48 + (n : Int)) = 48 + (n : Int) := IntWalk.i64_in _ (by omega)
  have e2 : IntKind.u8.wrap (48 + (n : Int)) = 48 + (n : Int) := IntWalk.u8_in _ (by omega)
  have hcv := byteText w (48 + n) (by omega)
  have e3 : ((48 + n : Nat) : Int) = 48 + (n : Int) := by omega
  rw [e3] at hcv
  clear e3
  rw [itS_one n h]
  generalize UInt8.ofNat (48 + n) = c at *
  have HS : Hid (Below w.heap.size w (w.alloc (.cells #[.int .u8 (48 + (n : Int))] 5))) := (Below.refl _ _).alloc (Nat.le_refl _) _
  go_enter Try.func92, Try.ntmps92
  go_wp2_with fail
  go_ret
  exact ⟨rfl, HS.out⟩

theorem rdig_nat (n : Nat) : n ≤ 9223372036854775807 → ∀ w : World,
    Calls Try.prog 92 #[.int .i64 (n : Int)] w fun e w' => e = .returned (.string (itS (n : Int))) ∧ Below w.heap.size w w' := by
  induction n using Nat.strongRecOn with
  | ind n ih =>
    intro hn w
    by_cases h10 : n < 10
    · exact rdig_one n w h10
    · have hnn : ¬ (n : Int) < 0 := by omega
      have hge : ¬ (n : Int) < 10 := by omega
      have CA := fun w => ih (n / 10) (by omega) (by omega) w
      have CB := fun w => rdig_one (n % 10) w (by omega)
      have e0 : ((n / 10 : Nat) : Int) = (n : Int) / 10 := by omega
      have e1 : ((n % 10 : Nat) : Int) = (n : Int) % 10 := by omega
      have HE := Lib.hid (itS_more n h10)
      have z1 : (itS ((n / 10 : Nat) : Int)).size ≤ 20 := by rw [itS_size]; exact (Fa.itoa_len _ (by omega) (by omega)).1
      have z2 : (itS ((n % 10 : Nat) : Int)).size ≤ 20 := by rw [itS_size]; exact (Fa.itoa_len _ (by omega) (by omega)).1
      rw [e0] at CA HE z1
      rw [e1] at CB HE z2
      generalize itS ((n : Int) / 10) = s1 at *
      generalize itS ((n : Int) % 10) = s2 at *
      generalize itS (n : Int) = s at *
      have HA := Lib.hid CA
      have HB := Lib.hid CB
      clear CA CB e0 e1 ih h10
      go_enter Try.func92, Try.ntmps92
      go_wp2_with fail
      refine (HA.out _).mono ?_
      rintro e w1 ⟨rfl, hb1⟩
      have H1 := Lib.hid hb1
      clear hb1
      go_wp2_with fail
      refine (HB.out _).mono ?_
      rintro e w2 ⟨rfl, hb2⟩
      have H2 := Lib.hid hb2
      clear hb2
      go_wp2_with fail
      go_ret
      exact ⟨by rw [HE.out]; rfl, H1.out.trans (H2.out.mono H1.out.size)⟩

theorem rdig_any (v : Int) (h0 : -9223372036854775808 ≤ v) (h1 : v ≤ 9223372036854775807) (w : World) :
    Calls Try.prog 92 #[.int .i64 v] w fun e w' => e = .returned (.string (itS v)) ∧ Below w.heap.size w w' := by
  by_cases hv : 0 ≤ v
  · have := rdig_nat v.toNat (by omega) w
    rwa [show ((v.toNat : Nat) : Int) = v by omega] at this
  · by_cases hm : v = -9223372036854775808
    · subst hm
      have HE : Hid (itS (-9223372036854775808) = ⟨#[45, 57, 50, 50, 51, 51, 55, 50, 48, 51, 54, 56, 53, 52, 55, 55, 53, 56, 48, 56]⟩) := by
        show itS (-9223372036854775808) = _
        decide +kernel
      have hw : wrap64 9223372036854775808 = -9223372036854775808 := by unfold wrap64; omega
      go_enter Try.func92, Try.ntmps92
      go_wp2_with fail
      go_ret
      exact ⟨by rw [HE.out]; rfl, Below.refl _ _⟩
    · have hneg : v < 0 := by omega
      have e1 : IntKind.i64.wrap (-v) = -v := IntWalk.i64_in _ (by omega)
      have hq : (v == -v) = false := by rw [beq_eq_false_iff_ne]; omega
      have CA := fun w => rdig_nat (-v).toNat (by omega) w
      rw [show (((-v).toNat : Nat) : Int) = -v by omega] at CA
      have z1 : (itS (-v)).size ≤ 20 := by rw [itS_size]; exact (Fa.itoa_len _ (by omega) (by omega)).1
      have HE := Lib.hid (itS_neg v hneg)
      generalize itS (-v) = s1 at *
      generalize itS v = s at *
      have HA := Lib.hid CA
      clear CA
      go_enter Try.func92, Try.ntmps92
      go_wp2_with fail
      refine (HA.out _).mono ?_
      rintro e w1 ⟨rfl, hb1⟩
      have H1 := Lib.hid hb1
      clear hb1
      go_wp2_with fail
      go_ret
      exact ⟨by rw [HE.out]; rfl, H1.out⟩

theorem bytes_ne3 {a b : ByteArray} (h : a ≠ b) : (a.toList == b.toList) = false := by
  rw [Bool.eq_false_iff]
  intro e
  apply h
  have e := eq_of_beq e
  rw [ByteArray.toList_eq, ByteArray.toList_eq] at e
  exact ByteArray.ext (Array.toList_inj.1 e)
theorem wrap_in (x : Int) : -9223372036854775808 ≤ wrap64 x ∧ wrap64 x ≤ 9223372036854775807 := by unfold wrap64; omega
theorem fin_plus {l : List UInt8} (h : l.head? ≠ some 45) (v : Int) (hv : Fa.numOf l = some v) : wrap64 (-wrap64 (-(Fa.dv 0 l : Int))) = v := by
  obtain ⟨e, h0, h1⟩ := Fa.numOf_some hv
  have hd := Fa.dv_itoa v
  have hh := Fa.head_itoa v
  rw [e] at hd hh
  have hp : 0 ≤ v := by
    by_cases hp : 0 ≤ v
    · exact hp
    · exact absurd (hh.2 (by omega)) h
  rw [hd]
  unfold wrap64
  omega
theorem fin_minus {l : List UInt8} (h : l.head? = some 45) (v : Int) (hv : Fa.numOf l = some v) : wrap64 (-(Fa.dv 0 l : Int)) = v := by
  obtain ⟨e, h0, h1⟩ := Fa.numOf_some hv
  have hd := Fa.dv_itoa v
  have hh := Fa.head_itoa v
  rw [e] at hd hh
  have hp := hh.1 h
  rw [hd]
  unfold wrap64
  omega
theorem fin_yes {s : ByteArray} {M : Int} (h0 : -9223372036854775808 ≤ M) (h1 : M ≤ 9223372036854775807) (h : itS M = s) : (Fa.numOf s.data.toList).isSome = true := by
  rw [← h, itS_data, Fa.numOf_itoa M h0 h1]; rfl
theorem fin_no {s : ByteArray} {M : Int} (hv : ∀ v, Fa.numOf s.data.toList = some v → M = v) (h : itS M ≠ s) : (Fa.numOf s.data.toList).isSome = false := by
  cases hn : Fa.numOf s.data.toList with
  | none => rfl
  | some v =>
    obtain rfl := hv v hn
    exact absurd (ByteArray.ext (Array.toList_inj.1 (by rw [itS_data]; exact (Fa.numOf_some hn).1))) h

set_option maxHeartbeats 1000000 in
/-- reading a number -/
theorem rread_any (s : ByteArray) (w : World) (hs : s.size ≤ 1000000000) :
    Calls Try.prog 81 #[.string s] w fun e w' => (∃ n : Int, e = .returned (.tuple #[.int .i64 n, .bool (Fa.numOf s.data.toList).isSome]) ∧ ∀ v, Fa.numOf s.data.toList = some v → n = v) ∧ Below w.heap.size w w' := by
  have hl : s.data.toList.length = s.size := Fa.len_data s
  obtain ⟨o, ho⟩ : ∃ o, o = Fa.numOf s.data.toList := ⟨_, rfl⟩
  have HO := Lib.hid ho
  rw [← ho]
  clear ho
  go_enter Try.func81, Try.ntmps81
  go_wp2_with fail
  go_loop [4, 5] (fun k i => ∃ (j : Nat) (N : Int), j ≤ s.size ∧ i = .int .i64 j ∧ k = .int .i64 N ∧ Hid (N = wrap64 (-(Fa.dv 0 (s.data.toList.take j) : Int)))) (fun _ i => s.size - (intOf i).toNat)
  case atStart => exact ⟨0, 0, Nat.zero_le _, rfl, rfl, by show _ = _; simp [Fa.dv, wrap64]⟩
  case round =>
    obtain ⟨j, N, hj, rfl, rfl, hN⟩ := hrel
    by_cases hlt : j < s.size
    · have hlti : (j : Int) < (s.size : Int) := by omega
      have hst : Fa.dv 0 (s.data.toList.take (j + 1)) = if 48 ≤ (s[j]'hlt).toNat ∧ (s[j]'hlt).toNat ≤ 57 then Fa.dv 0 (s.data.toList.take j) * 10 + ((s[j]'hlt).toNat - 48) else Fa.dv 0 (s.data.toList.take j) := by
        rw [List.take_succ_eq_append_getElem (by rw [hl]; exact hlt), Fa.dv_snoc]
        rfl
      have hc : (s[j]'hlt).toNat < 256 := UInt8.toNat_lt _
      obtain ⟨c, hcc⟩ : ∃ c, c = (s[j]'hlt).toNat := ⟨_, rfl⟩
      have HCC := Lib.hid hcc
      rw [← hcc] at hst hc
      by_cases h48 : 48 ≤ c
      · have h48i : (48 : Int) ≤ ((s[j]'hlt).toNat : Int) := by omega
        by_cases h57 : c ≤ 57
        · have h57i : ((s[j]'hlt).toNat : Int) ≤ 57 := by omega
          have ew : IntKind.u8.wrap (((s[j]'hlt).toNat : Int) - 48) = ((s[j]'hlt).toNat : Int) - 48 := IntWalk.u8_in _ (by omega)
          have ew2 : IntKind.i64.wrap (((s[j]'hlt).toNat : Int) - 48) = ((s[j]'hlt).toNat : Int) - 48 := IntWalk.i64_in _ (by omega)
          have HST : Hid (wrap64 (wrap64 (N * 10) - (((s[j]'hlt).toNat : Int) - 48)) = wrap64 (-(Fa.dv 0 (s.data.toList.take (j + 1)) : Int))) := by
            show _ = _
            rw [hst, if_pos ⟨h48, h57⟩, hN.out, Fa.wrap_step]
            congr 1
            omega
          clear hst h48 h57 hcc
          go_wp2_with fail
          go_round
          case rel => exact ⟨j + 1, _, by omega, by go_num, rfl, HST⟩
          case measure => simp [intOf]; omega
        · have h57i : ¬ ((s[j]'hlt).toNat : Int) ≤ 57 := by omega
          have HST : Hid (N = wrap64 (-(Fa.dv 0 (s.data.toList.take (j + 1)) : Int))) := by
            show _ = _
            rw [hst, if_neg (fun h => h57 h.2)]
            exact hN.out
          clear hst h48 h57 hcc
          go_wp2_with fail
          go_round
          case rel => exact ⟨j + 1, _, by omega, by go_num, rfl, HST⟩
          case measure => simp [intOf]; omega
      · have h48i : ¬ (48 : Int) ≤ ((s[j]'hlt).toNat : Int) := by omega
        have HST : Hid (N = wrap64 (-(Fa.dv 0 (s.data.toList.take (j + 1)) : Int))) := by
          show _ = _
          rw [hst, if_neg (fun h => h48 h.1)]
          exact hN.out
        clear hst h48 hcc
        go_wp2_with fail
        go_round
        case rel => exact ⟨j + 1, _, by omega, by go_num, rfl, HST⟩
        case measure => simp [intOf]; omega
    · obtain rfl : j = s.size := by omega
      have hN2 : N = wrap64 (-(Fa.dv 0 s.data.toList : Int)) := by have := hN.out; rwa [← hl, List.take_length] at this
      have hb := wrap_in (-(Fa.dv 0 s.data.toList : Int))
      by_cases h0 : 0 < s.size
      · have h0i : (0 : Int) < (s.size : Int) := by omega
        have hhd : s.data.toList.head? = some (s[0]'h0) := by
          rw [List.head?_eq_getElem?]
          rw [List.getElem?_eq_getElem (by omega)]
          rfl
        by_cases h20 : s.size ≤ 20
        · have h20i : (s.size : Int) ≤ 20 := by omega
          by_cases h45 : s[0]'h0 = 45
          · have h45q : (((s[0]'h0).toNat : Int) != 45) = false := by rw [h45]; rfl
            have hfin : ∀ v, Fa.numOf s.data.toList = some v → N = v := fun v hv => by rw [hN2]; exact fin_minus (by rw [hhd, h45]) v hv
            have HD := Lib.hid (fun w => rdig_any N (by rw [hN2]; exact hb.1) (by rw [hN2]; exact hb.2) w)
            have HF := Lib.hid hfin
            have z1 : (itS N).size ≤ 20 := by rw [itS_size]; exact (Fa.itoa_len _ (by rw [hN2]; exact hb.1) (by rw [hN2]; exact hb.2)).1
            by_cases he : itS N = s
            · have hq : ((itS N).toList == s.toList) = true := by rw [he]; simp
              have hob : o.isSome = true := by rw [HO.out]; exact fin_yes (by rw [hN2]; exact hb.1) (by rw [hN2]; exact hb.2) he
              clear hN2 hb hhd h45 hfin he hN
              generalize itS N = sN at *
              go_wp2_with fail
              refine (HD.out _).mono ?_
              rintro e w1 ⟨rfl, hb1⟩
              have H1 := Lib.hid hb1
              clear hb1
              go_wp2_with fail
              go_ret2
              exact ⟨⟨N, by rw [hob]; rfl, fun v hv => HF.out v (by rw [← HO.out]; exact hv)⟩, H1.out⟩
            · have hq := bytes_ne3 he
              have hob : o.isSome = false := by rw [HO.out]; exact fin_no hfin he
              clear hN2 hb hhd h45 hfin he hN
              generalize itS N = sN at *
              go_wp2_with fail
              refine (HD.out _).mono ?_
              rintro e w1 ⟨rfl, hb1⟩
              have H1 := Lib.hid hb1
              clear hb1
              go_wp2_with fail
              go_ret2
              exact ⟨⟨N, by rw [hob]; rfl, fun v hv => HF.out v (by rw [← HO.out]; exact hv)⟩, H1.out⟩
          · have h45q : (((s[0]'h0).toNat : Int) != 45) = true := by
              rw [bne_iff_ne]
              intro e
              apply h45
              apply UInt8.toNat_inj.1
              show _ = 45
              omega
            obtain ⟨M, hM⟩ : ∃ M, M = wrap64 (-N) := ⟨_, rfl⟩
            have hfin : ∀ v, Fa.numOf s.data.toList = some v → M = v := fun v hv => by rw [hM, hN2]; exact fin_plus (by rw [hhd]; intro e; injection e with e; exact h45 e) v hv
            have hbM := wrap_in (-N)
            rw [← hM] at hbM
            have HD := Lib.hid (fun w => rdig_any M hbM.1 hbM.2 w)
            have HF := Lib.hid hfin
            have z1 : (itS M).size ≤ 20 := by rw [itS_size]; exact (Fa.itoa_len _ hbM.1 hbM.2).1
            have hw : IntKind.i64.wrap (-N) = M := by rw [hM]; exact IntWalk.i64_left _
            by_cases he : itS M = s
            · have hq : ((itS M).toList == s.toList) = true := by rw [he]; simp
              have hob : o.isSome = true := by rw [HO.out]; exact fin_yes hbM.1 hbM.2 he
              have hM' := hM.symm
              clear hN2 hb hhd h45 hfin he hN hM hbM
              generalize itS M = sN at *
              go_wp2_with fail
              refine (HD.out _).mono ?_
              rintro e w1 ⟨rfl, hb1⟩
              have H1 := Lib.hid hb1
              clear hb1
              go_wp2_with fail
              go_ret2
              exact ⟨⟨M, by rw [hob]; rfl, fun v hv => HF.out v (by rw [← HO.out]; exact hv)⟩, H1.out⟩
            · have hq := bytes_ne3 he
              have hob : o.isSome = false := by rw [HO.out]; exact fin_no hfin he
              have hM' := hM.symm
              clear hN2 hb hhd h45 hfin he hN hM hbM
              generalize itS M = sN at *
              go_wp2_with fail
              refine (HD.out _).mono ?_
              rintro e w1 ⟨rfl, hb1⟩
              have H1 := Lib.hid hb1
              clear hb1
              go_wp2_with fail
              go_ret2
              exact ⟨⟨M, by rw [hob]; rfl, fun v hv => HF.out v (by rw [← HO.out]; exact hv)⟩, H1.out⟩
        · have h20i : ¬ (s.size : Int) ≤ 20 := by omega
          have hnone : Fa.numOf s.data.toList = none := Fa.numOf_long (by omega)
          have hob : o = none := by rw [HO.out]; exact hnone
          have HOB := Lib.hid hob
          clear hob
          have hq : ∃ b : Bool, (((s[0]'h0).toNat : Int) != 45) = b := ⟨_, rfl⟩
          obtain ⟨b, hq⟩ := hq
          clear hN2 hb hhd hN hnone
          cases b
          · go_wp2_with fail
            go_ret2
            exact ⟨⟨_, by rw [HOB.out]; rfl, fun v hv => by rw [HOB.out] at hv; cases hv⟩, Below.refl _ _⟩
          · go_wp2_with fail
            go_ret2
            exact ⟨⟨_, by rw [HOB.out]; rfl, fun v hv => by rw [HOB.out] at hv; cases hv⟩, Below.refl _ _⟩
      · have h0i : ¬ (0 : Int) < (s.size : Int) := by omega
        have hnone : Fa.numOf s.data.toList = none := by rw [List.eq_nil_of_length_eq_zero (show s.data.toList.length = 0 by omega)]; exact Fa.numOf_nil
        have hob : o = none := by rw [HO.out]; exact hnone
        have HOB := Lib.hid hob
        clear hob
        clear hN2 hb hN hnone
        go_wp2_with fail
        go_ret2
        exact ⟨⟨_, by rw [HOB.out]; rfl, fun v hv => by rw [HOB.out] at hv; cases hv⟩, Below.refl _ _⟩
end Go.Proofs.Ytbnnokibjccdaaa

/-
  LAWS: strings in a row.
-/
namespace Go.Proofs.Ytbnnokibjccdaaa
open Go Go.RowKit
set_option linter.unusedVariables false
set_option linter.unusedSimpArgs false

/-- strings in a row -/
def encN : Enc ByteArray := ⟨fun s => [.string s], 1, fun _ => rfl, fun x v hv => by simp at hv; subst hv; rfl, by decide⟩
theorem SlIs.strAt {w : World} {p : Option Addr} {n c : Nat} {L : List ByteArray} (h : SlIs encN w (.slice p n c) L) : n = L.length ∧ n ≤ maxLen ∧ ∀ j, (hj : j < L.length) → ∃ (b off : Nat), p = some ⟨b, off, none⟩ ∧ w.cell? ⟨b, off + j, none⟩ = some (.string L[j]) := by
  obtain ⟨hn, h2, h3, h4⟩ := h.lies
  refine ⟨by omega, by omega, fun j hj => ?_⟩
  obtain ⟨b, off, e, hc⟩ := h4 (by omega)
  have := hc.elem j hj 0 (by decide) _ rfl
  exact ⟨b, off, e, by simpa [encN] using this⟩
end Go.Proofs.Ytbnnokibjccdaaa

/-
  LAWS: bytes of the call's own.
-/
namespace Go.Proofs.Ytbnnokibjccdaaa
open Go Go.RowKit
set_option linter.unusedVariables false
set_option linter.unusedSimpArgs false
set_option maxRecDepth 100000

theorem info_u8 : (Try.prog.info? 5).map (fun i => (i.zero, i.size, i.bytes)) = some (some (.int .u8 0), 1, 1) := by kernel_rfl
/-- bytes in a row -/
def enc8 : Enc UInt8 := ⟨fun c => [.int .u8 (c.toNat : Int)], 1, fun _ => rfl, fun x v hv => by simp at hv; subst hv; rfl, by decide⟩
theorem enc8_all (l : List UInt8) : enc8.all l = Lib.byteCells l := by
  induction l with
  | nil => rfl
  | cons c l ih => rw [Enc.all_cons, ih]; rfl
/-- bytes of the call's own -/
abbrev Own8 (w : World) (base : Nat) (v : Value) (l : List UInt8) : Prop := OwnL enc8 5 w base v l
theorem own8_row {w : World} {base : Nat} {v : Value} {l : List UInt8} (h : Own8 w base v l) : w.ownsRow base 5 1 v l.length (Lib.byteCells l) := by
  have := h
  unfold Own8 OwnL at this
  rwa [enc8_all] at this
theorem row_own8 {w : World} {base n : Nat} {v : Value} {l : List UInt8} (hn : n = l.length) {cs : List Value} (hc : cs = Lib.byteCells l) (h : w.ownsRow base 5 1 v n cs) : Own8 w base v l := by
  subst hn
  subst hc
  unfold Own8 OwnL
  rwa [enc8_all]
/-- string(b) of bytes of the call's own -/
theorem own8_text {w : World} {base : Nat} {v : Value} {l : List UInt8} (h : Own8 w base v l) : (convert 38 9 v).run Try.prog w = .ok (.string ⟨l.toArray⟩) w := by
  obtain ⟨p, cap, rfl, _, _, h4⟩ := h.sl
  by_cases h0 : 0 < l.length
  · obtain ⟨b, off, rfl, hc⟩ := h4 h0
    refine run_convert_bytes_back (P := Try.prog) w 38 9 5 ⟨b, off, none⟩ cap l Try.underlying38 Try.underlying5 Try.underlying9 ?_
    intro j hj
    have := hc.elem j hj 0 (by decide) _ rfl
    rw [add_lit]
    simpa [enc8] using this
  · have e : l = [] := List.eq_nil_of_length_eq_zero (by omega)
    subst e
    rw [show ([] : List UInt8).length = 0 from rfl, run_convert_bytes_string w 38 9 5 p 0 cap Try.underlying38 Try.underlying5 Try.underlying9]
    cases p <;> rfl

end Go.Proofs.Ytbnnokibjccdaaa

/-
  CONTRACTS: a strings.Builder of the call's own: copyCheck at this program's numbers.
-/
namespace Go.Proofs.Ytbnnokibjccdaaa
open Go Go.RowKit
set_option linter.unusedVariables false

theorem sizeBuilder : (Try.prog.info? 75).map (·.size) = some 2 := by kernel_rfl
theorem liesBuilder : liesAt Try.prog Try.prog.depth 75 (2 / Try.prog.cellsOf 75) 0 75 1 = true := by kernel_rfl
theorem infoByte : (Try.prog.info? 5).map (fun i => (i.zero, i.size, i.bytes)) = some (some (.int .u8 0), 1, 1) := by kernel_rfl

set_option maxHeartbeats 1000000 in
set_option maxRecDepth 100000 in
theorem copyCheck_used (b : Nat) (w : World) (h0 : w.cell? ⟨b, 0, none⟩ = some (.pointer (some ⟨b, 0, none⟩))) :
    Calls Try.prog 78 #[.pointer (some ⟨b, 0, none⟩)] w fun e w' => e = .returned (.tuple #[]) ∧ w' = w := by
  obtain ⟨j, hj, _⟩ := Option.map_eq_some_iff.1 sizeBuilder
  go_enter Try.func78, Try.ntmps78
  go_wp2
  rw [Lib.run_neq_ptr_same w _ Try.underlying73 hj]
  go_wp2
  go_end0
  exact ⟨rfl, rfl⟩

set_option maxHeartbeats 1000000 in
set_option maxRecDepth 100000 in
theorem copyCheck_fresh (b : Nat) (w : World) (h0 : w.cell? ⟨b, 0, none⟩ = some (.pointer none)) (hsh : w.shape? b = some (75, 2)) (hfz : w.frozen? ⟨b, 0, none⟩ = false) :
    Calls Try.prog 78 #[.pointer (some ⟨b, 0, none⟩)] w fun e w' => e = .returned (.tuple #[]) ∧ w' = w.setCell ⟨b, 0, none⟩ (.pointer (some ⟨b, 0, none⟩)) := by
  obtain ⟨j, hj, hjs⟩ := Option.map_eq_some_iff.1 sizeBuilder
  go_enter Try.func78, Try.ntmps78
  go_wp2
  rw [Lib.run_to_unsafe w ⟨b, 0, none⟩ Try.underlying73 Try.underlying133 hj (by rw [hjs]; decide) hsh (Nat.zero_lt_succ 1)]
  simp only [Result.andThen]
  rw [Oper.upon_value]
  go_wp2
  rw [run_callFunc_extern Try.func87 (by kernel_rfl) (by kernel_rfl) (by kernel_rfl) (e := Extern.AbiNoEscape.same) (by kernel_rfl)]
  rw [Lib.run_noEscape]
  simp only [Result.andThen]
  rw [Oper.upon_value]
  go_wp2
  rw [Lib.run_from_unsafe w ⟨b, 0, none⟩ Try.underlying133 Try.underlying73 hj hsh liesBuilder]
  simp only [Result.andThen]
  rw [Oper.upon_value]
  go_wp2
  go_end0
  exact ⟨rfl, rfl⟩

theorem copyCheck_any (B b : Nat) (bs : List Value) (w : World) (h : Lib.IsBuilder 75 5 B b bs w) :
    Calls Try.prog 78 #[.pointer (some ⟨b, 0, none⟩)] w fun e w' => e = .returned (.tuple #[]) ∧ (Lib.BuilderAt 75 5 B b (.pointer (some ⟨b, 0, none⟩)) bs w' ∧ Below B w w') := by
  rcases h with h | h
  · refine (copyCheck_fresh b w h.cell0 h.shape h.frozen0).mono ?_
    rintro e w' ⟨rfl, rfl⟩
    exact ⟨rfl, h.used _, (Below.refl B w).setCell (p := ⟨b, 0, none⟩) h.1 _⟩
  · refine (copyCheck_used b w h.cell0).mono ?_
    rintro e w' ⟨rfl, rfl⟩
    exact ⟨rfl, h, Below.refl B _⟩

theorem cells_str (s : ByteArray) : Lib.strCells s = Lib.byteCells s.data.toList := rfl

theorem builder_old {B b : Nat} {l : List UInt8} {w w' : World} (h : Lib.IsBuilder 75 5 B b (Lib.byteCells l) w) (hb : Below w.heap.size w w') : Lib.IsBuilder 75 5 B b (Lib.byteCells l) w' := by
  have key : ∀ p, Lib.BuilderAt 75 5 B b p (Lib.byteCells l) w → Lib.BuilderAt 75 5 B b p (Lib.byteCells l) w' := by
    intro p h
    have hlt := h.lt
    obtain ⟨hB, v, hbk, hown, hne⟩ := h
    refine ⟨hB, v, by rw [hb.block b hlt]; exact hbk, ?_, hne⟩
    have ho : Own8 w B v l := row_own8 (Lib.byteCells_length l) rfl hown
    have h2 := own8_row (OwnL.below ho hb)
    rwa [← Lib.byteCells_length l] at h2
  exact h.imp (key _) (key _)

end Go.Proofs.Ytbnnokibjccdaaa

/-
  LAWS: the bytes of a string in a slice of one's own: a byte is set, and they are made a string again.
-/
namespace Go.Proofs.Ytbnnokibjccdaaa
open Go Go.RowKit
set_option linter.unusedVariables false
set_option linter.unusedSimpArgs false
set_option maxRecDepth 100000

theorem bytes_frozen {w wb : World} {ps : ByteArray} {e : TypeId} {k : Nat} (h : wb.heap[w.heap.size]? = some (.cells (Lib.bytesCells w e ps) e ((Lib.bytesCells w e ps).size, (Lib.bytesCells w e ps).size + 1))) (hk : k < (Lib.bytesCells w e ps).size) : wb.frozen? ⟨w.heap.size, k, none⟩ = false := by
  simp [World.frozen?, h]
  omega

theorem bytes_room {w : World} {e : TypeId} {ps : ByteArray} : ps.size ≤ (Lib.bytesCells w e ps).size := by
  unfold Lib.bytesCells
  rw [Array.size_append, Array.size_map]
  exact Nat.le_add_right ps.data.size _
theorem set_text {b k cv cp : Nat} {wb : World} {ps : ByteArray} (hc : ∀ j, j < ps.size → wb.cell? ⟨b, j, none⟩ = some (.int .u8 (ps.data.toList.getD j 0).toNat)) (hk : k < ps.size) (hcv : cv < 256) :
    (convert 38 9 (.slice (some ⟨b, 0, none⟩) ps.size cp)).run Try.prog (wb.setCell ⟨b, k, none⟩ (.int .u8 (cv : Int))) = .ok (.string ⟨(ps.data.toList.set k (UInt8.ofNat cv)).toArray⟩) (wb.setCell ⟨b, k, none⟩ (.int .u8 (cv : Int))) := by
  have hlen : (ps.data.toList.set k (UInt8.ofNat cv)).length = ps.size := by rw [List.length_set, Fa.len_data]
  have h := run_convert_bytes_back (P := Try.prog) (wb.setCell ⟨b, k, none⟩ (.int .u8 (cv : Int))) 38 9 5 ⟨b, 0, none⟩ cp (ps.data.toList.set k (UInt8.ofNat cv)) Try.underlying38 Try.underlying5 Try.underlying9 (by
    intro j hj
    rw [hlen] at hj
    have h0 := hc j hj
    rw [add_lit, Nat.zero_add]
    by_cases e : j = k
    · subst e
      rw [World.cell?_setCell_same _ _ _ h0, List.getElem_set_self]
      have : (UInt8.ofNat cv).toNat = cv := by simp; omega
      rw [this]
    · rw [World.cell?_setCell_other _ _ _ _ (by intro h; injection h with _ h _; exact e h.symm), h0, List.getElem_set_ne (fun h => e h.symm)]
      rw [List.getD_eq_getElem?_getD, List.getElem?_eq_getElem (by rw [Fa.len_data]; exact hj)]
      rfl)
  rwa [hlen] at h
end Go.Proofs.Ytbnnokibjccdaaa
