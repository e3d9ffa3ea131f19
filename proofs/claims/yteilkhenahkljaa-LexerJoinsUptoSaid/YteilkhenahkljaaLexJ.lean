/-
  PLAIN FACTS: the tokens of joined tokens are the tokens. No program, no world.
-/
import Derived.Test.YteilkhenahkljaaLexPlain2
namespace Go.Proofs.Yteilkhenahkljaa
namespace Lx
set_option linter.unusedVariables false

def joinB (L : List Tok) : Bs := L.flatMap fun t => if t.kind = 0 then [] else t.text.data.toList ++ [10]
theorem joinB_cons (t : Tok) (L : List Tok) : joinB (t :: L) = (if t.kind = 0 then [] else t.text.data.toList ++ [10]) ++ joinB L := by simp [joinB]

theorem kindRun_ne (l : Bs) : kindRun l ≠ 0 := by unfold kindRun; split; · omega
                                                  · split; · omega
                                                    · split <;> omega
theorem tokKind_ne (l : Bs) : tokKind l ≠ 0 := by
  unfold tokKind
  split
  · exact kindRun_ne _
  · split <;> omega

theorem takeWhile_cut {p : UInt8 → Bool} {l : Bs} {r : Bs} {c : UInt8} (hc : p c = false) : ((l.take (l.takeWhile p).length) ++ c :: r).takeWhile p = l.takeWhile p := by
  induction l with
  | nil => simp [hc]
  | cons a l ih =>
    by_cases h : p a = true
    · rw [List.takeWhile_cons, if_pos h]
      simp only [List.length_cons, List.take_succ_cons, List.cons_append]
      rw [List.takeWhile_cons, if_pos h, ih]
    · rw [List.takeWhile_cons, if_neg h]
      simp [hc]

theorem markLen_c (c : UInt8) (l : Bs) : markLen (c :: l) = if twoM ((c :: l).take 2) then 2 else if markI (c.toNat : Int) then 1 else 0 := rfl
theorem two_ten (c : UInt8) : twoM [c, 10] = false := by
  unfold twoM
  rw [decide_eq_false]
  simp

theorem stable (c : UInt8) (l r : Bs) : tokLen ((c :: l).take (tokLen (c :: l)) ++ 10 :: r) = tokLen (c :: l) ∧ tokKind ((c :: l).take (tokLen (c :: l)) ++ 10 :: r) = tokKind (c :: l) := by
  have h10 : runB 10 = false := rfl
  by_cases hr : 0 < runLen (c :: l)
  · obtain ⟨e1, e2⟩ := tok_run hr
    rw [e1, e2]
    have e3 : runLen ((c :: l).take (runLen (c :: l)) ++ 10 :: r) = runLen (c :: l) := by
      unfold runLen
      rw [takeWhile_cut h10]
    obtain ⟨f1, f2⟩ := tok_run (l := (c :: l).take (runLen (c :: l)) ++ 10 :: r) (by rw [e3]; exact hr)
    rw [f1, f2, e3]
    refine ⟨rfl, ?_⟩
    congr 1
    have hle := runLen_le (c :: l)
    rw [List.take_append_of_le_length (by rw [List.length_take]; omega), List.take_take, Nat.min_self]
  · have hr0 : runLen (c :: l) = 0 := by omega
    have hc : runB c = false := by
      cases h : runB c
      · rfl
      · unfold runLen at hr0; rw [List.takeWhile_cons, if_pos h] at hr0; simp at hr0
    have run0 : ∀ y, runLen (c :: y) = 0 := fun y => by unfold runLen; rw [List.takeWhile_cons, hc]; simp
    by_cases hm : 0 < markLen (c :: l)
    · obtain ⟨e1, e2⟩ := tok_mark hr0 hm
      rw [e1, e2]
      by_cases h2 : twoM ((c :: l).take 2) = true
      · have em : markLen (c :: l) = 2 := by rw [markLen_c, if_pos h2]
        rw [em]
        cases l with
        | nil => simp [twoM] at h2
        | cons d l =>
          simp only [List.take_succ_cons, List.take_zero, List.cons_append, List.nil_append] at h2 ⊢
          have fm : markLen (c :: d :: 10 :: r) = 2 := by rw [markLen_c, show List.take 2 (c :: d :: 10 :: r) = [c, d] from rfl, h2]; rfl
          obtain ⟨f1, f2⟩ := tok_mark (run0 (d :: 10 :: r)) (by rw [fm]; omega)
          rw [f1, f2, fm]
          exact ⟨rfl, rfl⟩
      · have h2' : twoM ((c :: l).take 2) = false := by simpa using h2
        have hk : markI (c.toNat : Int) = true := by
          cases h : markI (c.toNat : Int)
          · rw [markLen_c, h2', h] at hm; simp at hm
          · rfl
        have em : markLen (c :: l) = 1 := by rw [markLen_c, h2', hk]; rfl
        rw [em]
        simp only [List.take_succ_cons, List.take_zero, List.cons_append, List.nil_append]
        have fm : markLen (c :: 10 :: r) = 1 := by rw [markLen_c, show List.take 2 (c :: 10 :: r) = [c, 10] from rfl, two_ten, hk]; rfl
        obtain ⟨f1, f2⟩ := tok_mark (run0 (10 :: r)) (by rw [fm]; omega)
        rw [f1, f2, fm]
        exact ⟨rfl, rfl⟩
    · have hm0 : markLen (c :: l) = 0 := by omega
      obtain ⟨e1, e2⟩ := tok_bad hr0 hm0
      rw [e1, e2]
      have hk : markI (c.toNat : Int) = false := by
        cases h : markI (c.toNat : Int)
        · rfl
        · rw [markLen_c, h] at hm0; split at hm0 <;> simp at hm0
      simp only [List.take_succ_cons, List.take_zero, List.cons_append, List.nil_append]
      have fm : markLen (c :: 10 :: r) = 0 := by rw [markLen_c, show List.take 2 (c :: 10 :: r) = [c, 10] from rfl, two_ten, hk]; rfl
      obtain ⟨f1, f2⟩ := tok_bad (run0 (10 :: r)) fm
      rw [f1, f2]
      exact ⟨rfl, rfl⟩

def kt (t : Tok) : Int × ByteArray := (t.kind, t.text)

theorem Scan.again {l : Bs} {a : Nat} {T : List Tok} (h : Scan l a T) : ∀ b : Nat, ∃ U, Scan (joinB T) b U ∧ U.map kt = T.map kt := by
  induction h with
  | fin a => intro b; exact ⟨_, .fin b, rfl⟩
  | blank c l a T hb h ih => exact ih
  | comm c l a T hb hc h ih => exact ih
  | tok c l a T hb hc h ih =>
    intro b
    obtain ⟨s1, s2⟩ := stable c l (joinB T)
    have hk : (tokOf (c :: l) a).kind ≠ 0 := tokKind_ne _
    have hp := tokLen_pos (c :: l)
    have hle := tokLen_le c l
    have e : joinB (tokOf (c :: l) a :: T) = (c :: l).take (tokLen (c :: l)) ++ 10 :: joinB T := by
      rw [joinB_cons, if_neg hk]
      simp [tokOf]
    obtain ⟨n, hn⟩ : ∃ n, tokLen (c :: l) = n + 1 := ⟨tokLen (c :: l) - 1, by omega⟩
    rw [hn, List.take_succ_cons] at e s1 s2
    rw [List.cons_append] at e s1 s2
    have hlt : (l.take n).length = n := by rw [List.length_take]; simp only [List.length_cons] at hle; omega
    have hdrop : (c :: (l.take n ++ 10 :: joinB T)).drop (n + 1) = 10 :: joinB T := by
      rw [List.drop_succ_cons, List.drop_append_of_le_length (by omega), List.drop_of_length_le (by omega)]
      rfl
    have htake : (c :: (l.take n ++ 10 :: joinB T)).take (n + 1) = c :: l.take n := by
      rw [List.take_succ_cons, List.take_append_of_le_length (by omega), List.take_of_length_le (by omega)]
    obtain ⟨U, hU, hm⟩ := ih (b + (n + 1) + 1)
    have hcm : comment (c :: (l.take n ++ 10 :: joinB T)) = false := by
      cases n with
      | zero =>
        show decide ((c.toNat : Int) = 47 ∧ ((10 : UInt8).toNat : Int) = 47) = false
        simp
      | succ n =>
        cases l with
        | nil => simp at hlt
        | cons d l => exact hc
    refine ⟨tokOf (c :: (l.take n ++ 10 :: joinB T)) b :: U, ?_, ?_⟩
    · rw [e]
      refine .tok _ _ _ _ hb hcm ?_
      rw [s1, hdrop]
      exact .blank _ _ _ _ rfl hU
    · rw [List.map_cons, List.map_cons, hm]
      congr 1
      unfold kt tokOf
      rw [s1, s2, htake, hn, List.take_succ_cons]

theorem Scan.joinLen {l : Bs} {a : Nat} {T : List Tok} (h : Scan l a T) : (joinB T).length ≤ 2 * l.length := by
  induction h with
  | fin a => simp [joinB]
  | blank c l a T hb h ih => simp; omega
  | comm c l a T hb hc h ih => rw [List.length_drop] at ih; omega
  | tok c l a T hb hc h ih =>
    have hk : (tokOf (c :: l) a).kind ≠ 0 := tokKind_ne _
    have hp := tokLen_pos (c :: l)
    have hle := tokLen_le c l
    rw [joinB_cons, if_neg hk]
    rw [List.length_drop] at ih
    simp only [tokOf, mk_data, List.length_append, List.length_take, List.length_cons, List.length_nil] at *
    omega
end Lx
end Go.Proofs.Yteilkhenahkljaa
