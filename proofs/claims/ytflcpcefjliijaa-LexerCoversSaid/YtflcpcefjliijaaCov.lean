/-
  PLAIN FACTS ON BYTES: what lies between tokens. No program, no world.
-/
import Derived.Test.YtflcpcefjliijaaLexPlain2
namespace Go.Proofs.Ytflcpcefjliijaa
namespace Lx
set_option linter.unusedVariables false

/-- whether a byte is in a comment, or begins one, if b tells whether the one before it was -/
def inC (l : Bs) (b : Bool) : Bool := if ((l.headD 0).toNat : Int) = 10 then false else (b || comment l)
/-- n bytes that are blanks or in comments -/
def cov : Nat → Bs → Bool → Bool
  | 0, _, _ => true
  | _ + 1, [], _ => false
  | n + 1, c :: l, b => (inC (c :: l) b || blankI (c.toNat : Int)) && cov n l (inC (c :: l) b)

theorem blank_no_comment {c : UInt8} {l : Bs} (h : blankI (c.toNat : Int) = true) : comment (c :: l) = false := by
  cases l with
  | nil => rfl
  | cons d l =>
    show decide _ = false
    rw [decide_eq_false]
    rintro ⟨h1, _⟩
    rw [h1] at h
    exact absurd h (by decide)
theorem cov_blank {c : UInt8} {l : Bs} {n : Nat} (h : blankI (c.toNat : Int) = true) : cov (n + 1) (c :: l) false = cov n l false := by
  have e : inC (c :: l) false = false := by
    unfold inC
    rw [blank_no_comment h]
    split <;> rfl
  show ((inC (c :: l) false || blankI (c.toNat : Int)) && cov n l (inC (c :: l) false)) = _
  rw [e, h]
  rfl
theorem notLf_no {c : UInt8} (h : notLf c = false) : c = 10 := by
  unfold notLf at h
  apply UInt8.toNat_inj.1
  simp at h
  show c.toNat = 10
  omega
theorem cov_line : ∀ (m : Bs) (g : Nat), cov (lineLen m + g) m true = cov g (m.drop (lineLen m)) true
  | [], g => by simp [lineLen]
  | c :: m, g => by
    by_cases hb : notLf c = true
    · have e : lineLen (c :: m) = lineLen m + 1 := by unfold lineLen; rw [List.takeWhile_cons, if_pos hb]; rfl
      have e1 : inC (c :: m) true = true := by
        unfold inC
        have : ¬ (((c :: m).headD 0).toNat : Int) = 10 := by
          intro q
          unfold notLf at hb
          simp at hb q
          omega
        rw [if_neg this]
        rfl
      rw [e, show lineLen m + 1 + g = (lineLen m + g) + 1 by omega]
      show ((inC (c :: m) true || blankI (c.toNat : Int)) && cov (lineLen m + g) m (inC (c :: m) true)) = _
      rw [e1, cov_line m g]
      simp
    · have e : lineLen (c :: m) = 0 := by unfold lineLen; rw [List.takeWhile_cons, if_neg hb]; rfl
      rw [e]; simp
theorem drop_line : ∀ m : Bs, m.drop (lineLen m) = [] ∨ ∃ r, m.drop (lineLen m) = 10 :: r
  | [] => .inl rfl
  | c :: m => by
    by_cases hb : notLf c = true
    · have e : lineLen (c :: m) = lineLen m + 1 := by unfold lineLen; rw [List.takeWhile_cons, if_pos hb]; rfl
      rw [e]
      exact drop_line m
    · have e : lineLen (c :: m) = 0 := by unfold lineLen; rw [List.takeWhile_cons, if_neg hb]; rfl
      rw [e]
      have : c = 10 := notLf_no (by simpa using hb)
      subst this
      exact .inr ⟨m, rfl⟩
theorem cov_flag {m : Bs} {g : Nat} (h : m = [] ∨ ∃ r, m = 10 :: r) : cov g m true = cov g m false := by
  cases g with
  | zero => cases m <;> rfl
  | succ g =>
    rcases h with rfl | ⟨r, rfl⟩
    · rfl
    · rfl
theorem cov_comment {c : UInt8} {l : Bs} {n : Nat} (h : comment (c :: l) = true) : cov n (c :: l) false = cov n (c :: l) true := by
  cases n with
  | zero => rfl
  | succ n =>
    have e : inC (c :: l) false = inC (c :: l) true := by
      unfold inC
      rw [h]
      rfl
    show ((inC (c :: l) false || blankI (c.toNat : Int)) && cov n l (inC (c :: l) false)) = ((inC (c :: l) true || blankI (c.toNat : Int)) && cov n l (inC (c :: l) true))
    rw [e]

theorem Scan.gap {l : Bs} {a : Nat} {T : List Tok} (h : Scan l a T) : ∃ (g : Nat) (t : Tok) (rest : List Tok), T = t :: rest ∧ g ≤ l.length ∧ t.at_ = ((a + g : Nat) : Int) ∧ cov g l false = true ∧
    ((g = l.length ∧ rest = [] ∧ t.text = ByteArray.empty) ∨ (tokLen (l.drop g) ≤ l.length - g ∧ t.text = mk ((l.drop g).take (tokLen (l.drop g))) ∧ Scan (l.drop (g + tokLen (l.drop g))) (a + g + tokLen (l.drop g)) rest)) := by
  induction h with
  | fin a => exact ⟨0, _, [], rfl, Nat.le_refl _, rfl, rfl, .inl ⟨rfl, rfl, rfl⟩⟩
  | blank c l a T hb h ih =>
    obtain ⟨g, t, rest, e, hg, ha, hc, hr⟩ := ih
    refine ⟨g + 1, t, rest, e, by simpa using hg, by rw [ha]; congr 1; omega, by rw [cov_blank hb]; exact hc, ?_⟩
    rcases hr with ⟨h1, h2, h3⟩ | ⟨h1, h2, h3⟩
    · exact .inl ⟨by simp [h1], h2, h3⟩
    · refine .inr ⟨by simpa using h1, h2, ?_⟩
      have e1 : (c :: l).drop (g + 1) = l.drop g := rfl
      have e2 : (c :: l).drop (g + 1 + tokLen (l.drop g)) = l.drop (g + tokLen (l.drop g)) := by rw [show g + 1 + tokLen (l.drop g) = (g + tokLen (l.drop g)) + 1 by omega]; rfl
      rw [e1, e2, show a + (g + 1) + tokLen (l.drop g) = a + 1 + g + tokLen (l.drop g) by omega]
      exact h3
  | comm c l a T hb hcm h ih =>
    obtain ⟨g, t, rest, e, hg, ha, hc, hr⟩ := ih
    have hle := lineLen_le (c :: l)
    generalize hn : lineLen (c :: l) = n at *
    rw [List.length_drop] at hg hr
    refine ⟨n + g, t, rest, e, by omega, by rw [ha]; congr 1; omega, ?_, ?_⟩
    · rw [cov_comment hcm, ← hn, cov_line, hn, ← hn, cov_flag (drop_line _), hn]
      exact hc
    · rcases hr with ⟨h1, h2, h3⟩ | ⟨h1, h2, h3⟩
      · exact .inl ⟨by omega, h2, h3⟩
      · rw [List.drop_drop] at h1 h2 h3
        refine .inr ⟨by omega, h2, ?_⟩
        rw [List.drop_drop, show n + (g + tokLen (List.drop (n + g) (c :: l))) = n + g + tokLen (List.drop (n + g) (c :: l)) by omega] at h3
        rw [show a + (n + g) + tokLen (List.drop (n + g) (c :: l)) = a + n + g + tokLen (List.drop (n + g) (c :: l)) by omega]
        exact h3
  | tok c l a T hb hcm h ih =>
    refine ⟨0, _, T, rfl, Nat.zero_le _, rfl, rfl, .inr ⟨by simpa using tokLen_le c l, rfl, ?_⟩⟩
    simpa using h

theorem Scan.end_ {l : Bs} {a : Nat} {T : List Tok} (h : Scan l a T) : ∃ (U : List Tok) (t : Tok), T = U ++ [t] ∧ t.kind = 0 := by
  induction h with
  | fin a => exact ⟨[], _, rfl, rfl⟩
  | blank c l a T hb h ih => exact ih
  | comm c l a T hb hcm h ih => exact ih
  | tok c l a T hb hcm h ih =>
    obtain ⟨U, t, e, ht⟩ := ih
    exact ⟨tokOf (c :: l) a :: U, t, by rw [e]; rfl, ht⟩
end Lx
end Go.Proofs.Ytflcpcefjliijaa
