/-
  CONTRACT: strings.IndexRune of a rune that is no byte of ASCII, and strings.IndexAny of the marks in any text.
-/
import Derived.Test.YtbnnokibjccdaaaShelf
import Derived.Test.YtbnnokibjccdaaaTpNm
import Derived.Laws.RangeAny
import Derived.Laws.Runes
import Derived.WalkMore
import Derived.Deep.QuietTactic
import Derived.BigQuiet
namespace Go.Proofs.Ytbnnokibjccdaaa
open Go Go.RowKit
set_option linter.unusedVariables false
set_option linter.unusedSimpArgs false
set_option maxRecDepth 100000

set_option maxHeartbeats 1000000 in
theorem validRune_any (r : Int) (w : World) (h : 128 ≤ r) : Calls Try.prog 94 #[.int .i32 r] w fun e w' => e = .returned (.bool (validRune r)) ∧ w' = w := by
  by_cases h1 : r < 55296
  · have hv := Lib.hid (show validRune r = true from decide_eq_true (.inl ⟨by omega, h1⟩))
    go_enter Try.func94, Try.ntmps94
    go_wp2_with fail
    go_ret
    exact ⟨by rw [hv.out]; rfl, rfl⟩
  · by_cases h2 : 57343 < r
    · by_cases h3 : r ≤ 1114111
      · have hv := Lib.hid (show validRune r = true from decide_eq_true (.inr ⟨h2, h3⟩))
        go_enter Try.func94, Try.ntmps94
        go_wp2_with fail
        go_ret
        exact ⟨by rw [hv.out]; rfl, rfl⟩
      · have hv := Lib.hid (show validRune r = false from decide_eq_false (by omega))
        go_enter Try.func94, Try.ntmps94
        go_wp2_with fail
        go_ret
        exact ⟨by rw [hv.out]; rfl, rfl⟩
    · have hv := Lib.hid (show validRune r = false from decide_eq_false (by omega))
      go_enter Try.func94, Try.ntmps94
      go_wp2_with fail
      go_ret
      exact ⟨by rw [hv.out]; rfl, rfl⟩
set_option maxHeartbeats 4000000 in
theorem indexRune_high (r : Int) (w : World) (h : 128 ≤ r) : Calls Try.prog 82 #[.string ⟨#[60, 62, 44]⟩, .int .i32 r] w fun e w' => e = .returned (.int .i64 (-1)) ∧ Below w.heap.size w w' := by
  have hr0 : ¬ r < 128 := by omega
  have hr1 : (0 : Int) ≤ r := by omega
  by_cases he : r = 65533
  · subst he
    clear h hr0 hr1
    have HSZ : (⟨#[60, 62, 44]⟩ : ByteArray).size = 3 := rfl
    go_enter Try.func82, Try.ntmps82
    go_wp2_with fail
    go_loopg [5, 6] 3 (fun g _ _ wx => ∃ i : Nat, i + g = 3 ∧ wx = w.iter ⟨#[60, 62, 44]⟩ i)
    case atStart => exact ⟨0, by omega, rfl⟩
    case round =>
      obtain ⟨i, hig, rfl⟩ := hrel
      cases gk with
      | zero =>
        obtain rfl : i = 3 := by omega
        have hnx := run_next_end (P := Try.prog) w ⟨#[60, 62, 44]⟩ 3
        go_wp2_with fail
        go_ret
        exact ⟨rfl, (Below.refl _ _).alloc (Nat.le_refl _) _⟩
      | succ g =>
        have hi : i < (⟨#[60, 62, 44]⟩ : ByteArray).size := by rw [HSZ]; omega
        obtain ⟨x, hx⟩ : ∃ x : UInt8, (⟨#[60, 62, 44]⟩ : ByteArray)[i]'hi = x := ⟨_, rfl⟩
        have hx128 : x.toNat < 128 := by
          have : i = 0 ∨ i = 1 ∨ i = 2 := by omega
          rcases this with rfl | rfl | rfl
          · rw [← hx]; show (60 : UInt8).toNat < 128; decide
          · rw [← hx]; show (62 : UInt8).toNat < 128; decide
          · rw [← hx]; show (44 : UInt8).toNat < 128; decide
        have hnx := fun ty => run_next_ascii (P := Try.prog) w ⟨#[60, 62, 44]⟩ i ty hi (by rw [hx]; exact hx128)
        rw [hx] at hnx
        have hne : ((x.toNat : Int) == 65533) = false := by rw [beq_eq_false_iff_ne]; omega
        clear hx
        go_wp2_with fail
        go_roundg g
        case measure => omega
        case rel => exact ⟨i + 1, by omega, rfl⟩
  · have he2 : (r == 65533) = false := by rw [beq_eq_false_iff_ne]; exact he
    obtain ⟨m, hmm⟩ : ∃ m, m = (⟨#[60, 62, 44]⟩ : ByteArray) := ⟨_, rfl⟩
    have hsz : m.size = 3 := by rw [hmm]; rfl
    have hm1 : (m[1]'(by omega)).toNat < 128 := by subst hmm; show (62 : UInt8).toNat < 128; decide
    have hm2 : (m[2]'(by omega)).toNat < 128 := by subst hmm; show (44 : UInt8).toNat < 128; decide
    have hmx : ∀ (j : Nat) (x : UInt8), 128 ≤ x.toNat → Lib.indexByte (m.extract j 3).data.toList x = -1 := fun j x hx => by
      have h60 : ∀ c ∈ (m.extract j 3).data.toList, (c == x) = false := fun c hc => by
        have h1 := mem_extract hc
        rw [hmm] at h1
        have h1' : c ∈ [(60 : UInt8), 62, 44] := h1
        rw [beq_eq_false_iff_ne]
        rintro rfl
        simp only [List.mem_cons, List.not_mem_nil, or_false] at h1'
        rcases h1' with rfl | rfl | rfl <;> exact absurd hx (by decide)
      generalize (m.extract j 3).data.toList = l at h60
      induction l with
      | nil => rfl
      | cons c l ih =>
        rw [Lib.indexByte, h60 c (by simp), ih (fun c hc => h60 c (by simp [hc]))]
        rfl
    rw [← hmm]
    clear hmm
    cases hv : validRune r with
    | false =>
      go_enter Try.func82, Try.ntmps82
      go_wp2_with fail
      refine (validRune_any r _ h).mono ?_
      rintro e w' ⟨rfl, rfl⟩
      rw [hv]
      go_wp2_with fail
      go_ret
      exact ⟨rfl, Below.refl _ _⟩
    | true =>
      obtain ⟨g2, g4, gl⟩ := encode_facts r (by rw [validRune_eq]; exact hv) h
      obtain ⟨E, hE⟩ : ∃ E, Utf8.encode r = E := ⟨_, rfl⟩
      have hcv : ∀ w, (convert 21 9 (.int .i32 r)).run Try.prog w = .ok (.string E) w := fun w => by
        rw [run_convert_int_string w 21 9 .i32 r (by rw [Try.underlying21]; rfl) Try.underlying9, hE]
      rw [hE] at g2 g4 gl
      clear hE
      obtain ⟨n, hn⟩ : ∃ n, E.size = n := ⟨_, rfl⟩
      rw [hn] at g2 g4
      have hlt : n - 1 < E.size := by omega
      obtain ⟨x, hx⟩ : ∃ x : UInt8, E[n - 1]'hlt = x := ⟨_, rfl⟩
      have hx128 : 128 ≤ x.toNat := by
        have := gl (by omega)
        simp only [hn] at this
        rwa [hx] at this
      clear gl
      have hvn := Lib.hid (fun w => validRune_any r w h)
      rw [hv] at hvn
      clear hv
      have h3 : n = 2 ∨ n = 3 ∨ n = 4 := by omega
      rcases h3 with rfl | rfl | rfl
      · clear g2 g4
        have hx' : E[1]'(by omega) = x := hx
        go_enter Try.func82, Try.ntmps82
        go_wp2_with fail
        refine (hvn.out _).mono ?_
        rintro e w' ⟨rfl, rfl⟩
        go_wp2_with fail
        apply wp_scope_straight
        go_wp2_with fail
        go_loopw [9, 10] (fun i fa wr => i = .int .i64 1 ∧ fa = .int .i64 0 ∧ wr = w') (fun _ _ _ => 0)
        case atStart => exact ⟨rfl, rfl, rfl⟩
        case round =>
          obtain ⟨rfl, rfl, rfl⟩ := hrel
          obtain ⟨y, hy⟩ : ∃ y : UInt8, m[1]'(by omega) = y := ⟨_, rfl⟩
          have hy128 := hm1
          rw [hy] at hy128
          have hne : ((y.toNat : Int) != (x.toNat : Int)) = true := by rw [bne_iff_ne]; omega
          have hib : Lib.indexByte (m.extract 2 3).data.toList x = -1 := hmx 2 x hx128
          have hback : ((x.toNat : Int)).toNat.toUInt8 = x := by simp
          have hw2 : IntKind.i64.wrap 2 = 2 := rfl
          go_wp2_with fail
          apply wp_scope_straight
          go_wp2_with fail
          go_quiet (fail)
          go_wp2_with fail
          go_quiet ((go_at_call 93; refine (Try.strings_IndexByte _ _ _).mono ?_; rintro e w2 ⟨rfl, rfl⟩; exact ⟨(by rw [hback, hib] : _ = Ending.returned (.int .i64 (-1))), _, rfl⟩))
          go_wp2_with fail
          simp (zetaDelta := true) only [Exit.noGoto_ret, Exit.inBlock, Exit.then]
          refine bodyPost_ret (results_tmp rfl _ _ _) rfl ?_
          exact ⟨rfl, drew_below _⟩
      · clear g2 g4
        have hx' : E[2]'(by omega) = x := hx
        go_enter Try.func82, Try.ntmps82
        go_wp2_with fail
        refine (hvn.out _).mono ?_
        rintro e w' ⟨rfl, rfl⟩
        go_wp2_with fail
        apply wp_scope_straight
        go_wp2_with fail
        go_loopw [9, 10] (fun i fa wr => i = .int .i64 2 ∧ fa = .int .i64 0 ∧ wr = w') (fun _ _ _ => 0)
        case atStart => exact ⟨rfl, rfl, rfl⟩
        case round =>
          obtain ⟨rfl, rfl, rfl⟩ := hrel
          obtain ⟨y, hy⟩ : ∃ y : UInt8, m[2]'(by omega) = y := ⟨_, rfl⟩
          have hy128 := hm2
          rw [hy] at hy128
          have hne : ((y.toNat : Int) != (x.toNat : Int)) = true := by rw [bne_iff_ne]; omega
          have hib : Lib.indexByte (ByteArray.empty).data.toList x = -1 := rfl
          have hback : ((x.toNat : Int)).toNat.toUInt8 = x := by simp
          have hw2 : IntKind.i64.wrap 3 = 3 := rfl
          go_wp2_with fail
          apply wp_scope_straight
          go_wp2_with fail
          go_quiet (fail)
          go_wp2_with fail
          go_quiet ((go_at_call 93; refine (Try.strings_IndexByte _ _ _).mono ?_; rintro e w2 ⟨rfl, rfl⟩; exact ⟨(by rw [hback, hib] : _ = Ending.returned (.int .i64 (-1))), _, rfl⟩))
          go_wp2_with fail
          simp (zetaDelta := true) only [Exit.noGoto_ret, Exit.inBlock, Exit.then]
          refine bodyPost_ret (results_tmp rfl _ _ _) rfl ?_
          exact ⟨rfl, drew_below _⟩
      · clear g2 g4
        have hx' : E[3]'(by omega) = x := hx
        go_enter Try.func82, Try.ntmps82
        go_wp2_with fail
        refine (hvn.out _).mono ?_
        rintro e w' ⟨rfl, rfl⟩
        go_wp2_with fail
        apply wp_scope_straight
        go_wp2_with fail
        go_loopw [9, 10] (fun i fa wr => i = .int .i64 3 ∧ fa = .int .i64 0 ∧ wr = w') (fun _ _ _ => 0)
        case atStart => exact ⟨rfl, rfl, rfl⟩
        case round =>
          obtain ⟨rfl, rfl, rfl⟩ := hrel
          go_wp2_with fail
          go_simp
          go_ret
          exact ⟨rfl, Below.refl _ _⟩
/-- the bytes of a rune that is no byte of ASCII are no marks -/
theorem cont_high (s : ByteArray) (i : Nat) (h : i < s.size) (ha : 128 ≤ (s[i]'h).toNat) : ∀ j, (hj : j < s.size) → i ≤ j → j < i + (Utf8.decode s i).2 → 128 ≤ (s[j]'hj).toNat := by
  have hb : ∀ k, (hk : i + k < s.size) → s.get! (i + k) = s[i + k]'hk := fun k hk => by
    simp [ByteArray.get!, getElem!_pos, hk]
    rfl
  have hn : ¬ (s[i]'h).toNat < 128 := by omega
  have e : ∀ k, 1 ≤ k → k < (Utf8.decode s i).2 → (hk : i + k < s.size) → 128 ≤ (s[i + k]'hk).toNat := by
    intro k hk1 hk2 hk
    rw [← hb k hk]
    revert hk2
    simp only [Utf8.decode, get_at s i h, hn, if_false]
    have hk4 : k = 1 ∨ k = 2 ∨ k = 3 ∨ 4 ≤ k := by omega
    rcases hk4 with rfl | rfl | rfl | hk4 <;> (repeat' split) <;> simp_all <;> omega
  intro j hj h1 h2
  by_cases h0 : j = i
  · subst h0; exact ha
  · have := e (j - i) (by omega) (by omega) (by omega)
    simpa [show i + (j - i) = j by omega] using this
theorem high_noMark {x : UInt8} (h : 128 ≤ x.toNat) : marks.contains x = false := by
  rw [marks_plb]
  unfold plb
  have h1 : x ≠ 60 := by rintro rfl; exact absurd h (by decide)
  have h2 : x ≠ 44 := by rintro rfl; exact absurd h (by decide)
  have h3 : x ≠ 62 := by rintro rfl; exact absurd h (by decide)
  simp [h1, h2, h3, bne]
end Go.Proofs.Ytbnnokibjccdaaa
