/-
  PROVED: the tokens of a text of about the greatest length, and those of a number of about the most digits, are what the document's reference says, for any number; no condition.
-/
import Derived.Test.YteilkhenahkljaaRows
import Derived.Test.YteilkhenahkljaaLexE
import Derived.Test.YteilkhenahkljaaLexG
import Derived.Test.YteilkhenahkljaaMod
import Derived.Test.YteilkhenahkljaaRel
import Derived.WalkKit
import Derived.ProofKit
import Derived.OpenShut
import Derived.Laws.IdiomStrings
import Derived.Laws.Rows
namespace Go.Proofs.Yteilkhenahkljaa.lexerLong
open Go Go.ChangeShapes Go.WideShapes Go.ChangeAt Go.RowKit
set_option linter.unusedVariables false
set_option linter.unusedSimpArgs false

theorem own : ownKnob Try.prog.godebug = none := by kernel_rfl
theorem laidOut : laidOutB Try.prog = true := by kernel_rfl
theorem info5 : (Try.prog.info? 5).map (fun i => (i.zero, i.size, i.bytes)) = some (some (.int .u8 0), 1, 1) := by kernel_rfl
theorem sizeElem58 (w : World) : (sizeOf (Try.prog.elem 58)).run Try.prog w = .ok 1 w := by kernel_rfl
theorem elem58 : Try.prog.underlying 58 = some (.slice (Try.prog.elem 58)) := by kernel_rfl

/-- a row of bytes -/
def row (l : List UInt8) : Array Value := (l.map fun b => Value.int .u8 (b.toNat : Int)).toArray
theorem row_set (l : List UInt8) (i : Nat) (b : UInt8) : row (l.set i b) = (row l).setIfInBounds i (.int .u8 (b.toNat : Int)) := by
  unfold row
  rw [List.map_set]
  simp
theorem row_at (l : List UInt8) (i : Nat) (h : i < l.length) : (row l)[i]? = some (.int .u8 (l[i].toNat : Int)) := by simp [row, h]

theorem made_row (k : Nat) : madeCells #[.int .u8 0] k = row (List.replicate k 0) := by
  apply Array.ext'
  simp [madeCells, row]
  apply List.ext_getElem
  · simp
  · intro i h1 h2
    simp [Nat.mod_one]

/-- string(b[:d]) -/
theorem conv_row (u : World) (B k d : Nat) (l : List UInt8) (hd : d ≤ l.length) (h : u.heap[B]? = some (.cells (row l) 5 (0, 0))) :
    (convert 58 9 (.slice (some ⟨B, 0, none⟩) d k)).run Try.prog u = .ok (.string (Lx.mk (l.take d))) u := by
  have := run_convert_bytes_back (P := Try.prog) u 58 9 5 ⟨B, 0, none⟩ k (l.take d) Try.underlying58 Try.underlying5 Try.underlying9 (by
    intro j hj
    rw [List.length_take] at hj
    rw [add_lit, Lib.cell_of_heap h, row_at l (0 + j) (by omega)]
    simp)
  rw [List.length_take, Nat.min_eq_left hd] at this
  exact this
theorem upto_row (u : World) (B k d : Nat) (hd : d ≤ k) : (Instr.slice 58 (.slice (some ⟨B, 0, none⟩) k k) none (some (.int .i64 (d : Int))) none).run Try.prog u = .ok (.slice (some ⟨B, 0, none⟩) d k) u := by
  rw [run_slice_h u 58 (some ⟨B, 0, none⟩) k k elem58 .i64 (d : Int) (by omega) (by omega), sizeElem58]
  simp only [Result.andThen, sliced, Int.toNat_natCast, Nat.sub_zero]
  simp [add_lit]

/-- what is there stays -/
def LeB (w w' : World) : Prop := Below w.heap.size w w'
theorem LeB.refl (w : World) : LeB w w := Below.refl _ _
theorem LeB.trans (w1 w2 w3 : World) (a : LeB w1 w2) (b : LeB w2 w3) : LeB w1 w3 := bnext a b
/-- a slice that reads as these tokens -/
def tyTok (L : List Lx.Tok) : Ty LeB := ⟨{v : Value // True}, ⟨⟨undef, trivial⟩⟩, fun v => v.1, fun v w => SlIs tokEnc w v.1 L, fun x w w' hl h => h.below hl⟩
theorem tyTok_f (L : List Lx.Tok) (v : Value) (hv : True) : (tyTok L).f ⟨v, hv⟩ = v := rfl
theorem tyTok_p (L : List Lx.Tok) (v : Value) (hv : True) (w : World) : (tyTok L).φ ⟨v, hv⟩ w = SlIs tokEnc w v L := rfl
theorem tyIs_f' (v : Value) (x : (tyIs LeB v).α) : (tyIs LeB v).f x = v := rfl
theorem rel_is' {P : Program} {v : Value} {w : World} : relUpon P LeB (tyIs LeB v) w (.ok (.value v) w) := ⟨LeB.refl w, (), rfl, trivial⟩

theorem tokList_le (s : ByteArray) : (tokList s).length ≤ 4611686018427387904 := by
  unfold tokList
  split
  · have := (Lx.toks_scan s).bounds.1
    simp at this
    omega
  · simp
theorem fact_at {md : Region.Mode} {o : Oper} {F : Facts} {w : World} (h : leans md o F w) {j : Nat} (hj : (o.after.any fun e => Region.binds md e && (e.on == j)) = true) : F j w := by
  obtain ⟨e, he, h2⟩ := Array.any_eq_true'.1 hj
  simp only [Bool.and_eq_true, beq_iff_eq] at h2
  rw [← h2.2]
  exact h e he h2.1

set_option maxHeartbeats 4000000 in
set_option maxRecDepth 1000000 in
theorem walk (n : Int) (n1 : -9223372036854775808 ≤ n) (n2 : n ≤ 9223372036854775807) (w : World) :
    Calls Try.prog 7 #[.int .i64 n] w fun e w' => e = .returned (.bool true) ∧ Below w.heap.size w w' := by
  obtain ⟨r, hr, r0, r1⟩ := mod_any n 4 (by omega) (by omega) n1 n2
  obtain ⟨k, rfl⟩ := Int.eq_ofNat_of_zero_le r0
  have q1 : -9223372036854775808 ≤ n.tdiv 4 ∧ n.tdiv 4 ≤ 9223372036854775807 := by
    have := Int.tdiv_eq_ediv (a := n) (b := 4); have e8 : Int.sign 4 = 1 := rfl; rw [e8] at this; split at this <;> omega
  obtain ⟨a, ha, a0, a1⟩ := mod_any (n.tdiv 4) 5 (by omega) (by omega) q1.1 q1.2
  obtain ⟨d, rfl⟩ := Int.eq_ofNat_of_zero_le a0
  obtain ⟨i0, hi, hz0, hz1, hz2⟩ := info_parts info5
  have hmk : (Instr.makeSlice 58 (.int .i64 ((19998 + k : Nat) : Int)) (.int .i64 ((19998 + k : Nat) : Int))).run Try.prog w = .ok (.slice (some ⟨w.heap.size, 0, none⟩) (19998 + k) (19998 + k)) (w.alloc (.cells (row (List.replicate (19998 + k) 0)) 5)) := by
    have h := run_make (P := Try.prog) w 58 5 i0 (.int .u8 0) Try.underlying58 hi hz0 .i64 .i64 ((19998 + k : Nat) : Int) ((19998 + k : Nat) : Int) (by omega) (Int.le_refl _) (by rw [hz2]; omega) (by omega)
    rw [← made_row]
    have e : ((19998 + k : Nat) : Int).toNat = 19998 + k := Int.toNat_natCast _
    rw [e, hz1, Nat.mul_one] at h
    exact h
  have em : ((19998 + k : Nat) : Int) = 19998 + (k : Int) := by omega
  rw [em] at hmk
  have HR := Lib.hid hr
  have HA := Lib.hid ha
  have hK2 : ((19998 + k : Nat) : Int) = 19998 + (k : Int) := em
  clear hr ha em q1 hi hz0 hz1 hz2
  have hlen : (List.replicate (19998 + k) (0 : UInt8)).length = 19998 + k := by simp
  generalize List.replicate (19998 + k) (0 : UInt8) = l0 at *
  generalize hKK : 19998 + k = K at *
  have HKK := Lib.hid hKK
  have HL0 := Lib.hid hlen
  have HK2 := Lib.hid hK2
  clear hKK hlen hK2
  go_enter Try.func7, Try.ntmps7
  go_wp2_with fail
  refine (HR.out _).mono ?_
  rintro e w' ⟨rfl, rfl⟩
  go_wp2_with fail
  rw [← HK2.out]
  have hK1 : K ≤ 20001 := by have := HKK.out; omega
  have hK3 : 19998 ≤ K := by have := HKK.out; omega
  clear hmk
  go_loopw [5] (fun i wr => ∃ j : Nat, j ≤ K ∧ i = .int .i64 j ∧ Hid (∃ l : List UInt8, l.length = K ∧ wr.heap[w.heap.size]? = some (.cells (row l) 5 (0, 0))) ∧ Hid (Below w.heap.size w wr)) (fun i _ => K - (intOf i).toNat)
  case atStart => exact ⟨0, Nat.zero_le _, rfl, ⟨l0, HL0.out, heap_alloc_new w _⟩, below_box _ _⟩
  case round =>
    obtain ⟨j, hj, rfl, hrow, hb⟩ := hrel
    by_cases hlt : j < K
    · obtain ⟨l, hl, hh⟩ := hrow.out
      have HH := Lib.hid hh
      have HLL := Lib.hid hl
      have c0 : wr.cell? ⟨w.heap.size, j, none⟩ = some (.int .u8 ((l[j]'(by omega)).toNat : Int)) := by rw [Lib.cell_of_heap hh, row_at l j (by omega)]
      have f0 : wr.frozen? ⟨w.heap.size, j, none⟩ = false := Lib.frozen_of_heap hh j
      have hx : IntKind.u8.wrap (48 + (j : Int) % 10) = 48 + (j : Int) % 10 := by
        have h1 : 0 ≤ (j : Int) % 10 := by omega
        have h2 : (j : Int) % 10 < 10 := by omega
        simp [IntKind.wrap, IntKind.bits, IntKind.signed]
        omega
      have hval : ((UInt8.ofNat (48 + j % 10)).toNat : Int) = 48 + (j : Int) % 10 := by
        have : (UInt8.ofNat (48 + j % 10)).toNat = 48 + j % 10 := by
          rw [UInt8.toNat_ofNat']
          omega
        rw [this]; omega
      have HVAL := Lib.hid hval
      generalize ((l[j]'(by omega)).toNat : Int) = old at c0
      clear hl hh hrow hval
      go_wp2_with fail
      go_roundw
      case rel => exact ⟨j + 1, by omega, by go_num, ⟨l.set j (UInt8.ofNat (48 + j % 10)), by rw [List.length_set]; exact HLL.out, by rw [row_set, HVAL.out]; exact heap_setCell_same _ _ _ _ _ _ HH.out⟩, hb.out.setCell (p := ⟨w.heap.size, j, none⟩) (Nat.le_refl _) _⟩
      case measure => simp [intOf]; omega
    · obtain ⟨l, hl, hh⟩ := hrow.out
      have hje : j = K := by omega
      subst hje
      have HH := Lib.hid hh
      have HLL := Lib.hid hl
      have hsl := fun u => upto_row u w.heap.size j (16 + d) (by omega)
      have esl : ((16 + d : Nat) : Int) = 16 + (d : Int) := by omega
      rw [esl] at hsl
      have hcv := conv_row wr w.heap.size j (16 + d) l (by omega) hh
      generalize hD : Lx.mk (l.take (16 + d)) = D at *
      have hDs : D.size ≤ 20 := by rw [← hD, Lx.mk_size, List.length_take]; omega
      have hD5 : D.size + 2 ≤ 1000 := by omega
      have HCB : Hid (∀ u, LeB wr u → (convert 58 9 (.slice (some ⟨w.heap.size, 0, none⟩) j j)).run Try.prog u = .ok (.string (Lx.mk l)) u) := fun u hu => by
        have := conv_row u w.heap.size j j l (by omega) (by rw [hu.block _ (by have := HH.out; by_cases hlt : w.heap.size < wr.heap.size; exact hlt; rw [Array.getElem?_eq_none (by omega)] at this; cases this)]; exact HH.out)
        rwa [List.take_of_length_le (by omega)] at this
      have hS : (Lx.mk l).size ≤ 1000000 := by rw [Lx.mk_size]; omega
      generalize hSS : Lx.mk l = S at *
      have HS := Lib.hid hS
      have HBW := Lib.hid hb.out
      clear hl hh hrow hb hD esl hSS HLL HH hS
      go_wp2_with fail
      refine (HA.out _).mono ?_
      rintro e w' ⟨rfl, rfl⟩
      go_wp2_with fail
      apply wp_region_rel LeB.refl LeB.trans
      case hm => kernel_rfl
      case hB => kernel_rfl
      apply wpRel_cons (t := tyIs LeB (.bool true))
      case h1 => (intro w' hl hd; unfold relAt; go_simp; refine ⟨LeB.refl _, ?_⟩; refine (awake02_any _).mono ?_; rintro e w2 ⟨rfl, hb2⟩; exact ⟨(), rfl, hb2, trivial⟩)
      intro _
      rw [tyIs_f']
      go_simp
      apply wpRel_cons (t := tyIs LeB _)
      case h1 => (intro w' hl hd; clear hl hd; unfold relAt; go_simp; exact rel_is')
      intro _
      rw [tyIs_f']
      go_simp
      apply wpRel_cons (t := tyIs LeB _)
      case h1 => (intro w' hl hd; clear hl hd; unfold relAt; go_simp; exact rel_is')
      intro _
      rw [tyIs_f']
      go_simp
      apply wpRel_cons (t := tyIs LeB (.string S))
      case h1 => (intro w' hl hd; have hcv := HCB.out _ (LeB.trans _ _ _ (Below.refl _ _).drew hl); clear hl hd; unfold relAt; go_simp; exact rel_is')
      intro _
      rw [tyIs_f']
      go_simp
      apply wpRel_cons (t := tyTok (tokList S))
      case h1 => (intro w' hl hd; unfold relAt; go_simp; refine ⟨LeB.refl _, ?_⟩; refine (tokens_any _ _ (by have := HS.out; omega)).mono ?_; rintro e w2 ⟨v, rfl, hv, hb2⟩; exact ⟨⟨v, trivial⟩, rfl, hb2, hv⟩)
      rintro ⟨x1, -⟩
      rw [tyTok_f]
      go_simp
      apply wpRel_cons (t := tyIs LeB _)
      case h1 => (intro w' hl hd; clear hl hd; unfold relAt; go_simp; exact rel_is')
      intro _
      rw [tyIs_f']
      go_simp
      apply wpRel_cons (t := tyIs LeB (.string S))
      case h1 => (intro w' hl hd; have hcv := HCB.out _ (LeB.trans _ _ _ (Below.refl _ _).drew hl); clear hl hd; unfold relAt; go_simp; exact rel_is')
      intro _
      rw [tyIs_f']
      go_simp
      apply wpRel_cons (t := tyTok (tokList S))
      case h1 => (intro w' hl hd; unfold relAt; go_simp; refine ⟨LeB.refl _, ?_⟩; refine (refTokens_any _ _ (by have := HS.out; omega)).mono ?_; rintro e w2 ⟨v, rfl, hv, hb2⟩; exact ⟨⟨v, trivial⟩, rfl, hb2, hv⟩)
      rintro ⟨x2, -⟩
      rw [tyTok_f]
      go_simp
      apply wpRel_cons (t := tyIs LeB (.bool true))
      case h1 => (intro w' hl hd; have hx := fact_at hd (j := 4) (by kernel_rfl); have hy := fact_at hd (j := 7) (by kernel_rfl); simp [upd, tyTok_p] at hx hy; unfold relAt; go_simp; refine ⟨LeB.refl _, ?_⟩; refine (refSame_any x1 x2 (tokList S) _ (tokList_le _) hx hy).mono ?_; rintro e w2 ⟨rfl, hb2⟩; exact ⟨(), rfl, hb2, trivial⟩)
      intro _
      rw [tyIs_f']
      go_simp
      apply wpRel_cons (t := tyIs LeB _)
      case h1 => (intro w' hl hd; clear hl hd; unfold relAt; go_simp; exact rel_is')
      intro _
      rw [tyIs_f']
      go_simp
      apply wpRel_cons (t := tyIs LeB _)
      case h1 => (intro w' hl hd; clear hl hd; unfold relAt; go_simp; exact rel_is')
      intro _
      rw [tyIs_f']
      go_simp
      apply wpRel_cons (t := tyIs LeB _)
      case h1 => (intro w' hl hd; clear hl hd; unfold relAt; go_simp; exact rel_is')
      intro _
      rw [tyIs_f']
      go_simp
      apply wpRel_cons (t := tyIs LeB (.string (D ++ ⟨#[32, 53]⟩)))
      case h1 => (intro w' hl hd; clear hl hd; unfold relAt; go_simp; rw [if_neg (by omega)]; exact rel_is')
      intro _
      rw [tyIs_f']
      go_simp
      apply wpRel_cons (t := tyTok (tokList (D ++ ⟨#[32, 53]⟩)))
      case h1 => (intro w' hl hd; unfold relAt; go_simp; refine ⟨LeB.refl _, ?_⟩; refine (tokens_any _ _ (by rw [ByteArray.size_append]; show D.size + 2 ≤ _; omega)).mono ?_; rintro e w2 ⟨v, rfl, hv, hb2⟩; exact ⟨⟨v, trivial⟩, rfl, hb2, hv⟩)
      rintro ⟨x3, -⟩
      rw [tyTok_f]
      go_simp
      apply wpRel_cons (t := tyIs LeB _)
      case h1 => (intro w' hl hd; clear hl hd; unfold relAt; go_simp; exact rel_is')
      intro _
      rw [tyIs_f']
      go_simp
      apply wpRel_cons (t := tyIs LeB (.string (D ++ ⟨#[32, 53]⟩)))
      case h1 => (intro w' hl hd; clear hl hd; unfold relAt; go_simp; rw [if_neg (by omega)]; exact rel_is')
      intro _
      rw [tyIs_f']
      go_simp
      apply wpRel_cons (t := tyTok (tokList (D ++ ⟨#[32, 53]⟩)))
      case h1 => (intro w' hl hd; unfold relAt; go_simp; refine ⟨LeB.refl _, ?_⟩; refine (refTokens_any _ _ (by rw [ByteArray.size_append]; show D.size + 2 ≤ _; omega)).mono ?_; rintro e w2 ⟨v, rfl, hv, hb2⟩; exact ⟨⟨v, trivial⟩, rfl, hb2, hv⟩)
      rintro ⟨x4, -⟩
      rw [tyTok_f]
      go_simp
      apply wpRel_cons (t := tyIs LeB (.bool true))
      case h1 => (intro w' hl hd; have hx := fact_at hd (j := 13) (by kernel_rfl); have hy := fact_at hd (j := 16) (by kernel_rfl); simp [upd, tyTok_p] at hx hy; unfold relAt; go_simp; refine ⟨LeB.refl _, ?_⟩; refine (refSame_any x3 x4 (tokList (D ++ ⟨#[32, 53]⟩)) _ (tokList_le _) hx hy).mono ?_; rintro e w2 ⟨rfl, hb2⟩; exact ⟨(), rfl, hb2, trivial⟩)
      intro _
      rw [tyIs_f']
      go_simp
      apply wpRel_cons (t := tyIs LeB _)
      case h1 => (intro w' hl hd; clear hl hd; unfold relAt; go_simp; exact rel_is')
      intro _
      rw [tyIs_f']
      go_simp
      apply wpRel_cons (t := tyIs LeB _)
      case h1 => (intro w' hl hd; clear hl hd; unfold relAt; go_simp; exact rel_is')
      intro _
      rw [tyIs_f']
      go_simp
      apply wpRel_nil (Ts := [])
      intro w9 hl _
      have HB9 := Lib.hid ((HBW.out.trans ((Below.refl _ _).drew (B := w.heap.size))).trans (hl.mono (by have := HBW.out.size; simp; omega)))
      clear hl
      go_wp2_with fail
      go_ret
      exact ⟨rfl, HB9.out⟩

set_option maxRecDepth 100000 in
theorem lifted (os : Os) (started : os.Started) (H : Type) (enc : TypeId × Value → H) :
    ReturnsInHanded {} Try.checked os 7 .any (Rows.lexerLongSpec.pre6 enc Try.prog Try.f7 Rows.lexerLongRow.domain false) (Rows.lexerLongSpec.post enc Try.prog Try.f7 false true false false) := by
  refine returnsInHanded_of_change (C := Try.checked) own started (by kernel_rfl) Try.func7
    (ChangeSpec.witness6 (enc := enc) (C := Try.checked) false ⟨#[], #[.int .i64 0], []⟩ 8 (by kernel_rfl) (by kernel_rfl) (by kernel_rfl) (by kernel_rfl)) ?_
  intro W base args ds gs before hval0 hW hcnd _
  have hval : ∀ (j : Nat) t v, Try.f7.params[j]? = some t → args[j]? = some v → Value.okWide Try.prog W .any base t v := hval0
  have hW' := hW
  obtain ⟨p, q, hA0, hV, rfl, hfz, hnd⟩ := hW
  have hA : DataW.TrodAll enc Try.prog W 0 (fun _ => true) true Try.f7.params.toList args.toList ds p := hA0
  rw [Try.params7] at hA hval
  obtain ⟨v0, vs0, d0, ds0, p0, q0, hargs, rfl, rfl, h0, r0⟩ := trodAll_cons hA
  obtain ⟨rfl, rfl, rfl⟩ := trodAll_nil r0
  obtain rfl : args = #[v0] := by cases args; simp_all
  obtain ⟨rfl, rfl⟩ := trodVars_none hV
  have k0 := h0
  have lt0 : ∀ x ∈ p0, x.block < W.heap.size := by obtain ⟨m, hm⟩ := k0; exact DataW.trod_lt m _ _ _ hm
  obtain ⟨n, rfl, _, _, w0⟩ := open_int Try.underlying3 (hval 0 3 v0 rfl rfl) h0
  clear hA0 hval0
  have wn : -9223372036854775808 ≤ n ∧ n ≤ 9223372036854775807 := by simpa [Lit.wf, IntKind.min, IntKind.max, IntKind.signed, IntKind.bits] using w0
  refine (walk n wn.1 wn.2 W).mono fun e W' ⟨he, bel⟩ => ?_
  subst he
  exact ⟨_, rfl, _, _, _, [], _, [], hW', trodAll_mk1 (shut_bool Try.underlying4 _), (trodAll_cons_mk (Below.trod laidOut (by kernel_rfl) (of_decide_eq_true (by kernel_rfl)) k0 bel lt0) trodAll_mk0), rfl, bel.frame _, fun h => by cases h⟩

theorem proved : Rows.LexerLongSaid :=
  OpenClaim.holds_of_wide 7 Try.f7 rfl rfl rfl rfl rfl rfl rfl ⟨rfl, rfl, rfl, rfl, rfl⟩ rfl rfl rfl rfl rfl (by kernel_rfl) Try.func7 (by kernel_rfl)
    (of_decide_eq_true (by kernel_rfl)) (by unfold Func.isWrapper; first | (rw [if_pos (by decide +kernel)]; kernel_rfl) | (rw [if_neg (by decide +kernel)]; exact ⟨rfl, rfl⟩))
    (fun os started H enc _ => lifted os started H enc)
end Go.Proofs.Yteilkhenahkljaa.lexerLong
