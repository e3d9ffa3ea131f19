/-
  PLAIN: the text of a made type is short.
-/
import Derived.Test.YtbnnokibjccdaaaTpD
import Derived.Test.YtbnnokibjccdaaaPrP
import Derived.Test.YtbnnokibjccdaaaMod
import Derived.Maps.AppendAt
import Derived.Test.YtbnnokibjccdaaaTpS0
import Derived.Test.YtbnnokibjccdaaaRelT
import Derived.Test.YtbnnokibjccdaaaZaw
import Derived.Test.YtbnnokibjccdaaaZrr
import Derived.Test.YtbnnokibjccdaaaZpr
import Derived.Test.YtbnnokibjccdaaaZfa
import Derived.Test.YtbnnokibjccdaaaOne
import Derived.Test.YtbnnokibjccdaaaGrow
namespace Go.Proofs.Ytbnnokibjccdaaa
open Go Go.RowKit
set_option linter.unusedVariables false
set_option linter.unusedSimpArgs false

theorem namesT_sz : ∀ s ∈ namesT, s.size ≤ 6 := by decide
theorem prL_size {k : Nat} {t : Tp} (h : MadeT k t) : (prL t).length ≤ 10 * 4 ^ k := by
  induction h with
  | mk k s l hs hl hz hm ih =>
    have h7 : s.size ≤ 6 := namesT_sz s hs
    have h6 : s.data.toList.length ≤ 6 := h7
    rw [prL_mk]
    cases l with
    | nil =>
      have : 1 ≤ 4 ^ k := Nat.pow_pos (by decide)
      simp only [List.map_nil, argsL, List.nil_append, List.length_nil, if_pos, List.append_nil]
      omega
    | cons t ts =>
      have hk : k ≠ 0 := fun e => by have := hz e; cases this
      obtain ⟨k, rfl⟩ : ∃ m, k = m + 1 := ⟨k - 1, by omega⟩
      have h1 := ih t (by simp)
      have hp : 1 ≤ 4 ^ k := Nat.pow_pos (by decide)
      simp only [Nat.add_sub_cancel] at h1 ih
      cases ts with
      | nil =>
        simp only [List.map_cons, List.map_nil, argsL, List.flatMap_nil, List.append_nil, List.length_cons, List.length_nil, List.length_append, Nat.pow_succ]
        simp
        omega
      | cons u us =>
        cases us with
        | nil =>
          have h2 := ih u (by simp)
          simp only [List.map_cons, List.map_nil, argsL, List.flatMap_cons, List.flatMap_nil, List.append_nil, List.length_cons, List.length_nil, List.length_append, Nat.pow_succ]
          simp
          omega
        | cons v vs => simp only [List.length_cons] at hl; omega
theorem namesT_one : ∀ s ∈ namesT, 1 ≤ s.size := by decide
theorem prL_one {k : Nat} {t : Tp} (h : MadeT k t) : 1 ≤ (prL t).length := by
  cases h with
  | mk k s l hs hl hz hm =>
    have h7 : 1 ≤ s.data.toList.length := by have := namesT_one s hs; simpa using this
    rw [prL_mk, List.length_append]
    omega
theorem prS_len {k : Nat} {t : Tp} (h : MadeT k t) : 1 ≤ (prS t).size ∧ (prS t).size ≤ 10 * 4 ^ k := by
  have e : (prS t).size = (prL t).length := by rw [← prS_data]; simp
  rw [e]
  exact ⟨prL_one h, prL_size h⟩
end Go.Proofs.Ytbnnokibjccdaaa

/-
  LAW: append of one element of a row of one's own, with the block that it lies in then.
-/
namespace Go.Proofs.Ytbnnokibjccdaaa
open Go Go.RowKit
set_option linter.unusedVariables false

/-- append of one element of a row of one's own, with the block that it lies in then -/
theorem wpList_appendAt {α : Type} {E : Enc α} {P : Program} {w : World} {ops : Array Oper} {rest : List Oper} {o : Oper} {a : Act} {Q : Exit → Act → World → Prop} {sT eT : TypeId} {z : Value} {bytes : Nat}
    (hu : P.underlying sT = some (.slice eT)) (hinfo : (P.info? eT).map (fun i => (i.zero, i.size, i.bytes)) = some (some z, E.size, bytes)) (hzs : z.cells.size = E.size)
    (hgd : o.guard = none) (s x : Operand)
    (ho : o.op = .call { callee := .builtin .append, args := #[s, x], argTypes := #[sT, sT] })
    (base : Nat) (v : Value) (L : List α) (hs : a.eval s = v) (hown : OwnL E eT w base v L) (b c : Nat) (y : α) (hx : a.eval x = .slice (some ⟨b, 0, none⟩) 1 c) (hl : CellsAt w b 0 (E.cells y))
    (hL : Hid (L.length + 1 ≤ maxLen)) (hL2 : Hid ((L.length + 1) * bytes ≤ 140737488355328)) (hbase : base ≤ w.heap.size)
    (h : ∀ v' w', OwnL E eT w' base v' (L ++ [y]) → w.grownBy w' v.ownBlock → (v'.ownBlock = v.ownBlock ∨ v'.ownBlock = some w.heap.size) → wpList P ops Q rest (a.put o.dst v') w') : wpList P ops Q (o :: rest) a w := by
  obtain ⟨i0, hi, hz0, hz1, hz2⟩ := info_parts hinfo
  refine wpList_plain hgd fun K hK => ?_
  obtain ⟨v', w', hr, h2, h3, h4, h5⟩ := run_append_own_at (P := P) w base sT o.type eT i0 z E.size bytes hu hi hz0 hz1 hz2 hzs E.pos v L.length (E.all L) hown ⟨b, 0, none⟩ 1 c (E.cells y) (by rw [E.len, Nat.one_mul]) (fun j u hj => by rw [add_lit]; exact hl j u hj) (fun u hu => E.one y u hu) hL.out hL2.out hbase
  unfold Oper.wp execOp
  simp only [ho, resolve, invoke, builtin, Sem.run_bind, Sem.run_pure, Result.andThen_ok, List.map_toArray, List.map_cons, List.map_nil, hs, hx, hr]
  refine hK _ _ (h v' w' ?_ h3 h5)
  unfold OwnL
  rw [List.length_append, E.all_append, Enc.all_cons, Enc.all_nil, List.append_nil]
  exact h2
end Go.Proofs.Ytbnnokibjccdaaa

/-
  CONTRACTS: the reference's Same of types.
-/
namespace Go.Proofs.Ytbnnokibjccdaaa
open Go Go.RowKit
set_option linter.unusedVariables false
set_option linter.unusedSimpArgs false

/-- a bool that says whether two types are the same -/
def tyEq (t u : Tp) : Ty LeW := tyOf LeW (α := {b : Bool // b = true ↔ t = u}) ⟨⟨@decide (t = u) (Classical.propDecidable _), by simp⟩⟩ (fun b => .bool b.1)
theorem tyEq_f (t u : Tp) (b : Bool) (h : b = true ↔ t = u) : (tyEq t u).f ⟨b, h⟩ = .bool b := rfl
set_option maxHeartbeats 4000000 in
set_option maxRecDepth 100000 in
theorem rsame_step {A1 A2 : Nat → Prop} (s u : ByteArray) (l m : List Tp) (hS : ∀ j (a : j < l.length) (b : j < m.length), SameC 22 A1 A2 l[j] m[j]) : SameC 22 A1 A2 (.mk s l) (.mk u m) := by
  intro q1 q2 w h1 h2
  obtain ⟨e1, g1⟩ := h1.parts
  obtain ⟨e2, g2⟩ := h2.parts
  obtain ⟨s1, p1, n1, c1⟩ := q1
  obtain ⟨s2, p2, n2, c2⟩ := q2
  have e1' : s1 = s := e1
  have e2' : s2 = u := e2
  subst e1'; subst e2'
  have g1' : IsPs A1 w (.slice p1 n1 c1) l := g1
  have g2' : IsPs A2 w (.slice p2 n2 c2) m := g2
  obtain ⟨z1, hm1, -⟩ := g1'.at_
  obtain ⟨z2, hm2, -⟩ := g2'.at_
  subst z1; subst z2
  unfold maxLen at hm1 hm2
  have hb1 := below_box w (.cells #[.string s1, .slice p1 l.length c1] 24)
  have hb2 := bnext hb1 (below_box _ (.cells #[.string s2, .slice p2 m.length c2] 24))
  have x := box_p w ⟨s1, p1, l.length, c1⟩ 24
  have HX := Lib.hid (x.below (below_box _ (.cells #[.string s2, .slice p2 m.length c2] 24)))
  have hy := (box_p (w.alloc (.cells #[.string s1, .slice p1 l.length c1] 24)) ⟨s2, p2, m.length, c2⟩ 24)
  rw [show (w.alloc (.cells #[.string s1, .slice p1 l.length c1] 24)).heap.size = w.heap.size + 1 from by simp] at hy
  have HY := Lib.hid hy
  have HG1 := Lib.hid (g1'.later hb2)
  have HG2 := Lib.hid (g2'.later hb2)
  have HB := Lib.hid hb2
  have HS := Lib.hid hS
  obtain ⟨x0, x1⟩ := HX.out
  obtain ⟨y0, y1⟩ := HY.out
  simp only [Nat.zero_add] at x0 x1 y0 y1
  clear x hy hb1 hb2 h1 h2 g1 g2 g1' g2' e1 e2 hS
  by_cases hs : s1 = s2
  · subst hs
    have hs3 : (s1.toList != s1.toList) = false := by simp
    by_cases hlen : l.length = m.length
    · have hne : (((l.length : Nat) : Int) != ((m.length : Nat) : Int)) = false := by rw [hlen]; simp
      have HLEN := Lib.hid hlen
      clear hlen
      go_enter Try.func22, Try.ntmps22
      go_wp2_with fail
      clear hne hs3 x0 x1 y0 y1
      generalize hW : (w.alloc (.cells #[.string s1, .slice p1 l.length c1] 24)).alloc (.cells #[.string s1, .slice p2 m.length c2] 24) = w2 at *
      clear hW
      go_loopw [5] (fun i wr => ∃ j : Nat, j ≤ l.length ∧ i = .int .i64 j ∧ Hid (Below w2.heap.size w2 wr) ∧ Hid (∀ x (a : x < l.length) (b : x < m.length), x < j → l[x] = m[x])) (fun i _ => l.length - (intOf i).toNat)
      case atStart => exact ⟨0, Nat.zero_le _, rfl, Below.refl _ _, fun x a b h => by omega⟩
      case round =>
        obtain ⟨j, hj, rfl, HBR, HE⟩ := hrel
        obtain ⟨wx, rfl⟩ : ∃ x, x = wr := ⟨wr, rfl⟩
        obtain ⟨x0, x1⟩ := HX.out.below HBR.out
        simp only [Nat.zero_add] at x0 x1
        by_cases hlt : j < l.length
        · have hlti : (j : Int) < (l.length : Int) := by omega
          have hltm : j < m.length := by have := HLEN.out; omega
          have hltmi : (j : Int) < (m.length : Int) := by omega
          have hdr : Below w2.heap.size w2 wx.drew := HBR.out.trans ((Below.refl _ _).drew)
          obtain ⟨b1, o1, q1, rfl, t1, a1⟩ := (HG1.out.later hdr).at_.2.2 j hlt
          obtain ⟨b2, o2, q2, rfl, t2, a2⟩ := (HG2.out.later hdr).at_.2.2 j hltm
          obtain ⟨tj, htj⟩ : ∃ t, t = l[j]'hlt := ⟨_, rfl⟩
          obtain ⟨uj, huj⟩ : ∃ t, t = m[j]'hltm := ⟨_, rfl⟩
          have HSJ := Lib.hid (HS.out j hlt hltm)
          rw [← htj, ← huj] at HSJ
          rw [← htj] at t1
          rw [← huj] at t2
          have HTJ := Lib.hid htj
          have HUJ := Lib.hid huj
          clear htj huj
          have HT1 := Lib.hid t1
          have HT2 := Lib.hid t2
          have HA1 := Lib.hid a1
          have HA2 := Lib.hid a2
          have HXX := HX
          have HYY := HY
          have HX := Lib.hid (HXX.out.below hdr)
          have HY := Lib.hid (HYY.out.below hdr)
          clear t1 t2 a1 a2 hdr
          go_wp2_with fail
          clear x0 x1
          apply wp_region_relT LeW.refl LeW.trans 11
          case hm => kernel_rfl
          case hB => kernel_rfl
          simp only [List.take_succ_cons, List.take_zero, List.drop_succ_cons, List.drop_zero]
          apply wpRel_cons (t := tyIs _ _)
          case h1 => (intro w' hl hd2; clear hl hd2; unfold relAt; go_simp; exact rel_is LeW.refl)
          intro _
          rw [tyIs_f]
          go_simp
          apply wpRel_cons (t := tyIs _ _)
          case h1 => (intro w' hl hd2; obtain ⟨k0, k1⟩ := HX.out.below hl; simp only [Nat.zero_add] at k0 k1; clear hl hd2; unfold relAt; go_simp; exact rel_is LeW.refl)
          intro _
          rw [tyIs_f]
          go_simp
          apply wpRel_cons (t := tyIs _ _)
          case h1 => (intro w' hl hd2; clear hl hd2; unfold relAt; go_simp; exact rel_is LeW.refl)
          intro _
          rw [tyIs_f]
          go_simp
          apply wpRel_cons (t := tyIs _ _)
          case h1 => (intro w' hl hd2; clear hl hd2; unfold relAt; go_simp; exact rel_is LeW.refl)
          intro _
          rw [tyIs_f]
          go_simp
          apply wpRel_cons (t := tyIs _ _)
          case h1 => (intro w' hl hd2; obtain ⟨k0, k1⟩ := HA1.out.below hl; clear hl hd2; unfold relAt; go_simp; exact rel_is LeW.refl)
          intro _
          rw [tyIs_f]
          go_simp
          apply wpRel_cons (t := tyIs _ _)
          case h1 => (intro w' hl hd2; clear hl hd2; unfold relAt; go_simp; exact rel_is LeW.refl)
          intro _
          rw [tyIs_f]
          go_simp
          apply wpRel_cons (t := tyIs _ _)
          case h1 => (intro w' hl hd2; obtain ⟨k0, k1⟩ := HY.out.below hl; simp only [Nat.zero_add] at k0 k1; clear hl hd2; unfold relAt; go_simp; exact rel_is LeW.refl)
          intro _
          rw [tyIs_f]
          go_simp
          apply wpRel_cons (t := tyIs _ _)
          case h1 => (intro w' hl hd2; clear hl hd2; unfold relAt; go_simp; exact rel_is LeW.refl)
          intro _
          rw [tyIs_f]
          go_simp
          apply wpRel_cons (t := tyIs _ _)
          case h1 => (intro w' hl hd2; clear hl hd2; unfold relAt; go_simp; exact rel_is LeW.refl)
          intro _
          rw [tyIs_f]
          go_simp
          apply wpRel_cons (t := tyIs _ _)
          case h1 => (intro w' hl hd2; obtain ⟨k0, k1⟩ := HA2.out.below hl; clear hl hd2; unfold relAt; go_simp; exact rel_is LeW.refl)
          intro _
          rw [tyIs_f]
          go_simp
          apply wpRel_cons (t := tyEq tj uj)
          case h1 => (intro w' hl hd2; have hc := HSJ.out q1 q2 w' (HT1.out.later hl) (HT2.out.later hl); clear hl hd2; unfold relAt; go_simp; refine ⟨LeW.refl _, ?_⟩; refine hc.mono ?_; rintro e w2 ⟨bb, rfl, hbb, hb5⟩; exact ⟨⟨bb, hbb⟩, rfl, hb5, trivial⟩)
          rintro ⟨bb, hbb⟩
          rw [tyEq_f]
          go_simp
          apply wpRel_nil (Ts := [])
          intro wq hl hF
          have HBZ := Lib.hid (HBR.out.trans ((((Below.refl _ wx).drew).trans hl).mono HBR.out.size))
          clear hl hF HX HY
          cases bb
          · go_wp2_with fail
            go_ret
            refine ⟨false, rfl, ⟨fun h => (by cases h), fun h => ?_⟩, bnext HB.out HBZ.out⟩
            injection h with _ h
            subst h
            exact absurd (hbb.2 (by rw [HTJ.out, HUJ.out])) (by decide)
          · have hbt : l[j]'hlt = m[j]'hltm := by rw [← HTJ.out, ← HUJ.out]; exact hbb.1 rfl
            go_wp2_with fail
            go_roundw
            case rel => exact ⟨j + 1, by omega, by go_num, HBZ, fun x a b h => by
              by_cases e : x < j
              · exact HE.out x a b e
              · obtain rfl : x = j := by omega
                exact hbt⟩
            case measure => simp [intOf]; omega
        · obtain rfl : j = l.length := by omega
          go_wp2_with fail
          go_ret
          refine ⟨true, rfl, ⟨fun _ => ?_, fun _ => rfl⟩, bnext HB.out HBR.out⟩
          rw [show l = m from List.ext_getElem HLEN.out (fun x a b => HE.out x a b a)]
    · have hne : (((l.length : Nat) : Int) != ((m.length : Nat) : Int)) = true := by rw [bne_iff_ne]; omega
      go_enter Try.func22, Try.ntmps22
      go_wp2_with fail
      go_ret
      exact ⟨false, rfl, ⟨fun h => (by cases h), fun h => by injection h with _ h; exact absurd (by rw [h]) hlen⟩, HB.out⟩
  · have hs2 := bytes_ne2 hs
    have hs3 : (s1.toList != s2.toList) = true := by simp [bne, hs2]
    go_enter Try.func22, Try.ntmps22
    go_wp2_with fail
    go_ret
    exact ⟨false, rfl, ⟨fun h => (by cases h), fun e => by injection e with e _; exact absurd e hs⟩, HB.out⟩
theorem rsameN_any {A1 A2 : Nat → Prop} : ∀ (N : Nat) (t u : Tp), SizeOf.sizeOf t < N → SameC 22 A1 A2 t u
  | 0, t, _, hN => absurd hN (by omega)
  | N + 1, .mk s l, .mk u m, hN => rsame_step s u l m fun j a b => rsameN_any N l[j] m[j] (by
      have h3 := List.sizeOf_lt_of_mem (List.getElem_mem a)
      simp only [Tp.mk.sizeOf_spec] at hN
      omega)
theorem rsame_any {A1 A2 : Nat → Prop} (t u : Tp) : SameC 22 A1 A2 t u := rsameN_any _ t u (Nat.lt_succ_self _)
/-- lists that read as types -/
theorem rsameL_any {A1 A2 : Nat → Prop} (l m : List Tp) (p1 p2 : Option Addr) (n1 n2 c1 c2 : Nat) (w : World) (h1 : IsPs A1 w (.slice p1 n1 c1) l) (h2 : IsPs A2 w (.slice p2 n2 c2) m) :
    Calls Try.prog 38 #[.slice p1 n1 c1, .slice p2 n2 c2] w fun e w' => ∃ b : Bool, e = .returned (.bool b) ∧ (b = true ↔ l = m) ∧ Below w.heap.size w w' := by
  have HC := Lib.hid (rsame_any (.mk ⟨#[]⟩ l) (.mk ⟨#[]⟩ m) ⟨⟨#[]⟩, p1, n1, c1⟩ ⟨⟨#[]⟩, p2, n2, c2⟩ w (IsP.node _ h1) (IsP.node _ h2))
  clear h1 h2
  go_enter Try.func38, Try.ntmps38
  go_wp2_with fail
  refine HC.out.mono ?_
  rintro e w5 ⟨bb, rfl, hbb, hb5⟩
  have HBZ := Lib.hid hb5
  have HBB := Lib.hid hbb
  clear hbb hb5
  go_wp2_with fail
  go_ret
  exact ⟨bb, rfl, HBB.out.trans ⟨fun e => by injection e, fun e => by rw [e]⟩, HBZ.out⟩
end Go.Proofs.Ytbnnokibjccdaaa

/-
  LAWS of the statement that reads types: the bytes of a string, pieces of them as strings, a slice of five strings that was just laid.
-/
namespace Go.Proofs.Ytbnnokibjccdaaa
open Go Go.RowKit Go.Maps Go.Shelf
set_option linter.unusedVariables false
set_option linter.unusedSimpArgs false
set_option maxRecDepth 100000

/-- the bytes of L lie in block tb -/
def ByA (w : World) (tb : Nat) (L : List UInt8) : Prop := ∀ j (hj : j < L.length), w.cell? ⟨tb, j, none⟩ = some (.int .u8 (L[j].toNat : Int))
theorem ByA.later {w w' : World} {tb : Nat} {L : List UInt8} {B : Nat} (h : ByA w tb L) (hb : Below B w w') (ht : tb < B) : ByA w' tb L := fun j hj => by
  rw [hb.cell (p := ⟨tb, j, none⟩) ht]; exact h j hj
theorem ByA.piece {w : World} {tb : Nat} {L : List UInt8} (h : ByA w tb L) (k m c : Nat) (hm : k + m ≤ L.length) :
    (convert 38 9 (.slice (some ⟨tb, k, none⟩) m c)).run Try.prog w = .ok (.string ⟨((L.drop k).take m).toArray⟩) w := by
  have hl : ((L.drop k).take m).length = m := by rw [List.length_take, List.length_drop]; omega
  have h1 := run_convert_bytes_back (P := Try.prog) w 38 9 5 ⟨tb, k, none⟩ c ((L.drop k).take m) Try.underlying38 Try.underlying5 Try.underlying9 (by
    intro j hj
    have hk : k + j < L.length := by rw [hl] at hj; omega
    rw [add_lit, h (k + j) hk]
    simp)
  rwa [hl] at h1
/-- one byte in a slice of its own -/
def tvOne8 (c : Nat) : TyV := ⟨Nat × Unit, ⟨(0, ())⟩, fun x => .slice (some ⟨x.1, 0, none⟩) 1 1, fun x w => w.cell? ⟨x.1, 0, none⟩ = some (.int .u8 (c : Int)) ∧ x.1 < w.heap.size⟩
theorem tvOne8_good (c : Nat) (i k : Nat) : Good LB LB i k (tvOne8 c) :=
  ⟨fun x w w' hl h => ⟨(hl.cell (p := ⟨x.1, 0, none⟩) h.2).trans h.1, Nat.lt_of_lt_of_le h.2 hl.size⟩, fun _ x w w' hl h => ⟨(hl.cell (p := ⟨x.1, 0, none⟩) h.2).trans h.1, Nat.lt_of_lt_of_le h.2 hl.size⟩⟩
theorem tvOne8_f (c : Nat) (b : Nat) (u : Unit) : (tvOne8 c).f (b, u) = .slice (some ⟨b, 0, none⟩) 1 1 := rfl
theorem selLB {c k : Nat} {w w' : World} (h : LB w w') : sel LB LB c k w w' := by
  unfold sel; split <;> exact h
theorem one_isL {P : Program} {Pn : Ending → World → Prop} {c k : Nat} {v : Value} {w : World} : oneUpon P (sel LB LB c k) Pn (tvIs v) w (.ok (.value v) w) :=
  ⟨selLB (Below.refl _ _), (), rfl, trivial⟩
theorem tvOne8_mk {P : Program} {Pn : Ending → World → Prop} {c i k : Nat} {w : World} (ty : TypeId) :
    oneUpon P (sel LB LB i k) Pn (tvOne8 c) w (.ok (.value (.slice (some ⟨w.heap.size, 0, none⟩) 1 1)) (w.alloc (.cells #[.int .u8 (c : Int)] ty))) :=
  ⟨selLB (below_box w _), (w.heap.size, ()), rfl, by rw [Lib.cell_of_heap (heap_alloc_new w _)]; rfl, by rw [World.size_alloc]; exact Nat.lt_succ_self _⟩
theorem one8_text {w : World} {b c : Nat} (hc : c < 256) (h : w.cell? ⟨b, 0, none⟩ = some (.int .u8 (c : Int))) : (convert 38 9 (.slice (some ⟨b, 0, none⟩) 1 1)).run Try.prog w = .ok (.string ⟨#[UInt8.ofNat c]⟩) w := by
  have h1 := run_convert_bytes_back (P := Try.prog) w 38 9 5 ⟨b, 0, none⟩ 1 [UInt8.ofNat c] Try.underlying38 Try.underlying5 Try.underlying9 (by
    intro j hj
    simp at hj
    subst hj
    have e : (UInt8.ofNat c).toNat = c := by simp; omega
    rw [add_lit, h]
    simp
    omega)
  simpa using h1
theorem own_five (w : World) (base : Nat) (a b c d e : ByteArray) (hb : base ≤ w.heap.size) :
    OwnL encN 9 (w.alloc (.cells #[.string a, .string b, .string c, .string d, .string e] 9)) base (.slice (some ⟨w.heap.size, 0, none⟩) 5 5) [a, b, c, d, e] :=
  ⟨rfl, .inr ⟨w.heap.size, 5, #[.string a, .string b, .string c, .string d, .string e], rfl, hb, heap_alloc_new w _, Nat.le_refl _, by unfold maxLen; omega, rfl, rfl⟩⟩
/-- the slice of five strings -/
def tvFive (base : Nat) (L : List ByteArray) : TyV := ⟨Nat × Unit, ⟨(0, ())⟩, fun x => .slice (some ⟨x.1, 0, none⟩) 5 5, fun x w => OwnL encN 9 w base (.slice (some ⟨x.1, 0, none⟩) 5 5) L⟩
theorem tvFive_good (base : Nat) (L : List ByteArray) (i k : Nat) : Good LB LB i k (tvFive base L) :=
  ⟨fun x w w' hl h => OwnL.below h hl, fun _ x w w' hl h => OwnL.below h hl⟩
theorem tvFive_mk {P : Program} {Pn : Ending → World → Prop} {i k base : Nat} {w : World} (a b c d e : ByteArray) (hb : base ≤ w.heap.size) :
    oneUpon P (sel LB LB i k) Pn (tvFive base [a, b, c, d, e]) w (.ok (.value (.slice (some ⟨w.heap.size, 0, none⟩) 5 5)) (w.alloc (.cells #[.string a, .string b, .string c, .string d, .string e] 9))) :=
  ⟨selLB (below_box w _), (w.heap.size, ()), rfl, own_five w base a b c d e hb⟩
theorem tvFive_f (base : Nat) (L : List ByteArray) (b : Nat) (u : Unit) : (tvFive base L).f (b, u) = .slice (some ⟨b, 0, none⟩) 5 5 := rfl
theorem info_st : (Try.prog.info? 9).map (fun i => (i.zero, i.size, i.bytes)) = some (some (.string ⟨#[]⟩), encN.size, 16) := by kernel_rfl
theorem keepC {w w' : World} {a : Addr} {v : Value} (hb : Below w.heap.size w w') (h : w.cell? a = some v) : w'.cell? a = some v := (hb.cell (World.block_lt_of_cell? w _ h)).trans h
/-- the bytes that are put in -/
def four (c : Nat) : List Nat := [60, 62, 44, c]
theorem four_lt (c m : Nat) (hc : c < 256) (h : m < 4) : ∃ cv : Nat, cv < 256 ∧ (four c)[m]? = some cv := by
  rcases m with _ | _ | _ | _ | m
  · exact ⟨60, by decide, rfl⟩
  · exact ⟨62, by decide, rfl⟩
  · exact ⟨44, by decide, rfl⟩
  · exact ⟨c, hc, rfl⟩
  · omega
theorem four_cell (w : World) (c m cv : Nat) (h : (four c)[m]? = some cv) : (w.alloc (.cells #[.int .u8 60, .int .u8 62, .int .u8 44, .int .u8 (c : Int)] 5)).cell? ⟨w.heap.size, m, none⟩ = some (.int .u8 (cv : Int)) := by
  rw [Lib.cell_of_heap (heap_alloc_new w _)]
  rcases m with _ | _ | _ | _ | m
  all_goals first | (injection h with h; subst h; rfl) | (exact absurd h (by simp [four]))
end Go.Proofs.Ytbnnokibjccdaaa
