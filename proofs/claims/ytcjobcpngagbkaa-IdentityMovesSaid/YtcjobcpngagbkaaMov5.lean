/-
  WALK: IdentityMoves.
-/
import Derived.Test.YtcjobcpngagbkaaMov5P
import Derived.Test.YtcjobcpngagbkaaMod
namespace Go.Proofs.Ytcjobcpngagbkaa.Idn
open Go Go.RowKit Go.Maps
set_option linter.unusedVariables false
set_option linter.unusedSimpArgs false

theorem base_thrown {d : Dice} {w w2 w3 : World} (hB : Below w.heap.size w w2) (ht : Thrown d w2 w3) (hD : w.heap.size ≤ d.D) : Below w.heap.size w w3 :=
  hB.trans (ht.but.below hB.size (fun q hq => by unfold isAt at hq; subst hq; exact hD))
theorem all_split (l1 : List It) (x : It) (l2 : List It) : encIt.all (l1 ++ x :: l2) = encIt.all l1 ++ ([.string x.1, .string x.2.1, .string x.2.2] ++ encIt.all l2) := by
  rw [encIt.all_append]
  congr 1
theorem own_shape {w : World} {base gb cap N k : Nat} {l1 l2 : List It} {x0 : It} (s : ByteArray) (h : OwnL encIt itT w base (.slice (some ⟨gb, 0, none⟩) N cap) (l1 ++ x0 :: l2)) (hN : N = (l1 ++ x0 :: l2).length) (hK : k = l1.length) (hb : base ≤ w.heap.size) :
    CellsAt (w.setCell ⟨gb, k * 3 + 2, none⟩ (.string s)) gb 0 (encIt.all (l1 ++ (x0.1, x0.2.1, s) :: l2)) ∧ Below base w (w.setCell ⟨gb, k * 3 + 2, none⟩ (.string s)) ∧
      w.cell? ⟨gb, k * 3 + 2, none⟩ = some (.string x0.2.2) ∧ w.frozen? ⟨gb, k * 3 + 2, none⟩ = false := by
  subst hN; subst hK
  have hlt := fun k hk => (ownI_lt (k := k) h hk).1
  have hsl := (h.sl.lies).2.2.2 (by simp; omega)
  unfold OwnL at h
  obtain ⟨s1, s2⟩ := World.ownsRow.stored h (l1.length * 3 + 2) (.string s)
  have hk : l1.length * 3 + 2 - (encIt.all l1).length = 2 := by rw [encIt.all_length]; show _ - l1.length * 3 = 2; omega
  have hle : (encIt.all l1).length ≤ l1.length * 3 + 2 := by rw [encIt.all_length]; show l1.length * 3 ≤ _; omega
  have e : (encIt.all (l1 ++ x0 :: l2)).set (l1.length * 3 + 2) (.string s) = encIt.all (l1 ++ (x0.1, x0.2.1, s) :: l2) := by
    rw [all_split, all_split, List.set_append_right _ _ hle, hk]
    rfl
  have eg : (encIt.all (l1 ++ x0 :: l2))[l1.length * 3 + 2]? = some (.string x0.2.2) := by
    rw [all_split, List.getElem?_append_right hle, hk]
    rfl
  rw [e] at s1
  have ho : OwnL encIt itT (w.setCell ⟨gb, l1.length * 3 + 2, none⟩ (.string s)) base (.slice (some ⟨gb, 0, none⟩) (l1 ++ x0 :: l2).length cap) (l1 ++ (x0.1, x0.2.1, s) :: l2) := by
    unfold OwnL
    simpa using s1
  obtain ⟨b, off, q, hc⟩ := (ho.sl.lies).2.2.2 (by simp; omega)
  obtain ⟨b', off', q', hc'⟩ := hsl
  cases q; cases q'
  refine ⟨hc, (Below.refl _ _).grown s2 hb (fun k hk => hlt k hk), ?_, World.ownsRow.frozenAt h _⟩
  have := hc' _ _ eg
  simpa using this

theorem sl_thrown {d : Dice} {w w' : World} {q : Option Addr} {m c : Nat} {E : List En} (hs : SlIs encEn w (.slice q m c) E) (hd : DiceAt d w) (h2 : w.cell? ⟨d.D, 2, none⟩ = none) (ht : Thrown d w w') : SlIs encEn w' (.slice q m c) E := by
  obtain ⟨h1, h3, h4, hl⟩ := hs.lies
  refine ⟨_, _, by rw [h1], by omega, h4, fun h => ?_⟩
  have hE : 0 < E.length := by first | exact h | exact List.length_pos_iff.2 h
  obtain ⟨b, off, rfl, hc⟩ := hl (by omega)
  refine ⟨b, off, rfl, fun j v hv => ?_⟩
  refine ht.but.keep (hc j v hv) (fun hq => ?_)
  unfold isAt at hq
  obtain ⟨c0, c1, -, -⟩ := enAt hc 0 hE
  simp only [Nat.zero_mul, Nat.add_zero] at c0 c1
  injection hq with e1 e2 _
  subst e1
  have hr := hd.row
  rcases (show off = 0 ∨ off = 1 by omega) with rfl | rfl
  · rw [hr] at c0; cases c0
  · rw [h2] at c1; cases c1
def tyOwnI (base : Nat) (zs : List It) : Ty LeW := ⟨{v : Value // True}, ⟨⟨undef, trivial⟩⟩, fun v => v.1, fun v w => OwnL encIt itT w base v.1 zs, fun x w w' hl h => h.below hl⟩
theorem tyOwnI_f (base : Nat) (zs : List It) (v : Value) (h : True) : (tyOwnI base zs).f ⟨v, h⟩ = v := rfl
theorem tyOwnI_p (base : Nat) (zs : List It) (v : Value) (h : True) (w : World) : (tyOwnI base zs).φ ⟨v, h⟩ w = OwnL encIt itT w base v zs := rfl
theorem find_c {n1 was : Int} {q2 : Option Addr} {m2 c2 : Nat} {E2 : List En} {s : ByteArray} {W : World} (hf : foundV E2 (dfn (nC, s, alone)) = .tuple #[.int .i64 was, .bool true]) (hl : E2.length ≤ 12) (hs : SlIs encEn W (.slice q2 m2 c2) E2) :
    Calls Try.prog 17 #[.agg #[.int .i64 n1, .slice q2 m2 c2], .string ⟨#[99]⟩, .string s] W fun e w' => e = .returned (.tuple #[.int .i64 was, .bool true]) ∧ Below W.heap.size W w' := by
  have h := find_any n1 q2 m2 c2 E2 ⟨#[99]⟩ s W (by omega) hs
  have e : foundV E2 (⟨#[99]⟩, s) = _ := hf
  rw [e] at h
  exact h
theorem relAt_append {P : Program} {ops : Array Oper} {o : Oper} {a : Act} {Le : World → World → Prop} {t : Ty Le} {w w' : World} {s x : Operand} {sT : TypeId} {v u v' : Value} (hgd : o.guard = none)
    (ho : o.op = .call { callee := .builtin .append, args := #[s, x], argTypes := #[sT, sT] }) (hs : a.eval s = v) (hx : a.eval x = u) (hr : (Builtin.append_ #[sT, sT] o.type #[v, u]).run P w = .ok v' w') (h : relUpon P Le t w (.ok (.value v') w')) : relAt P ops Le t o a w := by
  have hw : Region.wanted o (yielded ops a.tmps) = true := by simp [Region.wanted, hgd]
  unfold relAt
  rw [if_pos hw]
  unfold execOp
  simp only [ho, resolve, invoke, builtin, Sem.run_bind, Sem.run_pure, Result.andThen_ok, List.map_toArray, List.map_cons, List.map_nil, hs, hx, hr]
  exact h
theorem app_one {w : World} {base gb k cp : Nat} {l1 : List It} (hb : base ≤ w.heap.size) (hc : CellsAt w gb 0 (encIt.all l1)) (hk : k = l1.length) (hk8 : k ≤ 8) (ty : TypeId) :
    ∃ v' w', (Builtin.append_ #[34, 34] ty #[.slice none 0 0, .slice (some ⟨gb, 0, none⟩) k cp]).run Try.prog w = .ok v' w' ∧ relUpon Try.prog LeW (tyOwnI base l1) w (.ok (.value v') w') := by
  obtain ⟨i0, hi0, hz0, hz1, hz2⟩ := info_parts info_it
  obtain ⟨v', w', hr, h2, h3, _, h5⟩ := run_append_own_at (P := Try.prog) w base 34 ty itT i0 (.agg #[.string ⟨#[]⟩, .string ⟨#[]⟩, .string ⟨#[]⟩]) 3 48 Try.underlying34 hi0 hz0 hz1 hz2 rfl (by decide) (.slice none 0 0) 0 [] (World.ownsRow_nil w base _ _) ⟨gb, 0, none⟩ k cp (encIt.all l1) (by rw [encIt.all_length, hk]; rfl) (fun j u hj => by rw [add_lit]; exact hc j u hj) (encIt.all_one l1) (by unfold maxLen; omega) (by omega) hb
  refine ⟨v', w', hr, ?_, ⟨v', trivial⟩, rfl, ?_⟩
  · exact (Below.refl _ _).grown h3 (Nat.le_refl _) (fun k hk => by cases hk)
  · rw [tyOwnI_p]
    unfold OwnL
    rw [← hk]
    simp only [Nat.zero_add, List.nil_append] at h2
    exact h2

set_option maxHeartbeats 4000000 in
set_option maxRecDepth 1000000 in
theorem walk5 (p : Option Addr) (n cap : Nat) (fr : Int) (w : World) (hx : -9223372036854775808 ≤ fr) (hx2 : fr ≤ 9223372036854775807) (hn : n ≤ maxLen) (hr : Rolls w p n) (hb : ∀ b o, p = some ⟨b, o, none⟩ → b < w.heap.size) :
    Calls Try.prog 5 #[.slice p n cap, .int .i64 fr] w fun e w' => e = .returned (.bool true) ∧ Below w.heap.size w w' := by
  by_cases h1 : 400 < n
  · clear hr hb
    go_enter Try.func5, Try.ntmps5
    go_wp2_with fail
    refine (light_no p n cap _ h1 hn).mono ?_
    rintro e w1 ⟨rfl, rfl⟩
    go_wp2_with fail
    refine (awake_any _).mono ?_
    rintro e w1 ⟨rfl, hb⟩
    have HB := Lib.hid hb
    clear hb
    go_wp2_with fail
    go_ret
    exact ⟨rfl, HB.out⟩
  · have HDW := Lib.hid (rolled (cap := cap) (show n ≤ 400 by omega) hr hb)
    clear hr hb
    go_enter Try.func5, Try.ntmps5
    go_wp2_with fail
    refine (light_yes p n cap _ (by omega)).mono ?_
    rintro e w2 ⟨rfl, rfl⟩
    go_wp2_with fail
    refine (roll_any p n cap _).mono ?_
    rintro e w3 ⟨rfl, rfl⟩
    go_wp2_with fail
    generalize hd : (⟨w2.heap.size, p, n, cap⟩ : Dice) = d at *
    have hdD : w2.heap.size = d.D := by rw [← hd]
    rw [hdD]
    have HB3 : Hid (Below w2.heap.size w2 (w2.alloc (.cells #[.slice p n cap, .int .i64 0] 50))) := below_box w2 _
    have HNO : Hid ((w2.alloc (.cells #[.slice p n cap, .int .i64 0] 50)).cell? ⟨d.D, 2, none⟩ = none) := by rw [← hdD]; exact (by rw [Lib.cell_of_heap (heap_alloc_new w2 _)]; rfl)
    have HD2 := Lib.hid hdD
    clear hdD
    generalize w2.alloc (.cells #[.slice p n cap, .int .i64 0] 50) = w3 at *
    refine (items_any d w3 HDW.out.1).mono ?_
    rintro e w4 ⟨v, l, rfl, hm, ho, ht⟩
    have HD3 : Hid (w2.heap.size ≤ d.D) := Nat.le_of_eq HD2.out
    have HD4 : Hid (d.D < w3.heap.size) := World.block_lt_of_cell? w3 _ HDW.out.1.at_
    have HB4 := Lib.hid (base_thrown HB3.out ht HD3.out)
    have HM := Lib.hid hm
    have HO := Lib.hid ho
    have HG := Lib.hid ht.good
    have HS3 : Hid (w2.heap.size ≤ w3.heap.size) := HB3.out.size
    have HS4 : Hid (w3.heap.size ≤ w4.heap.size) := ht.but.size
    have HT34 := Lib.hid ht
    have HD30 := Lib.hid HDW.out.1
    clear hm ho ht HDW HB3 hd
    by_cases h0 : l = []
    · subst h0
      obtain ⟨q, c, rfl⟩ : ∃ q c, v = .slice q 0 c := by obtain ⟨⟨q, c, e, -⟩, -⟩ := HO.out.sl |> fun s => (⟨s, trivial⟩ : _ ∧ True); exact ⟨q, c, e⟩
      go_wp2_with fail
      refine (awake_any _).mono ?_
      rintro e w5 ⟨rfl, hb⟩
      have HB := Lib.hid (bnext HB4.out hb)
      clear hb
      go_wp2_with fail
      go_ret
      exact ⟨rfl, HB.out⟩
    · obtain ⟨N, gb, cp, hN, rfl, hgb1, hgb2⟩ : ∃ N gb cp, N = l.length ∧ v = .slice (some ⟨gb, 0, none⟩) N cp ∧ w3.heap.size ≤ gb ∧ gb < w4.heap.size := by
        have h := HO.out
        have hh := h
        obtain ⟨h1, h2 | ⟨gb, cp, cur, e, hb', hg, rest⟩⟩ := h
        · obtain ⟨h2a, h2b⟩ := h2
          exact absurd (List.length_eq_zero_iff.1 h2b) h0
        · subst e
          exact ⟨_, gb, cp, rfl, rfl, ownI_lt hh rfl⟩
      obtain ⟨k, hmod, hk0, hkl⟩ := mod_any fr N (by have := List.length_pos_iff.2 h0; omega) (by have := HM.out.len; omega) hx hx2
      obtain ⟨k, rfl⟩ : ∃ j : Nat, k = (j : Int) := ⟨k.toNat, by omega⟩
      have hkl' : k < l.length := by omega
      obtain ⟨l1, x0, l2, rfl, hK⟩ : ∃ l1 x0 l2, l = l1 ++ x0 :: l2 ∧ k = l1.length := ⟨l.take k, l[k], l.drop (k + 1), by rw [← List.drop_eq_getElem_cons hkl', List.take_append_drop], by rw [List.length_take]; omega⟩
      have hcp := HO.out.sl.lies
      have hNcp : N ≤ cp := hcp.2.1
      have hcpm : cp ≤ 9223372036854775807 := by have := hcp.2.2.1; unfold maxLen at this; omega
      have hl8 := HM.out.len
      have hln : N = k + l2.length + 1 := by rw [hN, hK]; simp; omega
      have HMV : Hid (∀ nm : ByteArray, nm.size ≤ 2 → _) := fun nm hnm => made_moves (nm := nm) HM.out hnm
      obtain ⟨ha1, hf1, -, -, was, hmv0⟩ := HMV.out ⟨#[]⟩ (by decide)
      have HWB := Lib.hid hmv0.wasb
      have HF1 := Lib.hid hmv0.found1
      have HU1 : Hid (∀ W, CellsAt W gb 0 (encIt.all (l1 ++ (x0.1, x0.2.1, alone) :: l2)) → _) := fun W hc => updateOk_any 1 none 0 0 [] (some ⟨gb, 0, none⟩) N cp (l1 ++ (x0.1, x0.2.1, alone) :: l2) W c5z ha1 (SlIs.isNil _ _) (fun y hy => by cases hy) (by simp) ⟨some ⟨gb, 0, none⟩, cp, by rw [hN]; simp, by rw [hN] at hcp; simp at hcp ⊢; omega, hcp.2.2.1, fun _ => ⟨gb, 0, rfl, hc⟩⟩ hf1 (by simp at hl8 ⊢; omega) (by have := hmv0.low; omega)
      have HE1 := Lib.hid hmv0.mem1
      have HL1 := Lib.hid hmv0.len1
      have HN1 := Lib.hid hmv0.low
      have HC1 := Lib.hid hmv0.chk1
      have HFI1 := Lib.hid hf1
      clear hmv0 ha1 hf1
      generalize byId (given 1 [] (l1 ++ (x0.1, x0.2.1, alone) :: l2)) = E1 at *
      generalize nextV 1 [] (l1 ++ (x0.1, x0.2.1, alone) :: l2) = n1 at *
      have HSH := Lib.hid (own_shape alone HO.out hN hK HS4.out)
      have q0 := HSH.out.2.2.1
      have q1 := HSH.out.2.2.2
      have HU := Lib.hid (HU1.out _ HSH.out.1)
      clear hcp HO HU1
      have hl8' : N ≤ 8 := by omega
      have hkN : k < N := by omega
      have HLN := Lib.hid hln
      clear hln hkl hkl'
      have HKL := Lib.hid hK
      clear hK hN hl8 h0
      go_wp2_with (first
        | (go_at_call 18; refine (hmod _).mono ?_; rintro e w5 ⟨rfl, rfl⟩)
        | (go_at_call 14; refine HU.out.mono ?_; rintro e w6 ⟨q, m, c, rfl, hs6, hb6⟩; have HS6 := Lib.hid hs6; have HB6 := Lib.hid hb6; clear hs6 hb6 HU q0 q1)
        | fail)
      have HL4 : Hid (LeW w6 (w6.alloc (.cells #[.int .i64 n1, .slice q m c] 29)).drew) := ((below_box w6 (.cells #[.int .i64 n1, .slice q m c] 29))).trans ((Below.refl _ _).drew)
      have HC7 := Lib.hid ((HSH.out.1.below HB6.out).below HL4.out)
      have HX7 := Lib.hid ((cellsAt_alloc w6 [.int .i64 n1, .slice q m c] 29).below ((Below.refl _ _).drew))
      have HS7 := Lib.hid (HS6.out.below HL4.out)
      have HIK : Hid (∀ W, CellsAt W gb 0 (encIt.all (l1 ++ (x0.1, x0.2.1, alone) :: l2)) → W.cell? ⟨gb, k * 3, none⟩ = some (.string x0.1) ∧ W.cell? ⟨gb, k * 3 + 1, none⟩ = some (.string x0.2.1)) := fun W hc => by
        have h := itAt hc k (by have := HKL.out; simp; omega)
        have e : (l1 ++ (x0.1, x0.2.1, alone) :: l2).getD k it0 = (x0.1, x0.2.1, alone) := by have := HKL.out; subst this; simp
        rw [e] at h
        simp only [Nat.zero_add] at h
        exact ⟨h.1, h.2.1⟩
      have HFN : Hid (∀ W, SlIs encEn W (.slice q m c) E1 → Calls Try.prog 17 #[.agg #[.int .i64 n1, .slice q m c], .string x0.1, .string x0.2.1] W fun e w' => e = .returned (.tuple #[.int .i64 was, .bool true]) ∧ Below W.heap.size W w') := fun W hs => by
        have h := find_any n1 q m c E1 x0.1 x0.2.1 W (by have := HL1.out; omega) hs
        have e : foundV E1 (x0.1, x0.2.1) = _ := HF1.out
        rw [e] at h
        exact h
      clear HL4
      apply wp_region_relT LeW.refl LeW.trans 16
      case hm => kernel_rfl
      case hB => kernel_rfl
      simp only [List.take_succ_cons, List.take_zero, List.drop_succ_cons, List.drop_zero]
      apply wpRel_cons (t := tyIs _ _)
      case h1 => (intro w' hl hd2; obtain ⟨y0, y1⟩ := en2 (HX7.out.below hl); clear hl hd2; unfold relAt; go_simp; exact rel_is LeW.refl)
      intro _
      rw [tyIs_f]
      go_simp
      apply wpRel_cons (t := tyIs _ _)
      case h1 => (intro w' hl hd2; clear hl hd2; unfold relAt; go_simp; exact rel_is LeW.refl)
      intro _
      rw [tyIs_f]
      go_simp
      apply wpRel_cons (t := tyIs _ _)
      case h1 => (intro w' hl hd2; clear hl hd2; unfold relAt; go_simp; exact rel_is LeW.refl)
      intro _
      rw [tyIs_f]
      go_simp
      apply wpRel_cons (t := tyIs _ _)
      case h1 => (intro w' hl hd2; clear hl hd2; unfold relAt; go_simp; exact rel_is LeW.refl)
      intro _
      rw [tyIs_f]
      go_simp
      apply wpRel_cons (t := tyIs _ _)
      case h1 => (intro w' hl hd2; clear hl hd2; unfold relAt; go_simp; exact rel_is LeW.refl)
      intro _
      rw [tyIs_f]
      go_simp
      apply wpRel_cons (t := tyIs _ _)
      case h1 => (intro w' hl hd2; obtain ⟨z0, z1⟩ := HIK.out _ (HC7.out.below hl); clear hl hd2; unfold relAt; go_simp; exact rel_is LeW.refl)
      intro _
      rw [tyIs_f]
      go_simp
      apply wpRel_cons (t := tyIs _ _)
      case h1 => (intro w' hl hd2; clear hl hd2; unfold relAt; go_simp; exact rel_is LeW.refl)
      intro _
      rw [tyIs_f]
      go_simp
      apply wpRel_cons (t := tyIs _ _)
      case h1 => (intro w' hl hd2; clear hl hd2; unfold relAt; go_simp; exact rel_is LeW.refl)
      intro _
      rw [tyIs_f]
      go_simp
      apply wpRel_cons (t := tyIs _ _)
      case h1 => (intro w' hl hd2; clear hl hd2; unfold relAt; go_simp; exact rel_is LeW.refl)
      intro _
      rw [tyIs_f]
      go_simp
      apply wpRel_cons (t := tyIs _ _)
      case h1 => (intro w' hl hd2; clear hl hd2; unfold relAt; go_simp; exact rel_is LeW.refl)
      intro _
      rw [tyIs_f]
      go_simp
      apply wpRel_cons (t := tyIs _ _)
      case h1 => (intro w' hl hd2; obtain ⟨z0, z1⟩ := HIK.out _ (HC7.out.below hl); clear hl hd2; unfold relAt; go_simp; exact rel_is LeW.refl)
      intro _
      rw [tyIs_f]
      go_simp
      apply wpRel_cons (t := tyIs _ (.tuple #[.int .i64 was, .bool true]))
      case h1 => (intro w' hl hd2; have hsl := HS7.out.below hl; clear hl hd2; unfold relAt; go_simp; refine ⟨LeW.refl _, ?_⟩; refine (HFN.out _ hsl).mono ?_; rintro e w'' ⟨rfl, hb''⟩; exact ⟨(), rfl, hb'', trivial⟩)
      intro _
      rw [tyIs_f]
      go_simp
      apply wpRel_cons (t := tyIs _ _)
      case h1 => (intro w' hl hd2; clear hl hd2; unfold relAt; go_simp; exact rel_is LeW.refl)
      intro _
      rw [tyIs_f]
      go_simp
      apply wpRel_cons (t := tyIs _ _)
      case h1 => (intro w' hl hd2; clear hl hd2; unfold relAt; go_simp; exact rel_is LeW.refl)
      intro _
      rw [tyIs_f]
      go_simp
      apply wpRel_cons (t := tyIs _ _)
      case h1 => (intro w' hl hd2; clear hl hd2; unfold relAt; go_simp; exact rel_is LeW.refl)
      intro _
      rw [tyIs_f]
      go_simp
      apply wpRel_cons (t := tyIs _ _)
      case h1 => (intro w' hl hd2; clear hl hd2; unfold relAt; go_simp; exact rel_is LeW.refl)
      intro _
      rw [tyIs_f]
      go_simp
      apply wpRel_nil (Ts := [])
      intro w8 hl8 hF8
      have hl9 : Below w6.heap.size w6 w8 := (((below_box w6 (.cells #[.int .i64 n1, .slice q m c] 29))).trans ((Below.refl _ _).drew)).trans (hl8.mono (below_box w6 _).size)
      have B68 : Below w3.heap.size w4 w8 := HSH.out.2.1.trans ((HB6.out.mono (Nat.le_trans HS4.out HSH.out.2.1.size)).trans (hl9.mono (Nat.le_trans (Nat.le_trans HS4.out HSH.out.2.1.size) HB6.out.size)))
      have HT8 : Hid (Thrown d w3 w8) := thrown_base HD30.out HT34.out B68
      have HB8 := Lib.hid (HB4.out.trans (B68.mono HS3.out))
      have HC8 := Lib.hid ((HSH.out.1.below HB6.out).below hl9)
      have HX8 := Lib.hid (HX7.out.below hl8)
      have HS8 := Lib.hid (HS6.out.below hl9)
      have HN8 : Hid (w8.cell? ⟨d.D, 2, none⟩ = none) := (HT8.out.but.cell _ HD4.out (fun q => by unfold isAt at q; cases q)).trans HNO.out
      have HXD : Hid (w6.heap.size ≠ d.D ∧ w6.heap.size < w8.heap.size) := ⟨by have := HD4.out; have := HS4.out; have := HSH.out.2.1.size; have := HB6.out.size; omega, World.block_lt_of_cell? w8 _ (HX8.out 0 _ rfl)⟩
      have HGD : Hid (gb ≠ d.D) := by have := HD4.out; unfold Hid; omega
      clear hl8 hl9 hF8 HC7 HX7 HS7 HS6 HB6 HSH HFN HIK B68 HG
      have HG9 : Hid (DiceAt d (w8.alloc (.cells #[.string ⟨#[120]⟩, .string ⟨#[121]⟩] 9))) := (thrown_alloc HT8.out.good _).good
      have HH9 : Hid (Shorts 1 (w8.alloc (.cells #[.string ⟨#[120]⟩, .string ⟨#[121]⟩] 9)) (some ⟨w8.heap.size, 0, none⟩) 2) := by
        intro i hi
        have hc := cellsAt_alloc w8 [.string ⟨#[120]⟩, .string ⟨#[121]⟩] 9
        rcases (show i = 0 ∨ i = 1 by omega) with rfl | rfl
        · exact ⟨_, _, _, rfl, hc 0 _ rfl, by decide⟩
        · exact ⟨_, _, _, rfl, hc 1 _ rfl, by decide⟩
      have HOF := Lib.hid (of_any d 1 2 2 w8.heap.size 0 _ HG9.out (by omega) (by omega) HH9.out (by have := HT8.out.but.size; have := HD4.out; omega))
      go_wp2_with (first
        | (go_at_call 13; refine HOF.out.mono ?_; rintro e w10 ⟨s, hsz, rfl, ht10⟩; have HT10 := Lib.hid ht10; have HSZ := Lib.hid hsz; clear ht10 hsz HOF)
        | fail)
      have HT10b : Hid (Thrown d w8 w10) := (thrown_alloc HT8.out.good _).trans HT10.out
      have HD8 : Hid (w3.heap.size ≤ w8.heap.size) := HT8.out.but.size
      have HB10 := Lib.hid (base_thrown HB8.out HT10b.out HD3.out)
      have HL10 : Hid (LeW w10 (w10.alloc (.cells #[.string ⟨#[99]⟩, .string s, .string ⟨#[97, 108, 111, 110, 101]⟩] itT)).drew) := (below_box w10 _).trans ((Below.refl _ _).drew)
      have HSZ11 : Hid (∀ w', LeW (w10.alloc (.cells #[.string ⟨#[99]⟩, .string s, .string ⟨#[97, 108, 111, 110, 101]⟩] itT)).drew w' → w10.heap.size + 1 ≤ w'.heap.size) := fun w' hl => by
        have h := Below.size hl
        have h' : (w10.alloc (.cells #[.string ⟨#[99]⟩, .string s, .string ⟨#[97, 108, 111, 110, 101]⟩] itT)).heap.size ≤ w'.heap.size := h
        rw [World.size_alloc] at h'
        exact h'
      have HC10 := Lib.hid (cells_thrown HC8.out HT10b.out HGD.out)
      have HX10 := Lib.hid (cells_thrown HX8.out HT10b.out HXD.out.1)
      have HS10 := Lib.hid (sl_thrown HS8.out HT8.out.good HN8.out HT10b.out)
      have HC11 := Lib.hid (HC10.out.below HL10.out)
      have HY11 := Lib.hid ((cellsAt_alloc w10 [.string ⟨#[99]⟩, .string s, .string ⟨#[97, 108, 111, 110, 101]⟩] itT).below ((Below.refl _ _).drew))
      obtain ⟨k1, hk1⟩ : ∃ k1, k1 = k + 1 := ⟨_, rfl⟩
      have HK1E := Lib.hid hk1
      have hwr : IntKind.i64.wrap ((k : Int) + 1) = (k1 : Int) := by rw [IntWalk.i64_in _ (by omega)]; omega
      have hk1N : k1 ≤ N := by omega
      clear hk1
      have HK1 : Hid (∀ W, CellsAt W gb 0 (encIt.all (l1 ++ (x0.1, x0.2.1, alone) :: l2)) → CellsAt W gb 0 (encIt.all l1)) := fun W hc j v hv => hc j v (by rw [encIt.all_append, List.getElem?_append_left (by have := (List.getElem?_eq_some_iff.1 hv).1; omega)]; exact hv)
      have HK2 : Hid (∀ W, CellsAt W gb 0 (encIt.all (l1 ++ (x0.1, x0.2.1, alone) :: l2)) → CellsAt W gb (k1 * 3) (encIt.all l2)) := fun W hc j v hv => by
        have hle : (encIt.all l1).length = k * 3 := by rw [encIt.all_length, HKL.out]; rfl
        have e : (encIt.all (l1 ++ (x0.1, x0.2.1, alone) :: l2))[k1 * 3 + j]? = some v := by
          rw [all_split, List.getElem?_append_right (by have := HK1E.out; omega), hle, List.getElem?_append_right (by have := HK1E.out; show 3 ≤ _; omega)]
          show (encIt.all l2)[k1 * 3 + j - k * 3 - 3]? = some v
          rw [show k1 * 3 + j - k * 3 - 3 = j by have := HK1E.out; omega]
          exact hv
        have := hc (k1 * 3 + j) v e
        rw [Nat.zero_add] at this
        exact this
      have hk8 : k ≤ 8 := by omega
      have hkcp : k ≤ cp := by omega
      clear HC8 HX8 HS8 HL10 HT10
      apply wp_region_relT LeW.refl LeW.trans 8
      case hm => kernel_rfl
      case hB => kernel_rfl
      simp only [List.take_succ_cons, List.take_zero, List.drop_succ_cons, List.drop_zero]
      apply wpRel_cons (t := tyIs _ _)
      case h1 => (intro w' hl hd2; clear hl hd2; unfold relAt; go_simp; exact rel_is LeW.refl)
      intro _
      rw [tyIs_f]
      go_simp
      apply wpRel_cons (t := tyIs _ _)
      case h1 => (intro w' hl hd2; clear hl hd2; unfold relAt; go_simp; exact rel_is LeW.refl)
      intro _
      rw [tyIs_f]
      go_simp
      apply wpRel_cons (t := tyIs _ _)
      case h1 => (intro w' hl hd2; clear hl hd2; unfold relAt; go_simp; exact rel_is LeW.refl)
      intro _
      rw [tyIs_f]
      go_simp
      apply wpRel_cons (t := tyOwnI (w10.heap.size + 1) l1)
      case h1 => (intro w' hl hd2; obtain ⟨v', w'', hr, ho⟩ := app_one (cp := cp) (w := w') (base := w10.heap.size + 1) (HSZ11.out _ hl) (HK1.out _ (HC11.out.below hl)) HKL.out hk8 34; clear hl hd2; exact relAt_append rfl rfl rfl rfl hr ho)
      rintro ⟨v1, -⟩
      rw [tyOwnI_f]
      go_simp
      apply wpRel_cons (t := tyIs _ _)
      case h1 => (intro w' hl hd2; clear hl hd2; unfold relAt; go_simp; exact rel_is LeW.refl)
      intro _
      rw [tyIs_f]
      go_simp
      apply wpRel_cons (t := tyIs _ _)
      case h1 => (intro w' hl hd2; clear hl hd2; unfold relAt; go_simp; exact rel_is LeW.refl)
      intro _
      rw [tyIs_f]
      go_simp
      apply wpRel_cons (t := tyIs _ _)
      case h1 => (intro w' hl hd2; clear hl hd2; unfold relAt; go_simp; exact rel_is LeW.refl)
      intro _
      rw [tyIs_f]
      go_simp
      apply wpRel_cons (t := tyIs _ _)
      case h1 => (intro w' hl hd2; clear hl hd2; unfold relAt; go_simp; exact rel_is LeW.refl)
      intro _
      rw [tyIs_f]
      go_simp
      apply wpRel_nil (Ts := [])
      intro w12 hl12 hF12
      have ho1 : OwnL encIt itT w12 (w10.heap.size + 1) v1 l1 := hF12 3
      have HO1 := Lib.hid ho1
      have hs12 : w10.heap.size + 1 ≤ w12.heap.size := HSZ11.out _ hl12
      have HS12 := Lib.hid hs12
      have HC12 := Lib.hid (HC11.out.below hl12)
      have HY12 := Lib.hid (HY11.out.below hl12)
      have HB12 : Hid (Below w10.heap.size w10 w12) := ((below_box w10 (.cells #[.string ⟨#[99]⟩, .string s, .string ⟨#[97, 108, 111, 110, 101]⟩] itT)).trans ((Below.refl _ _).drew)).trans (hl12.mono (below_box w10 (.cells #[.string ⟨#[99]⟩, .string s, .string ⟨#[97, 108, 111, 110, 101]⟩] itT)).size)
      clear ho1 hl12 hF12 HC10 HC11 HY11 HSZ11 hs12
      refine wpList_appendL (E := encIt) Try.underlying34 info_it ?_ rfl (.tmp 67) (.tmp 71) rfl (w10.heap.size + 1) v1 l1 ?_ HO1.out (if cp = k1 then some ⟨gb, 0, none⟩ else some ⟨gb, k1 * 3, none⟩) (N - k1) (cp - k1) l2 ?_ ?_ ?_ ?_ ?_ ?_ HS12.out ?_
      · rfl
      · rfl
      · rfl
      · have := HLN.out; have := HK1E.out; omega
      · intro h
        refine ⟨gb, k1 * 3, ?_, HK2.out _ HC12.out⟩
        have := HLN.out; have := HK1E.out
        rw [if_neg (by omega)]
      · intro h
        by_cases e : cp = k1
        · rw [if_pos e] at h; cases h
        · rw [if_neg e] at h; cases h
      · have := HLN.out; have := HKL.out; unfold Hid maxLen; omega
      · have := HLN.out; have := HKL.out; unfold Hid; omega
      · intro v2 w13 ho2 hb13
        generalize (if cp = k1 then some (⟨gb, 0, none⟩ : Addr) else some ⟨gb, k1 * 3, none⟩) = pp at *
        have HO2 := Lib.hid (ho2.alloc (.cells #[.string ⟨#[99]⟩, .string s, .string ⟨#[97, 108, 111, 110, 101]⟩] itT))
        have HB13 := Lib.hid hb13
        have HY13 : Hid (CellsAt w13 w10.heap.size 0 [.string ⟨#[99]⟩, .string s, .string ⟨#[97, 108, 111, 110, 101]⟩]) := fun j v hv => by rw [hb13.cell (by show w10.heap.size < w10.heap.size + 1; omega)]; exact HY12.out j v hv
        have hs13 : w10.heap.size + 1 ≤ (w13.alloc (.cells #[.string ⟨#[99]⟩, .string s, .string ⟨#[97, 108, 111, 110, 101]⟩] itT)).heap.size := by have := hb13.size; have := HS12.out; rw [World.size_alloc]; omega
        have HS13 := Lib.hid hs13
        clear ho2 hb13 hs13
        obtain ⟨y0, y1, y2⟩ := en3 HY13.out
        have HLY : Hid (LiesL encIt (w13.alloc (.cells #[.string ⟨#[99]⟩, .string s, .string ⟨#[97, 108, 111, 110, 101]⟩] itT)) (some ⟨w13.heap.size, 0, none⟩) [(nC, s, alone)]) := fun _ => ⟨w13.heap.size, 0, rfl, cellsAt_alloc w13 [.string ⟨#[99]⟩, .string s, .string ⟨#[97, 108, 111, 110, 101]⟩] itT⟩
        go_wp2_with (at_builtin; refine wpList_appendL (E := encIt) Try.underlying34 info_it ?_ rfl (.tmp 73) (.tmp 75) rfl (w10.heap.size + 1) v2 (l1 ++ l2) ?_ HO2.out (some ⟨w13.heap.size, 0, none⟩) 1 1 [(nC, s, alone)] ?_ ?_ HLY.out ?_ ?_ ?_ HS13.out ?_)
        any_goals first | done | rfl
        · intro h; cases h
        · have := HLN.out; have := HKL.out; unfold Hid maxLen; simp; omega
        · have := HLN.out; have := HKL.out; unfold Hid; simp; omega
        · intro v3 w14 ho3 hb14
          clear y0 y1 y2 HLY
          obtain ⟨ha1, -, ha2, hf2, was2, hmv⟩ := HMV.out s (by have := HSZ.out; omega)
          have hw2 : was2 = was := by
            have h := hmv.found1.symm.trans HF1.out
            injection h with h
            have := congrArg (fun a => a[0]?) h
            simpa using this
          subst hw2
          have B14 : Below w10.heap.size w10 w14 := HB12.out.trans (((HB13.out.mono (Nat.le_succ _)).trans ((Below.refl _ _).alloc (by have := HS13.out; rw [World.size_alloc] at this; omega) _)).trans (hb14.mono (Nat.le_succ _)))
          have HB14 : Hid (Below w2.heap.size w2 w14) := HB10.out.trans (B14.mono HB10.out.size)
          have HS14 := Lib.hid (HS10.out.below B14)
          have HX14 := Lib.hid (HX10.out.below B14)
          have HY14 : Hid (CellsAt w14 w10.heap.size 0 [.string ⟨#[99]⟩, .string s, .string ⟨#[97, 108, 111, 110, 101]⟩]) := fun j v hv => by
            rw [hb14.cell (by show w10.heap.size < w10.heap.size + 1; omega)]
            exact (HY13.out.below (below_box w13 (.cells #[.string ⟨#[99]⟩, .string s, .string ⟨#[97, 108, 111, 110, 101]⟩] itT))) j v hv
          have ho3' : OwnL encIt itT w14 (w10.heap.size + 1) v3 (l1 ++ l2 ++ [(nC, s, alone)]) := by first | exact ho3 | (rw [List.append_assoc]; exact ho3)
          have hsl := ho3'.sl
          have hlen3 : (l1 ++ l2 ++ [(nC, s, alone)]).length = N := by have := HLN.out; have := HKL.out; simp; omega
          obtain ⟨p3, c3, rfl, hc31, hc32, hl3⟩ := hsl
          rw [hlen3] at hc31
          have hfe1 : FitsE E1 := fun y hy => ⟨HFI1.out _ (HE1.out y hy), by have := HC1.out.pos y hy; have := HN1.out; simp [Lit.wf, IntKind.min, IntKind.max, IntKind.signed, IntKind.bits]; omega⟩
          have HU2 := Lib.hid (updateOk_any n1 q m c E1 p3 N c3 (l1 ++ l2 ++ [(nC, s, alone)]) w14 HC1.out ha2 HS14.out hfe1 (by have := HL1.out; omega) ⟨_, _, by rw [hlen3], by rw [hlen3]; exact hc31, hc32, hl3⟩ hf2 (by rw [hlen3]; omega) (by rw [hmv.next2]; have := HN1.out; omega))
          have hfe2 : FitsE (byId (given n1 E1 (l1 ++ l2 ++ [(nC, s, alone)]))) := fun y hy => ⟨hf2 _ (hmv.mem2 y hy), by have := hmv.chk2.pos y hy; have := HN1.out; simp [Lit.wf, IntKind.min, IntKind.max, IntKind.signed, IntKind.bits]; omega⟩
          rw [hmv.next2] at HU2
          have HMVD := Lib.hid hmv
          have HFE1 := Lib.hid hfe1
          have HFE2 := Lib.hid hfe2
          rw [hlen3]
          clear hmv ha1 ha2 hf2 hfe1 hfe2 hlen3 hl3 ho3 ho3' hb14 B14 HMV HY13 HO2 HO1 HS10 HX10 HC12 HB13 HS13 HB12 HK1 HK2
          generalize byId (given n1 E1 (l1 ++ l2 ++ [(nC, s, alone)])) = E2 at *
          obtain ⟨u0, u1⟩ := en2 HX14.out
          go_wp2_with (first
            | (go_at_call 14; refine HU2.out.mono ?_; rintro e w15 ⟨q2, m2, c2, rfl, hs15, hb15⟩; have HS15 := Lib.hid (hs15.below (below_box w15 (.cells #[.int .i64 n1, .slice q2 m2 c2] 29))); have HL15 : Hid (Below w14.heap.size w14 (w15.alloc (.cells #[.int .i64 n1, .slice q2 m2 c2] 29))) := (bnext hb15 (below_box w15 _)); have HZ15 := Lib.hid (cellsAt_alloc w15 [.int .i64 n1, .slice q2 m2 c2] 29); clear hs15 hb15 HU2 u0 u1; obtain ⟨z0, z1⟩ := en2 HZ15.out; obtain ⟨y0, y1, y2⟩ := en3 (HY14.out.below HL15.out); have HFN2 := Lib.hid (find_c (n1 := n1) (W := w15.alloc (.cells #[.int .i64 n1, .slice q2 m2 c2] 29)) (s := s) HMVD.out.found2 HMVD.out.len2 HS15.out))
            | (go_at_call 17; refine HFN2.out.mono ?_; rintro e w16 ⟨rfl, hb16⟩; have HL16 := Lib.hid (bnext HL15.out hb16); have HX16 := Lib.hid (HX14.out.below HL16.out); have HS16 := Lib.hid (HS14.out.below HL16.out); have HZ16 := Lib.hid (HZ15.out.below hb16); have HE16 := Lib.hid (HS15.out.below hb16); have HY16 := Lib.hid (HY14.out.below HL16.out); clear hb16 z0 z1 y0 y1 y2 HFN2; obtain ⟨z0, z1⟩ := en2 HZ16.out; obtain ⟨u0, u1⟩ := en2 HX16.out; have HMO := Lib.hid (moves_any n1 q m c E1 n1 q2 m2 c2 E2 w16 (by have := HL1.out; omega) HS16.out HFE1.out (by have := HMVD.out.len2; omega) HE16.out HFE2.out))
            | (go_at_call 19; refine HMO.out.mono ?_; rintro e w17 ⟨v, rfl, hv, hb17⟩; rw [HMVD.out.moves] at hv; obtain ⟨pv, cv, rfl, -, -, hvc⟩ := hv; obtain ⟨vb, vo, rfl, hcl⟩ := hvc (by simp); have HV17 := Lib.hid (hcl.below ((Below.refl _ w17).drew)); have HY17 := Lib.hid ((HY16.out.below hb17).below ((Below.refl _ w17).drew)); have HB17 := Lib.hid (bnext HB14.out (bnext HL16.out (bnext hb17 ((Below.refl _ w17).drew)))); clear hb17 hvc hcl u0 u1 z0 z1 HMO HX16 HS16 HE16 HZ16 HY16)
            | fail)
          clear HL16 HL15 HB14 HX14 HY14 HS14 HZ15 HS15
          apply wp_region_relT LeW.refl LeW.trans 41
          case hm => kernel_rfl
          case hB => kernel_rfl
          simp only [List.take_succ_cons, List.take_zero, List.drop_succ_cons, List.drop_zero]
          apply wpRel_cons (t := tyIs _ (.bool true))
          case h1 => (intro w' hl hd2; clear hl hd2; unfold relAt; go_simp; refine ⟨LeW.refl _, ?_⟩; refine (awake_any _).mono ?_; rintro e w'' ⟨rfl, hb''⟩; exact ⟨(), rfl, hb'', trivial⟩)
          intro _
          rw [tyIs_f]
          go_simp
          apply wpRel_cons (t := tyIs _ _)
          case h1 => (intro w' hl hd2; clear hl hd2; unfold relAt; go_simp; exact rel_is LeW.refl)
          intro _
          rw [tyIs_f]
          go_simp
          apply wpRel_cons (t := tyIs _ _)
          case h1 => (intro w' hl hd2; clear hl hd2; unfold relAt; go_simp; exact rel_is LeW.refl)
          intro _
          rw [tyIs_f]
          go_simp
          apply wpRel_cons (t := tyIs _ _)
          case h1 => (intro w' hl hd2; clear hl hd2; unfold relAt; go_simp; exact rel_is LeW.refl)
          intro _
          rw [tyIs_f]
          go_simp
          apply wpRel_cons (t := tyIs _ _)
          case h1 => (intro w' hl hd2; clear hl hd2; unfold relAt; go_simp; exact rel_is LeW.refl)
          intro _
          rw [tyIs_f]
          go_simp
          apply wpRel_cons (t := tyIs _ _)
          case h1 => (intro w' hl hd2; clear hl hd2; unfold relAt; go_simp; exact rel_is LeW.refl)
          intro _
          rw [tyIs_f]
          go_simp
          apply wpRel_cons (t := tyIs _ _)
          case h1 => (intro w' hl hd2; clear hl hd2; unfold relAt; go_simp; exact rel_is LeW.refl)
          intro _
          rw [tyIs_f]
          go_simp
          apply wpRel_cons (t := tyIs _ _)
          case h1 => (intro w' hl hd2; clear hl hd2; unfold relAt; go_simp; exact rel_is LeW.refl)
          intro _
          rw [tyIs_f]
          go_simp
          apply wpRel_cons (t := tyIs _ _)
          case h1 => (intro w' hl hd2; clear hl hd2; unfold relAt; go_simp; exact rel_is LeW.refl)
          intro _
          rw [tyIs_f]
          go_simp
          apply wpRel_cons (t := tyIs _ _)
          case h1 => (intro w' hl hd2; clear hl hd2; unfold relAt; go_simp; exact rel_is LeW.refl)
          intro _
          rw [tyIs_f]
          go_simp
          apply wpRel_cons (t := tyIs _ _)
          case h1 => (intro w' hl hd2; clear hl hd2; unfold relAt; go_simp; exact rel_is LeW.refl)
          intro _
          rw [tyIs_f]
          go_simp
          apply wpRel_cons (t := tyIs _ _)
          case h1 => (intro w' hl hd2; clear hl hd2; unfold relAt; go_simp; exact rel_is LeW.refl)
          intro _
          rw [tyIs_f]
          go_simp
          apply wpRel_cons (t := tyIs _ _)
          case h1 => (intro w' hl hd2; clear hl hd2; unfold relAt; go_simp; exact rel_is LeW.refl)
          intro _
          rw [tyIs_f]
          go_simp
          apply wpRel_cons (t := tyIs _ _)
          case h1 => (intro w' hl hd2; clear hl hd2; unfold relAt; go_simp; exact rel_is LeW.refl)
          intro _
          rw [tyIs_f]
          go_simp
          apply wpRel_cons (t := tyIs _ _)
          case h1 => (intro w' hl hd2; clear hl hd2; unfold relAt; go_simp; exact rel_is LeW.refl)
          intro _
          rw [tyIs_f]
          go_simp
          apply wpRel_cons (t := tyIs _ _)
          case h1 => (intro w' hl hd2; clear hl hd2; unfold relAt; go_simp; exact rel_is LeW.refl)
          intro _
          rw [tyIs_f]
          go_simp
          apply wpRel_cons (t := tyIs _ _)
          case h1 => (intro w' hl hd2; clear hl hd2; unfold relAt; go_simp; exact rel_is LeW.refl)
          intro _
          rw [tyIs_f]
          go_simp
          apply wpRel_cons (t := tyIs _ _)
          case h1 => (intro w' hl hd2; clear hl hd2; unfold relAt; go_simp; exact rel_is LeW.refl)
          intro _
          rw [tyIs_f]
          go_simp
          apply wpRel_cons (t := tyIs _ _)
          case h1 => (intro w' hl hd2; clear hl hd2; unfold relAt; go_simp; exact rel_is LeW.refl)
          intro _
          rw [tyIs_f]
          go_simp
          apply wpRel_cons (t := tyIs _ _)
          case h1 => (intro w' hl hd2; clear hl hd2; unfold relAt; go_simp; exact rel_is LeW.refl)
          intro _
          rw [tyIs_f]
          go_simp
          apply wpRel_cons (t := tyIs _ _)
          case h1 => (intro w' hl hd2; clear hl hd2; unfold relAt; go_simp; exact rel_is LeW.refl)
          intro _
          rw [tyIs_f]
          go_simp
          apply wpRel_cons (t := tyIs _ _)
          case h1 => (intro w' hl hd2; clear hl hd2; unfold relAt; go_simp; exact rel_is LeW.refl)
          intro _
          rw [tyIs_f]
          go_simp
          apply wpRel_cons (t := tyIs _ _)
          case h1 => (intro w' hl hd2; clear hl hd2; unfold relAt; go_simp; exact rel_is LeW.refl)
          intro _
          rw [tyIs_f]
          go_simp
          apply wpRel_cons (t := tyIs _ _)
          case h1 => (intro w' hl hd2; clear hl hd2; unfold relAt; go_simp; exact rel_is LeW.refl)
          intro _
          rw [tyIs_f]
          go_simp
          apply wpRel_cons (t := tyIs _ _)
          case h1 => (intro w' hl hd2; clear hl hd2; unfold relAt; go_simp; exact rel_is LeW.refl)
          intro _
          rw [tyIs_f]
          go_simp
          apply wpRel_cons (t := tyIs _ _)
          case h1 => (intro w' hl hd2; clear hl hd2; unfold relAt; go_simp; exact rel_is LeW.refl)
          intro _
          rw [tyIs_f]
          go_simp
          apply wpRel_cons (t := tyIs _ _)
          case h1 => (intro w' hl hd2; clear hl hd2; unfold relAt; go_simp; exact rel_is LeW.refl)
          intro _
          rw [tyIs_f]
          go_simp
          apply wpRel_cons (t := tyIs _ _)
          case h1 => (intro w' hl hd2; obtain ⟨z0, z1, z2, z3⟩ := enAt (HV17.out.below hl) 0 (by simp); simp only [Nat.zero_mul, Nat.add_zero, List.getD_cons_zero] at z0 z1 z2 z3; clear hl hd2; unfold relAt; go_simp; exact rel_is LeW.refl)
          intro _
          rw [tyIs_f]
          go_simp
          apply wpRel_cons (t := tyIs _ _)
          case h1 => (intro w' hl hd2; obtain ⟨z0, z1, z2, z3⟩ := enAt (HV17.out.below hl) 0 (by simp); simp only [Nat.zero_mul, Nat.add_zero, List.getD_cons_zero] at z0 z1 z2 z3; clear hl hd2; unfold relAt; go_simp; exact rel_is LeW.refl)
          intro _
          rw [tyIs_f]
          go_simp
          apply wpRel_cons (t := tyIs _ _)
          case h1 => (intro w' hl hd2; obtain ⟨z0, z1, z2, z3⟩ := enAt (HV17.out.below hl) 0 (by simp); simp only [Nat.zero_mul, Nat.add_zero, List.getD_cons_zero] at z0 z1 z2 z3; clear hl hd2; unfold relAt; go_simp; exact rel_is LeW.refl)
          intro _
          rw [tyIs_f]
          go_simp
          apply wpRel_cons (t := tyIs _ _)
          case h1 => (intro w' hl hd2; clear hl hd2; unfold relAt; go_simp; exact rel_is LeW.refl)
          intro _
          rw [tyIs_f]
          go_simp
          apply wpRel_cons (t := tyIs _ _)
          case h1 => (intro w' hl hd2; clear hl hd2; unfold relAt; go_simp; exact rel_is LeW.refl)
          intro _
          rw [tyIs_f]
          go_simp
          apply wpRel_cons (t := tyIs _ _)
          case h1 => (intro w' hl hd2; clear hl hd2; unfold relAt; go_simp; exact rel_is LeW.refl)
          intro _
          rw [tyIs_f]
          go_simp
          apply wpRel_cons (t := tyIs _ _)
          case h1 => (intro w' hl hd2; clear hl hd2; unfold relAt; go_simp; exact rel_is LeW.refl)
          intro _
          rw [tyIs_f]
          go_simp
          apply wpRel_cons (t := tyIs _ _)
          case h1 => (intro w' hl hd2; clear hl hd2; unfold relAt; go_simp; exact rel_is LeW.refl)
          intro _
          rw [tyIs_f]
          go_simp
          apply wpRel_cons (t := tyIs _ _)
          case h1 => (intro w' hl hd2; obtain ⟨z0, z1, z2, z3⟩ := enAt (HV17.out.below hl) 0 (by simp); simp only [Nat.zero_mul, Nat.add_zero, List.getD_cons_zero] at z0 z1 z2 z3; clear hl hd2; unfold relAt; go_simp; exact rel_is LeW.refl)
          intro _
          rw [tyIs_f]
          go_simp
          apply wpRel_cons (t := tyIs _ _)
          case h1 => (intro w' hl hd2; obtain ⟨z0, z1, z2, z3⟩ := enAt (HV17.out.below hl) 0 (by simp); simp only [Nat.zero_mul, Nat.add_zero, List.getD_cons_zero] at z0 z1 z2 z3; clear hl hd2; unfold relAt; go_simp; exact rel_is LeW.refl)
          intro _
          rw [tyIs_f]
          go_simp
          apply wpRel_cons (t := tyIs _ _)
          case h1 => (intro w' hl hd2; obtain ⟨z0, z1, z2, z3⟩ := enAt (HV17.out.below hl) 0 (by simp); simp only [Nat.zero_mul, Nat.add_zero, List.getD_cons_zero] at z0 z1 z2 z3; clear hl hd2; unfold relAt; go_simp; exact rel_is LeW.refl)
          intro _
          rw [tyIs_f]
          go_simp
          apply wpRel_cons (t := tyIs _ _)
          case h1 => (intro w' hl hd2; obtain ⟨y0, y1, y2⟩ := en3 (HY17.out.below hl); clear hl hd2; unfold relAt; go_simp; exact rel_is LeW.refl)
          intro _
          rw [tyIs_f]
          go_simp
          apply wpRel_cons (t := tyIs _ (.bool true))
          case h1 => (intro w' hl hd2; have e1 : nC.toList = [99] := (by rw [ByteArray.toList_eq]; rfl); have e2 : alone.toList = [97, 108, 111, 110, 101] := (by rw [ByteArray.toList_eq]; rfl); clear hl hd2; unfold relAt; go_simp; first | exact rel_is LeW.refl | (rw [if_pos e1, if_pos e2]; exact rel_is LeW.refl))
          intro _
          rw [tyIs_f]
          go_simp
          apply wpRel_cons (t := tyIs _ _)
          case h1 => (intro w' hl hd2; clear hl hd2; unfold relAt; go_simp; exact rel_is LeW.refl)
          intro _
          rw [tyIs_f]
          go_simp
          apply wpRel_nil (Ts := [])
          intro w18 hl18 hF18
          go_wp2_with fail
          go_ret
          exact ⟨rfl, bnext HB17.out hl18⟩
end Go.Proofs.Ytcjobcpngagbkaa.Idn
