/-
  CONTRACT: the program and the reference agree on every list of modules, module and edit.
-/
import Derived.Test.YtflcpcefjliijaaSame
namespace Go.Proofs.Ytflcpcefjliijaa
open Go.RowKit
set_option linter.unusedVariables false

structure StaysG (W : World) (p : Option Addr) (n cap b1 b2 : Nat) (L : List Src) (nm tx m : ByteArray) (at_ c : Int) (et : ByteArray) : Prop where
  one : Stays W p n cap b1 L nm tx
  two : StaysE W p n cap b2 L m at_ c et
theorem StaysG.below {W w' : World} {p : Option Addr} {n cap b1 b2 : Nat} {L : List Src} {nm tx m et : ByteArray} {at_ c : Int} (h : StaysG W p n cap b1 b2 L nm tx m at_ c et) (hb : Below W.heap.size W w') : StaysG w' p n cap b1 b2 L nm tx m at_ c et :=
  ⟨h.one.below hb, h.two.below hb⟩

theorem putR_len (L : List Src) (nm tx : ByteArray) : (putR L nm tx).1.length ≤ L.length + 1 := by
  unfold putR
  split
  · split
    · unfold putL
      rw [List.length_append, List.length_cons, List.length_drop, List.length_take]
      have : putAt L nm ≤ L.length := List.findIdx_le_length
      omega
    · simp
  · simp
theorem dropR_len (L : List Src) (nm : ByteArray) : (dropR L nm).1.length ≤ L.length + 1 := by
  unfold dropR
  split
  · split
    · unfold dropL
      rw [List.length_append, List.length_drop, List.length_take]
      omega
    · simp
  · simp
theorem applyR_len (L : List Src) (m : ByteArray) (at_ c : Int) (tx : ByteArray) : (applyR L m at_ c tx).1.length ≤ L.length + 1 := by
  unfold applyR
  split
  · split
    · split
      · rw [List.length_append, List.length_cons, List.length_drop, List.length_take]
        have : L.findIdx (isNamed m) ≤ L.length := List.findIdx_le_length
        omega
      · simp
    · simp
  · simp

set_option maxHeartbeats 2000000 in
set_option maxRecDepth 100000 in
theorem agree_any (p : Option Addr) (n cap : Nat) (L : List Src) (nm tx m et : ByteArray) (at_ c : Int) (w : World) (hsz : n ≤ 400000000) (hl : SrcIs w (.slice p n cap) L) (hpn : p = none → cap = 0) (hf : Fits L)
    (f1 : nm.size ≤ maxLen) (f2 : tx.size ≤ maxLen) (f3 : m.size ≤ maxLen) (f4 : et.size ≤ 140737488355328)
    (a1 : -9223372036854775808 ≤ at_) (a2 : at_ ≤ 9223372036854775807) (c1 : -9223372036854775808 ≤ c) (c2 : c ≤ 9223372036854775807) :
    Calls Try.prog 14 #[.slice p n cap, .agg #[.string nm, .string tx], .agg #[.string m, .int .i64 at_, .int .i64 c, .string et]] w fun e w' => e = .returned (.bool true) ∧ Below w.heap.size w w' := by
  have hl1 := hl.below (below_box w (.cells #[.string nm, .string tx] 35))
  have hl2 := hl1.below (below_box (w.alloc (.cells #[.string nm, .string tx] 35)) (.cells #[.string m, .int .i64 at_, .int .i64 c, .string et] 31))
  have hst : StaysG ((w.alloc (.cells #[.string nm, .string tx] 35)).alloc (.cells #[.string m, .int .i64 at_, .int .i64 c, .string et] 31)) p n cap w.heap.size (w.heap.size + 1) L nm tx m at_ c et :=
    ⟨⟨hl2, by simp [go_sem], by simp [go_sem]⟩, ⟨hl2, by simp [go_sem], by simp [go_sem], by simp [go_sem], by simp [go_sem]⟩⟩
  have HS0 := Lib.hid hst
  have HB0 := Lib.hid (bnext (below_box w (.cells #[.string nm, .string tx] 35)) (below_box (w.alloc (.cells #[.string nm, .string tx] 35)) (.cells #[.string m, .int .i64 at_, .int .i64 c, .string et] 31)))
  obtain ⟨hn, hc1, hc2, _⟩ := hl.lies
  have Hn := Lib.hid hn
  have HPN := Lib.hid hpn
  clear hst hl hl1 hl2 hn hpn
  go_enter Try.func14, Try.ntmps14
  go_wp2_with fail
  refine (put_any p n cap L nm tx _ (by omega) HS0.out.one.list hf f1 f2).mono ?_
  rintro e w1 ⟨vA, rfl, hs, hb⟩
  have HS1 := Lib.hid (HS0.out.below hb)
  have HB1 := Lib.hid (bnext HB0.out hb)
  have RA1 := Lib.hid hs
  clear hs hb HS0 HB0
  have s0 := HS1.out.one.name
  have s1 := HS1.out.one.text
  have x0 := HS1.out.two.e0
  have x1 := HS1.out.two.e1
  have x2 := HS1.out.two.e2
  have x3 := HS1.out.two.e3
  go_wp2_with fail
  refine (refPut_any p n cap L nm tx _ hsz HS1.out.one.list HPN.out hf f1 f2).mono ?_
  rintro e w2 ⟨vB, rfl, hs, hb⟩
  have HS2 := Lib.hid (HS1.out.below hb)
  have HB2 := Lib.hid (bnext HB1.out hb)
  have RA2 := Lib.hid (RA1.out.below hb)
  have RB2 := Lib.hid hs
  clear s0 s1 x0 x1 x2 x3
  clear hs hb HS1 HB1 RA1
  have s0 := HS2.out.one.name
  have s1 := HS2.out.one.text
  have x0 := HS2.out.two.e0
  have x1 := HS2.out.two.e1
  have x2 := HS2.out.two.e2
  have x3 := HS2.out.two.e3
  go_wp2_with fail
  refine (drop_any p n cap L nm _ (by omega) HS2.out.one.list hf).mono ?_
  rintro e w3 ⟨vC, rfl, hs, hb⟩
  have HS3 := Lib.hid (HS2.out.below hb)
  have HB3 := Lib.hid (bnext HB2.out hb)
  have RA3 := Lib.hid (RA2.out.below hb)
  have RB3 := Lib.hid (RB2.out.below hb)
  have RC3 := Lib.hid hs
  clear s0 s1 x0 x1 x2 x3
  clear hs hb HS2 HB2 RA2 RB2
  have s0 := HS3.out.one.name
  have s1 := HS3.out.one.text
  have x0 := HS3.out.two.e0
  have x1 := HS3.out.two.e1
  have x2 := HS3.out.two.e2
  have x3 := HS3.out.two.e3
  go_wp2_with fail
  refine (refDrop_any p n cap L nm _ hsz HS3.out.one.list HPN.out hf).mono ?_
  rintro e w4 ⟨vD, rfl, hs, hb⟩
  have HS4 := Lib.hid (HS3.out.below hb)
  have HB4 := Lib.hid (bnext HB3.out hb)
  have RA4 := Lib.hid (RA3.out.below hb)
  have RB4 := Lib.hid (RB3.out.below hb)
  have RC4 := Lib.hid (RC3.out.below hb)
  have RD4 := Lib.hid hs
  clear s0 s1 x0 x1 x2 x3
  clear hs hb HS3 HB3 RA3 RB3 RC3
  have s0 := HS4.out.one.name
  have s1 := HS4.out.one.text
  have x0 := HS4.out.two.e0
  have x1 := HS4.out.two.e1
  have x2 := HS4.out.two.e2
  have x3 := HS4.out.two.e3
  go_wp2_with fail
  refine (apply_any p n cap L m et at_ c _ (by omega) HS4.out.one.list hf f4 a1 a2 c1 c2).mono ?_
  rintro e w5 ⟨vP, rfl, hs, hb⟩
  have HS5 := Lib.hid (HS4.out.below hb)
  have HB5 := Lib.hid (bnext HB4.out hb)
  have RA5 := Lib.hid (RA4.out.below hb)
  have RB5 := Lib.hid (RB4.out.below hb)
  have RC5 := Lib.hid (RC4.out.below hb)
  have RD5 := Lib.hid (RD4.out.below hb)
  have RP5 := Lib.hid hs
  clear s0 s1 x0 x1 x2 x3
  clear hs hb HS4 HB4 RA4 RB4 RC4 RD4
  have s0 := HS5.out.one.name
  have s1 := HS5.out.one.text
  have x0 := HS5.out.two.e0
  have x1 := HS5.out.two.e1
  have x2 := HS5.out.two.e2
  have x3 := HS5.out.two.e3
  go_wp2_with fail
  refine (refApply_any p n cap L m et at_ c _ hsz HS5.out.one.list HPN.out hf f3 f4 a1 a2 c1 c2).mono ?_
  rintro e w6 ⟨vQ, rfl, hs, hb⟩
  have HS6 := Lib.hid (HS5.out.below hb)
  have HB6 := Lib.hid (bnext HB5.out hb)
  have RA6 := Lib.hid (RA5.out.below hb)
  have RB6 := Lib.hid (RB5.out.below hb)
  have RC6 := Lib.hid (RC5.out.below hb)
  have RD6 := Lib.hid (RD5.out.below hb)
  have RP6 := Lib.hid (RP5.out.below hb)
  have RQ6 := Lib.hid hs
  clear s0 s1 x0 x1 x2 x3
  clear hs hb HS5 HB5 RA5 RB5 RC5 RD5 RP5
  have s0 := HS6.out.one.name
  have s1 := HS6.out.one.text
  have x0 := HS6.out.two.e0
  have x1 := HS6.out.two.e1
  have x2 := HS6.out.two.e2
  have x3 := HS6.out.two.e3
  go_wp2_with fail
  refine (find_any p n cap L nm _ (by omega) HS6.out.one.list).mono ?_
  rintro e w7 ⟨rfl, hb⟩
  have HS7 := Lib.hid (HS6.out.below hb)
  have HB7 := Lib.hid (bnext HB6.out hb)
  have RA7 := Lib.hid (RA6.out.below hb)
  have RB7 := Lib.hid (RB6.out.below hb)
  have RC7 := Lib.hid (RC6.out.below hb)
  have RD7 := Lib.hid (RD6.out.below hb)
  have RP7 := Lib.hid (RP6.out.below hb)
  have RQ7 := Lib.hid (RQ6.out.below hb)
  clear hb s0 s1 x0 x1 x2 x3 HS6 HB6 RA6 RB6 RC6 RD6 RP6 RQ6
  have s0 := HS7.out.one.name
  have s1 := HS7.out.one.text
  have x0 := HS7.out.two.e0
  have x1 := HS7.out.two.e1
  have x2 := HS7.out.two.e2
  have x3 := HS7.out.two.e3
  go_wp2_with fail
  refine (refFind_any p n cap L nm _ (by omega) HS7.out.one.list).mono ?_
  rintro e w7 ⟨rfl, rfl⟩
  go_wp2_with fail
  refine (check_any p n cap L _ (by omega) HS7.out.one.list hf).mono ?_
  rintro e w8 ⟨rfl, hb⟩
  have HS8 := Lib.hid (HS7.out.below hb)
  have HB8 := Lib.hid (bnext HB7.out hb)
  have RA8 := Lib.hid (RA7.out.below hb)
  have RB8 := Lib.hid (RB7.out.below hb)
  have RC8 := Lib.hid (RC7.out.below hb)
  have RD8 := Lib.hid (RD7.out.below hb)
  have RP8 := Lib.hid (RP7.out.below hb)
  have RQ8 := Lib.hid (RQ7.out.below hb)
  clear hb HS7 HB7 RA7 RB7 RC7 RD7 RP7 RQ7
  go_wp2_with fail
  refine (refCheck_any p n cap L _ (by omega) HS8.out.one.list hf).mono ?_
  rintro e w9 ⟨rfl, hb⟩
  have HS9 := Lib.hid (HS8.out.below hb)
  have HB9 := Lib.hid (bnext HB8.out hb)
  have RA9 := Lib.hid (RA8.out.below hb)
  have RB9 := Lib.hid (RB8.out.below hb)
  have RC9 := Lib.hid (RC8.out.below hb)
  have RD9 := Lib.hid (RD8.out.below hb)
  have RP9 := Lib.hid (RP8.out.below hb)
  have RQ9 := Lib.hid (RQ8.out.below hb)
  clear hb HS8 HB8 RA8 RB8 RC8 RD8 RP8 RQ8
  go_wp2_with fail
  refine (same_any _ _ _ _ (by have := putR_len L nm tx; rw [← Hn.out] at this; omega) RA9.out RB9.out).mono ?_
  rintro e w10 ⟨rfl, hb⟩
  have HB10 := Lib.hid (bnext HB9.out hb)
  have RA10 := Lib.hid (RA9.out.below hb)
  have RB10 := Lib.hid (RB9.out.below hb)
  have RC10 := Lib.hid (RC9.out.below hb)
  have RD10 := Lib.hid (RD9.out.below hb)
  have RP10 := Lib.hid (RP9.out.below hb)
  have RQ10 := Lib.hid (RQ9.out.below hb)
  clear hb HB9 RA9 RB9 RC9 RD9 RP9 RQ9
  go_wp2_with fail
  refine (same_any _ _ _ _ (by have := dropR_len L nm; rw [← Hn.out] at this; omega) RC10.out RD10.out).mono ?_
  rintro e w11 ⟨rfl, hb⟩
  have HB11 := Lib.hid (bnext HB10.out hb)
  have RA11 := Lib.hid (RA10.out.below hb)
  have RB11 := Lib.hid (RB10.out.below hb)
  have RC11 := Lib.hid (RC10.out.below hb)
  have RD11 := Lib.hid (RD10.out.below hb)
  have RP11 := Lib.hid (RP10.out.below hb)
  have RQ11 := Lib.hid (RQ10.out.below hb)
  clear hb HB10 RA10 RB10 RC10 RD10 RP10 RQ10
  go_wp2_with fail
  refine (same_any _ _ _ _ (by have := applyR_len L m at_ c et; rw [← Hn.out] at this; omega) RP11.out RQ11.out).mono ?_
  rintro e w12 ⟨rfl, hb⟩
  have HB12 := Lib.hid (bnext HB11.out hb)
  have RA12 := Lib.hid (RA11.out.below hb)
  have RB12 := Lib.hid (RB11.out.below hb)
  have RC12 := Lib.hid (RC11.out.below hb)
  have RD12 := Lib.hid (RD11.out.below hb)
  have RP12 := Lib.hid (RP11.out.below hb)
  have RQ12 := Lib.hid (RQ11.out.below hb)
  clear hb HB11 RA11 RB11 RC11 RD11 RP11 RQ11
  go_wp2_with fail
  go_ret
  exact ⟨rfl, HB12.out⟩
end Go.Proofs.Ytflcpcefjliijaa
