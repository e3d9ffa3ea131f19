/-
  CONTRACTS: Wrong and Text: programs with at most three changes.
-/
import Derived.Test.YtflcpcefjliijaaEdit
import Derived.Test.YtflcpcefjliijaaSources
namespace Go.Proofs.Ytflcpcefjliijaa
open Go Go.RowKit
set_option linter.unusedVariables false
set_option linter.unusedSimpArgs false

/-- the dice are good, and nothing old has changed but their count -/
structure Fd (d : Dice) (w0 w : World) : Prop where
  dice : DiceAt d w
  fr : Fr w0.heap.size d.D w0.heap.size w0 w
theorem Fd.size {d : Dice} {a b : World} (h : Fd d a b) : a.heap.size ≤ b.heap.size := h.fr.size
theorem Fd.trans {d : Dice} {a b c : World} (h : Fd d a b) (k : Fd d b c) : Fd d a c := by
  have := h.size
  exact ⟨k.dice, h.fr.trans ⟨k.fr.os, k.fr.tape, k.fr.output, k.fr.size, fun x h1 h2 h3 => k.fr.block x (by omega) (by omega) h3, k.fr.dcell, k.fr.dfrozen⟩⟩
theorem Fd.thrown {d : Dice} {w w' : World} (hd : DiceAt d w) (h : Thrown d w w') : Fd d w w' := by
  have hD := World.block_lt_of_cell? w _ hd.at_
  simp only at hD
  refine ⟨h.good, h.but.os, h.but.tape, h.but.output, h.but.size, fun x h1 h2 h3 => h.but.block x h1 (fun a ha q => ?_), fun a e hne => h.but.cell a (by omega) hne, fun a e => h.but.frozen a (by omega)⟩
  unfold isAt at q
  subst q
  exact h3 ha.symm
theorem Fd.refl {d : Dice} {w : World} (hd : DiceAt d w) : Fd d w w := ⟨hd, Fr.refl _ _ _ _⟩
theorem Fd.below {d : Dice} {w w' : World} (hd : DiceAt d w) (hb : Below w.heap.size w w') : Fd d w w' := Fd.thrown hd (thrown_below hd hb)
theorem OwnS.thrown {d : Dice} {w w' : World} {B : Nat} {v : Value} {L : List Src} (h : OwnS w B v L) (t : Thrown d w w') (hD : d.D < B) : OwnS w' B v L := by
  obtain ⟨h1, h2 | ⟨g, cap, cur, hv, hg, hh, rest⟩⟩ := h
  · exact ⟨h1, .inl h2⟩
  · exact ⟨h1, .inr ⟨g, cap, cur, hv, hg, thrown_block t hh (by omega), rest⟩⟩
theorem OwnS.open {w : World} {B : Nat} {v : Value} {L : List Src} (h : OwnS w B v L) : ∃ p n cap, v = .slice p n cap ∧ n = L.length ∧ (p = none → cap = 0) ∧ (∀ b o, p = some ⟨b, o, none⟩ → B ≤ b) := by
  obtain ⟨h1, ⟨hv, hn⟩ | ⟨g, cap, cur, hv, hg, hh, rest⟩⟩ := h
  · exact ⟨none, 0, 0, hv, hn.symm, fun _ => rfl, fun _ _ e => by cases e⟩
  · exact ⟨_, _, cap, hv, rfl, (fun e => by cases e), fun b o e => by injection e with e; injection e with e _ _; omega⟩

theorem size_edTo (m tx : ByteArray) (a c : Nat) (x : Src) (B : Nat) (h : x.2.size ≤ B) (ht : tx.size ≤ 32) : (edTo m tx a c x).2.size ≤ B + 32 := by
  unfold edTo
  split
  · rename_i q
    show (editText x.2 a c tx).size ≤ _
    unfold editText
    have := q.2
    simp only [ByteArray.size_append, ByteArray.size_extract]
    omega
  · omega
theorem edTo_fst (m tx : ByteArray) (a c : Nat) (x : Src) : (edTo m tx a c x).1 = x.1 := by
  unfold edTo; split <;> rfl
theorem map_edTo_fst (m tx : ByteArray) (a c : Nat) (L : List Src) : (L.map (edTo m tx a c)).map Prod.fst = L.map Prod.fst := by
  rw [List.map_map]; exact List.map_congr_left (fun x _ => edTo_fst m tx a c x)
theorem getD_map_edTo (m tx : ByteArray) (a c : Nat) (L : List Src) (j : Nat) (hj : j < L.length) : (L.map (edTo m tx a c)).getD j empty2 = edTo m tx a c (L.getD j empty2) := by
  simp [List.getD, List.getElem?_map, List.getElem?_eq_getElem hj]

/-- a program: one to three modules with names of one letter, in a block of the call's own; the texts have at most B bytes -/
def Prg (d : Dice) (B : Nat) (w0 : World) (L : List Src) (v : Value) (w' : World) : Prop :=
  OwnS w' w0.heap.size v L ∧ (∀ j, j < L.length → (L.getD j empty2).2.size ≤ B) ∧ (∃ k, 1 ≤ k ∧ k ≤ 3 ∧ L.map Prod.fst = (List.range k).map letterOf) ∧ Fd d w0 w'
theorem Prg.len {d : Dice} {B : Nat} {w0 w' : World} {L : List Src} {v : Value} (h : Prg d B w0 L v w') : 1 ≤ L.length ∧ L.length ≤ 3 := by
  obtain ⟨_, _, ⟨k, h1, h2, h3⟩, _⟩ := h
  have := congrArg List.length h3
  simp at this
  omega
theorem SrcPost.prg {d : Dice} {w : World} {e : Ending} {w' : World} (h : SrcPost d w e w') : ∃ L v, e = .returned v ∧ Prg d 12400 w L v w' := by
  obtain ⟨L, v, he, ho, hs, h1, h3, hdi, hf⟩ := h
  refine ⟨_, v, he, ho, fun j hj => ?_, ⟨L.length, h1, h3, ?_⟩, hdi, hf⟩
  · rw [mods_length] at hj
    have e : (mods L L.length).getD j empty2 = (letterOf j, L.getD j ByteArray.empty) := by simp [mods, List.getD, hj]
    rw [e]
    exact getD_le hs j
  · simp [mods]

set_option maxHeartbeats 1000000 in
theorem wrong_any (d : Dice) (w : World) (hd : DiceAt d w) (hrow : ∀ b o, d.p = some ⟨b, o, none⟩ → b < w.heap.size) :
    Calls Try.prog 51 #[.pointer (some ⟨d.D, 0, none⟩)] w fun e w' => ∃ L v, e = .returned v ∧ Prg d 12496 w L v w' := by
  have HD := Lib.hid hd
  have HROW := Lib.hid hrow
  have hDlt : Hid (d.D < w.heap.size) := (World.block_lt_of_cell? w _ hd.at_ : d.D < w.heap.size)
  clear hd hrow
  go_enter Try.func51, Try.ntmps51
  go_wp2_with fail
  refine (sources_any d w HD.out HROW.out).mono ?_
  intro e w1 hp
  obtain ⟨L, v, rfl, hprg⟩ := hp.prg
  have HP := Lib.hid hprg
  clear hp hprg
  go_wp2_with fail
  refine (next_any d 4 _ HP.out.2.2.2.dice (by omega) (by omega)).mono ?_
  rintro e w2 ⟨k, hk, rfl, ht, -⟩
  have HP2 : Hid (Prg d (12400 + 32 * (3 - k)) w L v w2 ) := by
    obtain ⟨h1, h2, h3, h4⟩ := HP.out
    exact ⟨h1.thrown ht hDlt.out, fun j hj => by have := h2 j hj; omega, h3, h4.trans (Fd.thrown h4.dice ht)⟩
  clear ht HP
  go_wp2_with fail
  go_loopw [3, 4] (fun l i wr => ∃ (k : Nat) (L : List Src), k < 4 ∧ i = .int .i64 k ∧ Hid (Prg d (12400 + 32 * (3 - k)) w L l wr)) (fun _ i _ => (intOf i).toNat)
  case atStart => exact ⟨k, L, hk, rfl, HP2.out⟩
  case round =>
    obtain ⟨q, M, hq, rfl, HM⟩ := hrel
    obtain ⟨p, n, cap, rfl, hn, hpc, hpb⟩ := HM.out.1.open
    have HN := Lib.hid hn
    have HPC := Lib.hid hpc
    have HPB := Lib.hid hpb
    clear hn hpc hpb
    by_cases h0 : 0 < q
    · have hgt : (0 : Int) < (q : Int) := by omega
      go_wp2_with fail
      have hlen := HM.out.len
      have hsrc := HM.out.1.srcs
      have hsz := HM.out.2.1
      have hfd := HM.out.2.2.2
      have hD := hDlt.out
      refine (edit_any d p n cap M _ hfd.dice (by rw [HN.out]; omega) (by rw [HN.out]; omega) hsrc (fun j hj => by have := hsz j hj; omega) (fun b o e => by have := HPB.out b o e; omega) (fun b o e => by have := HROW.out b o e; have := hfd.size; omega)).mono ?_
      rintro e w3 ⟨k2, m, s, tx, a, c, hk2, hg, hac, htx, rfl, ht⟩
      have hs : s.size ≤ 12496 := by have := hsz k2 (by rw [← HN.out]; exact hk2); rw [hg] at this; simp only at this; omega
      have own3 := HM.out.1.thrown ht hD
      have HT := Lib.hid ht
      have HO3 := Lib.hid own3
      clear hlen hsrc hsz hfd hD ht own3
      go_wp2_with fail
      refine (madeApply_any p n cap M m tx a c _ (by have := HM.out.len; rw [HN.out]; omega) HO3.out.srcs HPC.out (fun j hj => by have := HM.out.2.1 j hj; omega) (by omega) (by omega) (by omega)).mono ?_
      rintro e w4 ⟨v4, rfl, hown, hb⟩
      have HQ : Hid (Prg d (12400 + 32 * (3 - (q - 1))) w (M.map (edTo m tx a c)) v4 w4) := by
        obtain ⟨h1, h2, ⟨k, h3, h4, h5⟩, h6⟩ := HM.out
        have h7 := h6.trans (Fd.thrown h6.dice HT.out)
        refine ⟨hown.mono h7.size, fun j hj => ?_, ⟨k, h3, h4, by rw [map_edTo_fst]; exact h5⟩, h7.trans (Fd.below h7.dice hb)⟩
        rw [List.length_map] at hj
        rw [getD_map_edTo _ _ _ _ _ _ hj]
        have := size_edTo m tx a c (M.getD j empty2) _ (h2 j hj) htx
        omega
      clear hown hb HO3 HT
      go_wp2_with fail
      go_roundw
      case rel => exact ⟨q - 1, _, by omega, by go_num, HQ.out⟩
      case measure => simp [intOf]; omega
    · have hz : q = 0 := by omega
      subst hz
      go_wp2_with fail
      go_ret
      exact ⟨M, _, rfl, HM.out⟩
end Go.Proofs.Ytflcpcefjliijaa
