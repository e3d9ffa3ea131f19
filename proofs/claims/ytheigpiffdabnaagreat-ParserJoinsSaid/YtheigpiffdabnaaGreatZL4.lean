/-
  CONTRACTS: the reference's tokens.
-/
import Derived.Test.YtheigpiffdabnaaGreatZL3
import Derived.LoopTactic
import Derived.Outline
import Derived.Test.YtheigpiffdabnaaGreatZA13
set_option linter.unusedVariables false
namespace Go.Proofs.YtheigpiffdabnaaGreat
open Go.RowKit
/-- what holds at each round of the reference -/
structure RGoing (s : ByteArray) (w0 : World) (B k : Nat) (out : Value) (D : List Lx.Tok) (wr : World) : Prop where
 own : OwnL tokEnc 55 wr B out D
 bel : Below B w0 wr
 siz : B ≤ wr.heap.size
 scan : ∀ T, Lx.Scan (s.data.toList.drop k) k T → Lx.Scan s.data.toList 0 (D ++ T)
 len : D.length ≤ k
theorem RGoing.blank {s : ByteArray} {w0 : World} {B k : Nat} {out : Value} {D : List Lx.Tok} {wr : World} (h : RGoing s w0 B k out D wr) (hk : k < s.size) (hb : Lx.blankI ((s[k]'hk).toNat : Int) = true) : RGoing s w0 B (k + 1) out D wr :=
 ⟨h.own, h.bel, h.siz, fun T hT => h.scan T (by rw [Lx.drop_cons s k hk]; exact .blank _ _ _ _ hb hT), by have := h.len; omega⟩
theorem RGoing.comm {s : ByteArray} {w0 : World} {B k : Nat} {out : Value} {D : List Lx.Tok} {wr : World} (h : RGoing s w0 B k out D wr) (hk : k < s.size) (hb : Lx.blankI ((s[k]'hk).toNat : Int) = false) (hc : Lx.comment (s.data.toList.drop k) = true) : RGoing s w0 B (k + Lx.lineLen (s.data.toList.drop k)) out D wr :=
 ⟨h.own, h.bel, h.siz, fun T hT => h.scan T (by
  have e := Lx.drop_cons s k hk
  rw [e] at hc ⊢
  refine .comm _ _ _ _ hb hc ?_
  rw [← e, List.drop_drop]
  exact hT), by have := h.len; omega⟩
theorem RGoing.tok {s : ByteArray} {w0 : World} {B k : Nat} {out : Value} {D : List Lx.Tok} {wr : World} (h : RGoing s w0 B k out D wr) (hk : k < s.size) (hb : Lx.blankI ((s[k]'hk).toNat : Int) = false) (hc : Lx.comment (s.data.toList.drop k) = false)
  {out2 : Value} {w2 : World} {n : Nat} (hn : Lx.tokLen (s.data.toList.drop k) = n) (hown : OwnL tokEnc 55 w2 B out2 (D ++ [Lx.tokOf (s.data.toList.drop k) k])) (hbel : Below B wr w2) : RGoing s w0 B (k + n) out2 (D ++ [Lx.tokOf (s.data.toList.drop k) k]) w2 := by
 have hp := Lx.tokLen_pos (s.data.toList.drop k)
 refine ⟨hown, h.bel.trans hbel, Nat.le_trans h.siz hbel.size, fun T hT => ?_, by have := h.len; simp; omega⟩
 rw [List.append_assoc]
 refine h.scan _ ?_
 have e := Lx.drop_cons s k hk
 rw [← hn] at hT
 rw [e] at hc hT ⊢
 refine .tok _ _ _ _ hb hc ?_
 rw [← e] at hT ⊢
 rw [List.drop_drop]
 exact hT
end Go.Proofs.YtheigpiffdabnaaGreat
namespace Go.Proofs.YtheigpiffdabnaaGreat
open Go.RowKit
theorem run_at {s : ByteArray} {k j : Nat} (hk : k ≤ j) (hj : j ≤ s.size) (h : ∀ i (hi : i < s.size), k ≤ i → i < j → Lx.runI ((s[i]).toNat : Int) = true) (hs : j = s.size ∨ ∃ hj : j < s.size, Lx.runI ((s[j]).toNat : Int) = false) : k + Lx.runLen (s.data.toList.drop k) = j := by
 have : Lx.runLen (s.data.toList.drop k) = j - k := by
  refine Lx.takeWhile_len (by rw [List.length_drop]; simp; omega) (fun i hi hij => ?_) ?_
  ·rw [List.length_drop] at hi
   simp at hi
   have := h (k + i) (by omega) (by omega) (by omega)
   rw [List.getElem_drop]
   exact this
  ·rcases hs with hs | ⟨hj', hs⟩
   ·left; rw [List.length_drop]; simp; omega
   ·right
    refine ⟨by rw [List.length_drop]; simp; omega, ?_⟩
    rw [List.getElem_drop]
    have e : k + (j - k) = j := by omega
    show Lx.runI ((s.data.toList[k + (j - k)]'(by simp; omega)).toNat : Int) = false
    have e2 : s.data.toList[k + (j - k)]'(by simp; omega) = s[j]'hj' := by simp only [e]; rfl
    rw [e2]; exact hs
 omega
theorem run_head {s : ByteArray} {k : Nat} (hk : k < s.size) (h : Lx.runI ((s[k]'hk).toNat : Int) = false) : Lx.runLen (s.data.toList.drop k) = 0 := by
 have := run_at (s := s) (k := k) (j := k) (Nat.le_refl _) (by omega) (fun i hi h1 h2 => by omega) (.inr ⟨hk, h⟩)
 omega
theorem OwnL.drew {α : Type} {E : Enc α} {t : TypeId} {w : World} {base : Nat} {v : Value} {L : List α} (h : OwnL E t w base v L) : OwnL E t w.drew base v L := h
end Go.Proofs.YtheigpiffdabnaaGreat
namespace Go.Proofs.YtheigpiffdabnaaGreat
open Go Go.RowKit
theorem tokList_toks (s : ByteArray) : tokList s = [] ∨ Toks (tokList s) := by
 unfold tokList
 split
 ·rename_i h
  have hs := Lx.toks_scan s
  obtain ⟨h1, _, _⟩ := hs.bounds
  refine .inr ⟨Lx.Scan.ends hs, ?_⟩
  have : s.data.toList.length = s.size := by simp
  omega
 ·exact .inl rfl
/-- the items and the errors of a text -/
def modOf (s : ByteArray) : Option (List Tree × List Int) := modV (tokList s) (itemT (core (tokList s)))
theorem parserModule_any (s : ByteArray) (w : World) (hs : s.size ≤ 4611686018427387904) : Calls Tryz.prog 8 #[.string s] w (ModPost (modOf s) w) :=
 Module_any s (tokList s) w (tokList_toks s) (fun w => tokens_any s w hs)
end Go.Proofs.YtheigpiffdabnaaGreat
