/-
  PLAIN FACTS ON BYTES: the tokens of a text. No program, no world.
-/
import Derived.Lib.IndexBytes
import Derived.Test.YtheigpiffdabnaaGreatZA1
set_option linter.unusedVariables false
namespace Go.Proofs.YtheigpiffdabnaaGreat
namespace Lx
abbrev Bs := List UInt8
def mk (l : Bs) : ByteArray := ⟨l.toArray⟩
@[simp] theorem mk_size (l : Bs) : (mk l).size = l.length := by show l.toArray.size = _; simp
@[simp] theorem mk_data (l : Bs) : (mk l).data.toList = l := by simp [mk]
theorem mk_of (s : ByteArray) : mk s.data.toList = s := by apply ByteArray.ext; simp [mk]
theorem mk_extract (s : ByteArray) (a b : Nat) : s.extract a b = mk ((s.data.toList.drop a).take (b - a)) := by
 apply ByteArray.ext
 apply Array.ext'
 rw [mk_data]
 simp [ByteArray.data_extract]
theorem data_extract (s : ByteArray) (a b : Nat) : (s.extract a b).data.toList = (s.data.toList.drop a).take (b - a) := by rw [mk_extract, mk_data]
theorem data_from (s : ByteArray) (a : Nat) : (s.extract a s.size).data.toList = s.data.toList.drop a := Lib.extract_to_end s a
theorem drop_cons (s : ByteArray) (k : Nat) (h : k < s.size) : s.data.toList.drop k = s[k] :: s.data.toList.drop (k + 1) := by
 rw [List.drop_eq_getElem_cons (by simpa using h)]; rfl
def blankI (c : Int) : Bool := decide (c = 32 ∨ c = 9 ∨ c = 10 ∨ c = 13)
def digI (c : Int) : Bool := decide (48 ≤ c ∧ c ≤ 57)
def ltrI (c : Int) : Bool := decide ((65 ≤ c ∧ c ≤ 90) ∨ (97 ≤ c ∧ c ≤ 122) ∨ c = 95)
def runI (c : Int) : Bool := ltrI c || digI c
def markI (c : Int) : Bool := decide (c = 40 ∨ c = 41 ∨ c = 123 ∨ c = 125 ∨ c = 60 ∨ c = 62 ∨ c = 44 ∨ c = 59 ∨ c = 58 ∨ c = 46 ∨ c = 61 ∨ c = 43 ∨ c = 45 ∨ c = 42 ∨ c = 47 ∨ c = 37 ∨ c = 33)
def twoM (l : Bs) : Bool := decide (l = [38, 38] ∨ l = [124, 124] ∨ l = [61, 61] ∨ l = [45, 62])
def words : List Bs := [[117, 115, 101], [112, 117, 98], [99, 111, 110, 115, 116], [102, 110], [116, 121, 112, 101], [116, 114, 97, 105, 116], [105, 109, 112, 108], [102, 111, 114], [109, 97, 99, 114, 111], [108, 101, 116], [119, 104, 105, 108, 101], [105, 102], [101, 108, 115, 101], [112, 114, 105, 110, 116], [110, 101, 119], [116, 114, 117, 101], [102, 97, 108, 115, 101], [105, 110, 116], [98, 111, 111, 108], [117, 110, 105, 116], [83, 101, 108, 102]]
def resL (l : Bs) : Bool := decide (l ∈ words)
def runB (c : UInt8) : Bool := runI (c.toNat : Int)
def digB (c : UInt8) : Bool := digI (c.toNat : Int)
def runLen (l : Bs) : Nat := (l.takeWhile runB).length
def notLf (c : UInt8) : Bool := !(((c.toNat : Int)) == 10)
def lineLen (l : Bs) : Nat := (l.takeWhile notLf).length
def markLen : Bs → Nat
 | [] => 0
 | c :: l => if twoM ((c :: l).take 2) then 2 else if markI (c.toNat : Int) then 1 else 0
def headDig : Bs → Bool
 | [] => false
 | c :: _ => digB c
def numL (l : Bs) : Bool := l.all digB && decide (l.length ≤ 18)
def kindRun (l : Bs) : Int := if numL l then 3 else if headDig l then 5 else if resL l then 2 else 1
def tokLen (l : Bs) : Nat := if 0 < runLen l then runLen l else if 0 < markLen l then markLen l else 1
def tokKind (l : Bs) : Int := if 0 < runLen l then kindRun (l.take (runLen l)) else if 0 < markLen l then 4 else 5
def comment : Bs → Bool
 | c :: d :: _ => decide ((c.toNat : Int) = 47 ∧ (d.toNat : Int) = 47)
 | _ => false
structure Tok where
 kind : Int
 text : ByteArray
 at_ : Int
def tokOf (l : Bs) (at_ : Nat) : Tok := ⟨tokKind l, mk (l.take (tokLen l)), at_⟩
inductive Scan : Bs → Nat → List Tok → Prop
 | fin (at_ : Nat) : Scan [] at_ [⟨0, ByteArray.empty, at_⟩]
 | blank (c : UInt8) (l : Bs) (at_ : Nat) (T : List Tok) : blankI (c.toNat : Int) = true → Scan l (at_ + 1) T → Scan (c :: l) at_ T
 | comm (c : UInt8) (l : Bs) (at_ : Nat) (T : List Tok) : blankI (c.toNat : Int) = false → comment (c :: l) = true → Scan ((c :: l).drop (lineLen (c :: l))) (at_ + lineLen (c :: l)) T → Scan (c :: l) at_ T
 | tok (c : UInt8) (l : Bs) (at_ : Nat) (T : List Tok) : blankI (c.toNat : Int) = false → comment (c :: l) = false → Scan ((c :: l).drop (tokLen (c :: l))) (at_ + tokLen (c :: l)) T → Scan (c :: l) at_ (tokOf (c :: l) at_ :: T)
theorem Scan.det {l : Bs} {a : Nat} {T : List Tok} (h : Scan l a T) : ∀ {U : List Tok}, Scan l a U → T = U := by
 induction h with
 | fin => intro U h; cases h; rfl
 | blank c l a T hb h ih =>
  intro U k
  cases k with
  | blank _ _ _ _ _ k => exact ih k
  | comm _ _ _ _ hb' => rw [hb] at hb'; cases hb'
  | tok _ _ _ _ hb' => rw [hb] at hb'; cases hb'
 | comm c l a T hb hc h ih =>
  intro U k
  cases k with
  | blank _ _ _ _ hb' => rw [hb] at hb'; cases hb'
  | comm _ _ _ _ _ _ k => exact ih k
  | tok _ _ _ _ _ hc' => rw [hc] at hc'; cases hc'
 | tok c l a T hb hc h ih =>
  intro U k
  cases k with
  | blank _ _ _ _ hb' => rw [hb] at hb'; cases hb'
  | comm _ _ _ _ _ hc' => rw [hc] at hc'; cases hc'
  | tok _ _ _ U' _ _ k => rw [ih k]
/-- the same by a number of steps -/
def scanF : Nat → Bs → Nat → List Tok
 | _, [], a => [⟨0, ByteArray.empty, a⟩]
 | 0, _, a => []
 | f + 1, c :: l, a =>
  if blankI (c.toNat : Int) then scanF f l (a + 1)
  else if comment (c :: l) then scanF f ((c :: l).drop (lineLen (c :: l))) (a + lineLen (c :: l))
  else tokOf (c :: l) a :: scanF f ((c :: l).drop (tokLen (c :: l))) (a + tokLen (c :: l))
theorem takeWhile_le {α : Type} (p : α → Bool) (l : List α) : (l.takeWhile p).length ≤ l.length := (List.takeWhile_sublist p).length_le
theorem runLen_le (l : Bs) : runLen l ≤ l.length := takeWhile_le _ _
theorem lineLen_le (l : Bs) : lineLen l ≤ l.length := takeWhile_le _ _
theorem markLen_le (l : Bs) : markLen l ≤ l.length := by
 cases l with
 | nil => simp [markLen]
 | cons c l =>
  show (if twoM ((c :: l).take 2) then 2 else if markI (c.toNat : Int) then 1 else 0) ≤ _
  split
  ·rename_i h
   cases l with
   | nil => simp [twoM] at h
   | cons d l => simp
  ·split <;> simp
theorem tokLen_pos (l : Bs) : 0 < tokLen l := by unfold tokLen; split; · assumption
                                                 · split <;> omega
theorem tokLen_le (c : UInt8) (l : Bs) : tokLen (c :: l) ≤ (c :: l).length := by
 have h1 := runLen_le (c :: l)
 have h2 := markLen_le (c :: l)
 unfold tokLen
 split
 ·exact h1
 ·split
  ·exact h2
  ·simp
theorem lineLen_pos {c : UInt8} {l : Bs} (h : comment (c :: l) = true) : 0 < lineLen (c :: l) := by
 cases l with
 | nil => simp [comment] at h
 | cons d l =>
  simp [comment] at h
  unfold lineLen
  have : notLf c = true := by unfold notLf; simp; omega
  rw [List.takeWhile_cons, if_pos this]
  simp
theorem scanF_scan : ∀ (f : Nat) (l : Bs) (a : Nat), l.length ≤ f → Scan l a (scanF f l a)
 | f, [], a, _ => by cases f <;> exact .fin a
 | 0, c :: l, a, h => by simp at h
 | f + 1, c :: l, a, h => by
  unfold scanF
  split
  ·rename_i hb
   exact .blank c l a _ hb (scanF_scan f l (a + 1) (by simp at h; omega))
  ·rename_i hb
   have hb' : blankI (c.toNat : Int) = false := by simpa using hb
   split
   ·rename_i hc
    refine .comm c l a _ hb' hc (scanF_scan f _ _ ?_)
    have := lineLen_pos hc
    rw [List.length_drop]
    simp at h ⊢
    omega
   ·rename_i hc
    have hc' : comment (c :: l) = false := by simpa using hc
    refine .tok c l a _ hb' hc' (scanF_scan f _ _ ?_)
    have := tokLen_pos (c :: l)
    rw [List.length_drop]
    simp at h ⊢
    omega
/-- the tokens of a text -/
def toks (s : ByteArray) : List Tok := scanF s.size s.data.toList 0
theorem toks_scan (s : ByteArray) : Scan s.data.toList 0 (toks s) := scanF_scan _ _ _ (by simp)
/-- no token is longer than the text, and there are no more than bytes, and the end -/
theorem Scan.bounds {l : Bs} {a : Nat} {T : List Tok} (h : Scan l a T) : T.length ≤ l.length + 1 ∧ 0 < T.length ∧ ∀ t ∈ T, t.text.size ≤ l.length ∧ (a : Int) ≤ t.at_ ∧ t.at_ + t.text.size ≤ a + l.length := by
 induction h with
 | fin a => simp
 | blank c l a T hb h ih =>
  obtain ⟨i1, i2, i3⟩ := ih
  refine ⟨by simp; omega, i2, fun t ht => ?_⟩
  have := i3 t ht
  simp
  omega
 | comm c l a T hb hc h ih =>
  obtain ⟨i1, i2, i3⟩ := ih
  have hl := lineLen_le (c :: l)
  rw [List.length_drop] at i1 i3
  refine ⟨by omega, i2, fun t ht => ?_⟩
  have := i3 t ht
  omega
 | tok c l a T hb hc h ih =>
  obtain ⟨i1, i2, i3⟩ := ih
  have hl := tokLen_le c l
  have hp := tokLen_pos (c :: l)
  rw [List.length_drop] at i1 i3
  refine ⟨by simp only [List.length_cons] at *; omega, by simp, fun t ht => ?_⟩
  rcases List.mem_cons.1 ht with rfl | ht
  ·simp only [tokOf, mk_size, List.length_take]
   omega
  ·have := i3 t ht
   omega
/-- the length of a beginning whose bytes all meet a test, and which ends there -/
theorem takeWhile_len {p : UInt8 → Bool} {l : Bs} {j : Nat} (hj : j ≤ l.length) (h : ∀ i (hi : i < l.length), i < j → p l[i] = true) (hs : j = l.length ∨ ∃ hj : j < l.length, p l[j] = false) : (l.takeWhile p).length = j := by
 induction l generalizing j with
 | nil => simp at hj ⊢; omega
 | cons c l ih =>
  cases j with
  | zero =>
   rcases hs with hs | ⟨hj', hs⟩
   ·simp at hs
   ·simp at hs
    simp [hs]
  | succ j =>
   have h0 : p c = true := h 0 (by simp) (by omega)
   rw [List.takeWhile_cons, if_pos h0]
   simp only [List.length_cons]
   rw [ih (j := j) (by simp at hj; omega) (fun i hi hij => h (i + 1) (by simp; omega) (by omega)) ?_]
   rcases hs with hs | ⟨hj', hs⟩
   ·left; simp at hs; omega
   ·right; exact ⟨by simp at hj'; omega, by simpa using hs⟩
end Lx
end Go.Proofs.YtheigpiffdabnaaGreat
namespace Go.Proofs.YtheigpiffdabnaaGreat
open Go.RowKit
/-- how a token lies -/
def tokEnc : Enc Lx.Tok := ⟨fun t => [.int .i64 t.kind, .string t.text, .int .i64 t.at_], 3, fun _ => rfl, fun x v hv => by
 simp only [List.mem_cons, List.not_mem_nil, or_false] at hv
 rcases hv with rfl | rfl | rfl <;> rfl, by omega⟩
def tok0 : Lx.Tok := ⟨0, ByteArray.empty, 0⟩
theorem getD_eq {α : Type} (L : List α) (d : α) (j : Nat) (hj : j < L.length) : L.getD j d = L[j] := by simp [List.getD, List.getElem?_eq_getElem hj]
theorem tok_cells {w : World} {b off : Nat} {L : List Lx.Tok} (h : CellsAt w b off (tokEnc.all L)) (j : Nat) (hj : j < L.length) :
  w.cell? ⟨b, off + j * 3, none⟩ = some (.int .i64 (L.getD j tok0).kind) ∧ w.cell? ⟨b, off + j * 3 + 1, none⟩ = some (.string (L.getD j tok0).text) ∧ w.cell? ⟨b, off + j * 3 + 2, none⟩ = some (.int .i64 (L.getD j tok0).at_) := by
 rw [getD_eq L tok0 j hj]
 exact ⟨h.elem j hj 0 (by decide) _ rfl, h.elem j hj 1 (by decide) _ rfl, h.elem j hj 2 (by decide) _ rfl⟩
end Go.Proofs.YtheigpiffdabnaaGreat
namespace Go.Proofs.YtheigpiffdabnaaGreat
open Go Go.RowKit
/-- a tree -/
inductive Tree where
 | mk (kind : Int) (text : ByteArray) (at_ : Int) (kids : List Tree)
namespace Tree
def kind : Tree → Int | mk k _ _ _ => k
def text : Tree → ByteArray | mk _ s _ _ => s
def at_ : Tree → Int | mk _ _ a _ => a
def kids : Tree → List Tree | mk _ _ _ l => l
end Tree
instance : Inhabited Tree := ⟨.mk 0 ByteArray.empty 0 []⟩
/-- a node as it lies: its list of nodes is a slice -/
structure Raw where
 kind : Int
 text : ByteArray
 at_ : Int
 p : Option Addr
 n : Nat
 cap : Nat
instance : Inhabited Raw := ⟨⟨0, ByteArray.empty, 0, none, 0, 0⟩⟩
def Raw.list (r : Raw) : Value := .slice r.p r.n r.cap
def Raw.cells (r : Raw) : List Value := [.int .i64 r.kind, .string r.text, .int .i64 r.at_, .slice r.p r.n r.cap]
def Raw.val (r : Raw) : Value := .agg #[.int .i64 r.kind, .string r.text, .int .i64 r.at_, .slice r.p r.n r.cap]
def rawEnc : Enc Raw where
 cells := Raw.cells
 size := 4
 len := fun _ => rfl
 one := fun r v hv => by
  simp only [Raw.cells, List.mem_cons, List.not_mem_nil, or_false] at hv
  rcases hv with rfl | rfl | rfl | rfl <;> rfl
 pos := by decide
theorem SlIs.but {α : Type} {E : Enc α} {M : Addr → Prop} {w w' : World} {p : Option Addr} {n cap : Nat} {L : List α} (h : SlIs E w (.slice p n cap) L) (hb : But M w w') (hm : ∀ b o i, p = some ⟨b, o, none⟩ → ¬ M ⟨b, i, none⟩) : SlIs E w' (.slice p n cap) L := by
 obtain ⟨hn, h2, h3, h4⟩ := h.lies
 subst hn
 refine ⟨p, cap, rfl, h2, h3, fun h0 => ?_⟩
 obtain ⟨b, off, e, hc⟩ := h4 h0
 exact ⟨b, off, e, fun j v hv => hb.keep (hc j v hv) (hm b off _ e)⟩
/-- what lies there is this tree; all of its lists lie in blocks of A -/
inductive IsT (A : Nat → Prop) (w : World) : Raw → Tree → Prop
 | mk (k : Int) (s : ByteArray) (a : Int) (p : Option Addr) (n cap : Nat) (R : List Raw) (l : List Tree) : SlIs rawEnc w (.slice p n cap) R → (p = none → cap = 0) → (∀ b o, p = some ⟨b, o, none⟩ → 0 < n → A b) → R.length = l.length →
   (∀ i (h1 : i < R.length) (h2 : i < l.length), IsT A w R[i] l[i]) → IsT A w ⟨k, s, a, p, n, cap⟩ (.mk k s a l)
/-- a slice of trees -/
def IsTs (A : Nat → Prop) (w : World) (v : Value) (l : List Tree) : Prop := ∃ (p : Option Addr) (n cap : Nat) (R : List Raw), v = .slice p n cap ∧ SlIs rawEnc w (.slice p n cap) R ∧ (p = none → cap = 0) ∧ (∀ b o, p = some ⟨b, o, none⟩ → 0 < n → A b) ∧ R.length = l.length ∧ ∀ i (h1 : i < R.length) (h2 : i < l.length), IsT A w R[i] l[i]
/-- all cells but those of M are as they were -/
def Same (M : Addr → Prop) (w w' : World) : Prop := ∀ a v, w.cell? a = some v → ¬ M a → w'.cell? a = some v
theorem SlIs.butN {α : Type} {E : Enc α} {M : Addr → Prop} {w w' : World} {p : Option Addr} {n cap : Nat} {L : List α} (h : SlIs E w (.slice p n cap) L) (hb : Same M w w') (hm : ∀ b o i, p = some ⟨b, o, none⟩ → 0 < n → ¬ M ⟨b, i, none⟩) : SlIs E w' (.slice p n cap) L := by
 obtain ⟨hn, h2, h3, h4⟩ := h.lies
 subst hn
 refine ⟨p, cap, rfl, h2, h3, fun h0 => ?_⟩
 obtain ⟨b, off, e, hc⟩ := h4 h0
 exact ⟨b, off, e, fun j v hv => hb _ _ (hc j v hv) (hm b off _ e h0)⟩
theorem IsT.same {A : Nat → Prop} {M : Addr → Prop} {w w' : World} {r : Raw} {t : Tree} (h : IsT A w r t) (hb : Same M w w') (hM : ∀ a, M a → ¬ A a.block) : IsT A w' r t := by
 induction h with
 | mk k s a p n cap R l hs hp hA hl _ ih => exact .mk k s a p n cap R l (SlIs.butN hs hb (fun b o i e h0 q => hM _ q (hA b o e h0))) hp hA hl ih
theorem But.same {M : Addr → Prop} {w w' : World} (h : But M w w') : Same M w w' := fun _ _ hc hm => h.keep hc hm
theorem IsT.but {A : Nat → Prop} {M : Addr → Prop} {w w' : World} {r : Raw} {t : Tree} (h : IsT A w r t) (hb : But M w w') (hM : ∀ a, M a → ¬ A a.block) : IsT A w' r t := h.same hb.same hM
theorem IsTs.but {A : Nat → Prop} {M : Addr → Prop} {w w' : World} {v : Value} {l : List Tree} (h : IsTs A w v l) (hb : But M w w') (hM : ∀ a, M a → ¬ A a.block) : IsTs A w' v l := by
 obtain ⟨p, n, cap, R, e, h1, h2, h3, h4, h5⟩ := h
 exact ⟨p, n, cap, R, e, SlIs.butN h1 hb.same (fun b o i e h0 q => hM _ q (h3 b o e h0)), h2, h3, h4, fun i a b => (h5 i a b).but hb hM⟩
theorem IsT.mono {A A' : Nat → Prop} {w : World} {r : Raw} {t : Tree} (h : IsT A w r t) (hA : ∀ b, A b → A' b) : IsT A' w r t := by
 induction h with
 | mk k s a p n cap R l hs hp hb hl _ ih => exact .mk k s a p n cap R l hs hp (fun b o e h0 => hA b (hb b o e h0)) hl ih
theorem IsTs.mono {A A' : Nat → Prop} {w : World} {v : Value} {l : List Tree} (h : IsTs A w v l) (hA : ∀ b, A b → A' b) : IsTs A' w v l := by
 obtain ⟨p, n, cap, R, e, h1, h2, h3, h4, h5⟩ := h
 exact ⟨p, n, cap, R, e, h1, h2, fun b o e h0 => hA b (h3 b o e h0), h4, fun i a b => (h5 i a b).mono hA⟩
/-- the blocks of a tree are there -/
theorem IsT.old {A : Nat → Prop} {w : World} {r : Raw} {t : Tree} (h : IsT A w r t) : IsT (fun b => A b ∧ b < w.heap.size) w r t := by
 induction h with
 | mk k s a p n cap R l hs hp hA hl _ ih =>
  refine .mk k s a p n cap R l hs hp (fun b o e h0 => ⟨hA b o e h0, ?_⟩) hl ih
  obtain ⟨hn, _, _, h4⟩ := hs.lies
  obtain ⟨b', off, e', hc⟩ := h4 h0
  rw [e] at e'
  injection e' with e'
  injection e' with e1 _ _
  subst e1
  exact World.block_lt_of_cell? w _ (hc.elem 0 (by omega) 0 (by decide) _ rfl)
theorem IsT.later {A : Nat → Prop} {w w' : World} {r : Raw} {t : Tree} (h : IsT A w r t) (hb : Below w.heap.size w w') : IsT A w' r t := h.but (M := fun _ => False) (But.of_below hb) (fun a q => q.elim)
theorem IsTs.later {A : Nat → Prop} {w w' : World} {v : Value} {l : List Tree} (h : IsTs A w v l) (hb : Below w.heap.size w w') : IsTs A w' v l := h.but (M := fun _ => False) (But.of_below hb) (fun a q => q.elim)
theorem IsTs.isNil (A : Nat → Prop) (w : World) : IsTs A w (.slice none 0 0) [] := ⟨none, 0, 0, [], rfl, SlIs.isNil rawEnc w, fun _ => rfl, (fun _ _ e => by cases e), rfl, fun i h => absurd h (by simp)⟩
theorem IsT.leaf (A : Nat → Prop) (w : World) (k : Int) (s : ByteArray) (a : Int) : IsT A w ⟨k, s, a, none, 0, 0⟩ (.mk k s a []) :=
 .mk k s a none 0 0 [] [] (SlIs.isNil rawEnc w) (fun _ => rfl) (fun _ _ e => by cases e) rfl (fun i h => absurd h (by simp))
theorem IsT.node {A : Nat → Prop} {w : World} {p : Option Addr} {n cap : Nat} {l : List Tree} (k : Int) (s : ByteArray) (a : Int) (h : IsTs A w (.slice p n cap) l) : IsT A w ⟨k, s, a, p, n, cap⟩ (.mk k s a l) := by
 obtain ⟨p', n', cap', R, e, h1, h2, h3, h4, h5⟩ := h
 cases e
 exact .mk k s a p n cap R l h1 h2 h3 h4 h5
theorem IsT.parts {A : Nat → Prop} {w : World} {r : Raw} {t : Tree} (h : IsT A w r t) : r.kind = t.kind ∧ r.text = t.text ∧ r.at_ = t.at_ ∧ IsTs A w (.slice r.p r.n r.cap) t.kids := by
 cases h with
 | mk k s a p n cap R l h1 h2 h3 h4 h5 => exact ⟨rfl, rfl, rfl, ⟨p, n, cap, R, rfl, h1, h2, h3, h4, h5⟩⟩
/-- the cells of the tree at a place of a list -/
theorem IsTs.at_ {A : Nat → Prop} {w : World} {p : Option Addr} {n cap : Nat} {l : List Tree} (h : IsTs A w (.slice p n cap) l) : n = l.length ∧ ∀ j, (hj : j < l.length) → ∃ (b off : Nat) (r : Raw), p = some ⟨b, off, none⟩ ∧ IsT A w r l[j] ∧
  w.cell? ⟨b, off + j * 4, none⟩ = some (.int .i64 r.kind) ∧ w.cell? ⟨b, off + j * 4 + 1, none⟩ = some (.string r.text) ∧ w.cell? ⟨b, off + j * 4 + 2, none⟩ = some (.int .i64 r.at_) ∧ w.cell? ⟨b, off + j * 4 + 3, none⟩ = some (.slice r.p r.n r.cap) := by
 obtain ⟨p', n', cap', R, e, h1, _, _, h2, h3⟩ := h
 cases e
 obtain ⟨hn, _, _, hl⟩ := h1.lies
 refine ⟨by omega, fun j hj => ?_⟩
 have hjR : j < R.length := by omega
 obtain ⟨b, off, e, hc⟩ := hl (by omega)
 exact ⟨b, off, R[j], e, h3 j hjR hj, hc.elem j hjR 0 (by decide) _ rfl, hc.elem j hjR 1 (by decide) _ rfl, hc.elem j hjR 2 (by decide) _ rfl, hc.elem j hjR 3 (by decide) _ rfl⟩
end Go.Proofs.YtheigpiffdabnaaGreat
