/-
  CONTRACT: source.splice makes a new list: what stands before, what comes, and what stands behind.
-/
import Derived.Test.YtflcpcefjliijaaSrcs
import Derived.StillTailTactics
namespace Go.Proofs.Ytflcpcefjliijaa
open Go.RowKit
set_option linter.unusedVariables false

/-- where a slice of modules lies, if it has any -/
def LiesAt (w : World) (p : Option Addr) (L : List Src) : Prop := 0 < L.length → ∃ b off, p = some ⟨b, off, none⟩ ∧ CellsAt w b off (srcCells L)

/-- the cells that a copy reads, in every later world -/
theorem copy_reads {w : World} {p p' : Option Addr} {L X : List Src} (h : LiesAt w p L) (hX : 0 < X.length → 0 < L.length ∧ ∃ k, (∀ b off, p = some ⟨b, off, none⟩ → p' = some ⟨b, off + 2 * k, none⟩) ∧ ∀ b off, CellsAt w b off (srcCells L) → CellsAt w b (off + 2 * k) (srcCells X)) :
    ∀ w', Below w.heap.size w w' → 0 < X.length → ∃ ad, p' = some ad ∧ ∀ j v, (srcCells X)[j]? = some v → w'.cell? (ad.add j) = some v := by
  intro w' hb h0
  obtain ⟨hL, k, hp, hc⟩ := hX h0
  obtain ⟨b, off, e, hcl⟩ := h hL
  refine ⟨_, hp b off e, fun j v hv => ?_⟩
  rw [add_lit]
  exact ((hc b off hcl).below hb) j v hv

/-- what a copy reads: the cells Y, wherever the slice lies -/
def Reads (w : World) (p : Option Addr) (k : Nat) (Y : List Value) : Prop :=
  Y.length = k * 2 ∧ (∀ v ∈ Y, v.oneCell' = true) ∧ ∀ w', Below w.heap.size w w' → 0 < k → ∃ ad, p = some ad ∧ ∀ j v, Y[j]? = some v → w'.cell? (ad.add j) = some v

theorem pos_of {w w' : World} {p d : Option Addr} {k g off : Nat} {Y : List Value} (h : Reads w p k Y) (hb : Below w.heap.size w w') (hd : 0 < k → d = some ⟨g, off, none⟩) :
    0 < k → d = some ⟨g, off, none⟩ ∧ ∃ ad, p = some ad ∧ ∀ j v, Y[j]? = some v → w'.cell? (ad.add j) = some v := fun h0 => ⟨hd h0, h.2.2 w' hb h0⟩
theorem min_left {a b c : Nat} (h : a ≤ b) (e : b = c) : a = Nat.min a c := by subst e; exact (Nat.min_eq_left h).symm

def Spliced (w : World) (N : Nat) (R : List Value) (e : Ending) (w' : World) : Prop :=
  e = .returned (.slice (some ⟨w.heap.size, 0, none⟩) N N) ∧ w'.heap[w.heap.size]? = some (.cells R.toArray 35 (0, 0)) ∧ Below w.heap.size w w'

set_option maxHeartbeats 1000000 in
set_option maxRecDepth 100000 in
theorem splice_walk (p q p1 p3 p4 p5 : Option Addr) (n cap m cap2 at_ c N k3 : Nat) (Z Y1 Y2 Y3 : List Value) (w : World)
    (b1 : at_ + c ≤ n) (b2 : n ≤ 1000000000) (b3 : m ≤ 1000000000) (b4 : n ≤ cap) (b5 : m ≤ cap2) (b6 : cap ≤ 9223372036854775807) (b7 : cap2 ≤ 9223372036854775807)
    (hN : at_ + m ≤ N) (hN2 : N ≤ 2000000000) (hZ : Z.length = N * 2) (e3 : k3 = N - (at_ + m)) (e3' : k3 = n - (at_ + c))
    (hmk : ∀ u : World, (Instr.makeSlice 28 (.int .i64 ((n : Int) - (c : Int) + (m : Int))) (.int .i64 ((n : Int) - (c : Int) + (m : Int)))).run Try.prog u = .ok (.slice (some ⟨u.heap.size, 0, none⟩) N N) (u.alloc (.cells Z.toArray 35)))
    (hp1 : ∀ u : World, (Instr.slice 28 (.slice p n cap) none (some (.int .i64 (at_ : Int))) none).run Try.prog u = .ok (.slice p1 at_ cap) u)
    (hp3 : ∀ u : World, (Instr.slice 28 (.slice p n cap) (some (.int .i64 ((at_ : Int) + (c : Int)))) none none).run Try.prog u = .ok (.slice p3 k3 (cap - (at_ + c))) u)
    (hp4 : ∀ u : World, (Instr.slice 28 (.slice (some ⟨w.heap.size, 0, none⟩) N N) (some (.int .i64 (at_ : Int))) none none).run Try.prog u = .ok (.slice p4 (N - at_) (N - at_)) u)
    (hp5 : ∀ u : World, (Instr.slice 28 (.slice (some ⟨w.heap.size, 0, none⟩) N N) (some (.int .i64 ((at_ : Int) + (m : Int)))) none none).run Try.prog u = .ok (.slice p5 k3 k3) u)
    (H4 : Hid (0 < m → p4 = some ⟨w.heap.size, 2 * at_, none⟩)) (H5 : Hid (0 < k3 → p5 = some ⟨w.heap.size, 2 * (at_ + m), none⟩))
    (H1 : Hid (Reads w p1 at_ Y1)) (H2 : Hid (Reads w q m Y2)) (H3 : Hid (Reads w p3 k3 Y3)) :
    Calls Try.prog 50 #[.slice p n cap, .int .i64 (at_ : Nat), .int .i64 (c : Nat), .slice q m cap2] w (Spliced w N (splice (splice (splice Z 0 Y1) (2 * at_) Y2) (2 * (at_ + m)) Y3)) := by
  have HG0 : Hid ((w.alloc (.cells Z.toArray 35)).heap[w.heap.size]? = some (.cells Z.toArray 35 (0, 0))) := heap_alloc_new w _
  have HB0 : Below w.heap.size w (w.alloc (.cells Z.toArray 35)) := (Below.refl _ _).alloc (Nat.le_refl _) _
  have HZ := Lib.hid hZ
  have HE := Lib.hid e3
  have HE' := Lib.hid e3'
  clear hZ e3 e3'
  have K1 : Hid (at_ = Nat.min at_ N) := min_left (by omega) rfl
  have K2 : Hid (m = Nat.min m (N - at_)) := min_left (by omega) rfl
  have K3 : Hid (k3 = Nat.min k3 k3) := min_left (Nat.le_refl _) rfl
  have F1 : Hid (0 + Y1.length ≤ Z.length) := by show 0 + Y1.length ≤ Z.length; rw [H1.out.1, HZ.out]; omega
  have G1 : (splice Z 0 Y1).length = Z.length := length_splice _ _ _ F1.out
  have F2 : 2 * at_ + Y2.length ≤ (splice Z 0 Y1).length := by rw [G1, H2.out.1, HZ.out]; omega
  have G2 : (splice (splice Z 0 Y1) (2 * at_) Y2).length = (splice Z 0 Y1).length := length_splice _ _ _ F2
  have F3 : 2 * (at_ + m) + Y3.length ≤ (splice (splice Z 0 Y1) (2 * at_) Y2).length := by rw [G2, G1, H3.out.1, HZ.out, HE.out]; omega
  have J1 := Lib.hid H1.out.1
  have J2 := Lib.hid H2.out.1
  have J3 := Lib.hid H3.out.1
  have O1 := Lib.hid H1.out.2.1
  have O2 := Lib.hid H2.out.2.1
  have O3 := Lib.hid H3.out.2.1
  have F2' := Lib.hid F2
  have F3' := Lib.hid F3
  clear G1 G2 F2 F3
  go_enter Try.func50, Try.ntmps50
  go_wp2_with (first
    | (with_reducible refine wpList_copyN (o := ⟨some 22, _, _, _, _, _⟩) rfl (.tmp 18) (.tmp 21) 28 28 rfl 35 2 Try.underlying28 size24 (by decide) _ _ _ _ _ _ rfl rfl w.heap.size 0 at_ Z 35 HG0 Y1 K1.out J1.out (pos_of H1.out HB0 (fun _ => rfl)) F1.out O1.out w.heap.size w HB0 (Nat.le_refl _) ?_; intro w1 HG1 HB1)
    | (with_reducible refine wpList_copyN (o := ⟨some 27, _, _, _, _, _⟩) rfl (.tmp 25) (.tmp 26) 28 28 rfl 35 2 Try.underlying28 size24 (by decide) _ _ _ _ _ _ rfl rfl w.heap.size (2 * at_) m _ 35 (by assumption) Y2 K2.out J2.out (pos_of H2.out (by assumption) H4.out) F2'.out O2.out w.heap.size w (by assumption) (Nat.le_refl _) ?_; intro w2 HG2 HB2))
  have HG2' : Hid (w2.drew.heap[w.heap.size]? = some (.cells (splice (splice Z 0 Y1) (2 * at_) Y2).toArray 35 (0, 0))) := HG2
  have HB2' : Below w.heap.size w w2.drew := HB2.drew
  have W1 : IntKind.i64.wrap ((at_ : Int) + (m : Int)) = (at_ : Int) + (m : Int) := IntWalk.i64_in _ (by omega)
  have W2 : IntKind.i64.wrap ((at_ : Int) + (c : Int)) = (at_ : Int) + (c : Int) := IntWalk.i64_in _ (by omega)
  go_still_tail 11, (by kernel_rfl)
  clear W1 W2
  change wpList _ _ _ _ _ w2.drew
  with_reducible refine wpList_copyN (o := ⟨some 39, _, _, _, _, _⟩) rfl (.tmp 33) (.tmp 38) 28 28 rfl 35 2 Try.underlying28 size24 (by decide) _ _ _ _ _ _ rfl rfl w.heap.size (2 * (at_ + m)) k3 _ 35 HG2' Y3 K3.out J3.out (pos_of H3.out HB2' H5.out) F3'.out O3.out w.heap.size w HB2' (Nat.le_refl _) ?_
  intro w3 HG3 HB3
  go_wp2
  go_ret
  exact ⟨rfl, HG3.out, HB3⟩

set_option maxHeartbeats 1000000 in
set_option maxRecDepth 100000 in
theorem splice_any (p q : Option Addr) (cap cap2 at_ c : Nat) (L M : List Src) (w : World) (hc : L.length ≤ cap) (hm : cap ≤ maxLen) (hc2 : M.length ≤ cap2) (hm2 : cap2 ≤ maxLen)
    (h1 : LiesAt w p L) (h2 : LiesAt w q M) (hat : at_ + c ≤ L.length) (hsz : L.length + M.length ≤ 1000000000) :
    Calls Try.prog 50 #[.slice p L.length cap, .int .i64 (at_ : Nat), .int .i64 (c : Nat), .slice q M.length cap2] w fun e w' =>
      ∃ v, e = .returned v ∧ SrcIs w' v (L.take at_ ++ (M ++ L.drop (at_ + c))) ∧ Below w.heap.size w w' := by
  obtain ⟨i0, hi, hz0, hz1, hz2⟩ := info_parts info24
  unfold maxLen at hm hm2
  -- the three parts
  obtain ⟨p1, hp1, hp1'⟩ := slice_upto p L.length cap at_ (by omega)
  obtain ⟨p3, hp3, hp3'⟩ := slice_from p L.length cap (at_ + c) hat hc
  have l1 : (L.take at_).length = at_ := by rw [List.length_take]; omega
  have l3 : (L.drop (at_ + c)).length = L.length - (at_ + c) := by rw [List.length_drop]
  have S1 : Reads w p1 at_ (srcCells (L.take at_)) := ⟨by rw [srcCells_length, l1], srcCells_one _, fun w' hb h0 => copy_reads (X := L.take at_) (p' := p1) h1 (fun h0 => ⟨by omega, 0, fun b off e => by simpa using hp1' b off e, fun b off hcl => by simpa using hcl.take at_⟩) w' hb (by omega)⟩
  have S2 : Reads w q M.length (srcCells M) := ⟨srcCells_length _, srcCells_one _, fun w' hb h0 => copy_reads (X := M) (p' := q) h2 (fun h0 => ⟨h0, 0, fun b off e => by simpa using e, fun b off hcl => by simpa using hcl⟩) w' hb h0⟩
  have S3 : Reads w p3 (L.length - (at_ + c)) (srcCells (L.drop (at_ + c))) := ⟨by rw [srcCells_length, l3], srcCells_one _, fun w' hb h0 => copy_reads (X := L.drop (at_ + c)) (p' := p3) h1 (fun h0 => ⟨by omega, at_ + c, hp3' (by omega), fun b off hcl => hcl.drop _⟩) w' hb (by omega)⟩
  -- the new row
  obtain ⟨N, hN⟩ : ∃ N, N = L.length - c + M.length := ⟨_, rfl⟩
  obtain ⟨Z, hZ⟩ : ∃ Z : List Value, Z.toArray = madeCells #[.string ⟨#[]⟩, .string ⟨#[]⟩] (N * 2) := ⟨(madeCells #[.string ⟨#[]⟩, .string ⟨#[]⟩] (N * 2)).toList, by simp⟩
  have hZl : Z.length = N * 2 := by have := congrArg Array.size hZ; simpa [madeCells] using this
  have hmk : ∀ u : World, (Instr.makeSlice 28 (.int .i64 ((L.length : Int) - (c : Int) + (M.length : Int))) (.int .i64 ((L.length : Int) - (c : Int) + (M.length : Int)))).run Try.prog u =
      .ok (.slice (some ⟨u.heap.size, 0, none⟩) N N) (u.alloc (.cells Z.toArray 35)) := fun u => by
    have h := run_make (P := Try.prog) u 28 35 i0 (.agg #[.string ⟨#[]⟩, .string ⟨#[]⟩]) Try.underlying28 hi hz0 .i64 .i64 ((L.length : Int) - (c : Int) + (M.length : Int)) ((L.length : Int) - (c : Int) + (M.length : Int)) (by omega) (Int.le_refl _) (by rw [hz2]; omega) (by omega)
    have e : ((L.length : Int) - (c : Int) + (M.length : Int)).toNat = N := by omega
    rw [e, hz1] at h
    rw [hZ]
    exact h
  obtain ⟨p4, hp4, hp4'⟩ := slice_from (some ⟨w.heap.size, 0, none⟩) N N at_ (by omega) (Nat.le_refl _)
  obtain ⟨p5, hp5, hp5'⟩ := slice_from (some ⟨w.heap.size, 0, none⟩) N N (at_ + M.length) (by omega) (Nat.le_refl _)
  have ek : N - (at_ + M.length) = L.length - (at_ + c) := by omega
  rw [ek] at hp5
  refine (splice_walk p q p1 p3 p4 p5 L.length cap M.length cap2 at_ c N (L.length - (at_ + c)) Z (srcCells (L.take at_)) (srcCells M) (srcCells (L.drop (at_ + c))) w
    hat (by omega) (by omega) hc hc2 hm hm2 (by omega) (by omega) hZl (by omega) rfl hmk hp1 (by simpa using hp3) hp4 (by simpa using hp5)
    (fun h0 => by have := hp4' (by omega) _ _ rfl; simpa using this) (fun h0 => by have := hp5' (by omega) _ _ rfl; simpa using this) S1 S2 S3).mono ?_
  rintro e w' ⟨rfl, hg, hb⟩
  have hfin : splice (splice (splice Z 0 (srcCells (L.take at_))) (2 * at_) (srcCells M)) (2 * (at_ + M.length)) (srcCells (L.drop (at_ + c))) = srcCells (L.take at_ ++ (M ++ L.drop (at_ + c))) := by
    rw [show 2 * (at_ + M.length) = 2 * at_ + 2 * M.length by omega]
    rw [splice_splice_splice Z _ _ _ (2 * at_) (2 * M.length) (by rw [S1.1]; omega) (by rw [S2.1]; omega) (by rw [hZl, S3.1]; omega)]
    rw [srcCells_append, srcCells_append]
  rw [hfin] at hg
  have hlen : (L.take at_ ++ (M ++ L.drop (at_ + c))).length = N := by
    rw [List.length_append, List.length_append, l1, l3]; omega
  refine ⟨_, rfl, ⟨some ⟨w.heap.size, 0, none⟩, N, by rw [hlen], by omega, by unfold maxLen; omega, fun _ => ⟨_, _, rfl, ?_⟩⟩, hb⟩
  intro j v hv
  rw [cell_of_row w' w.heap.size (0 + j) _ _ (0, 0) hg]
  simpa using hv
end Go.Proofs.Ytflcpcefjliijaa
