/-
  CONTRACTS: slices.SortedFunc of the keys of a map of binds; (modules.giving).list.
-/
import Derived.Test.YtheigpiffdabnaaMdL
namespace Go.Proofs.Ytheigpiffdabnaa.Mds
open Go Go.RowKit Go.Maps Go.Shelf
set_option linter.unusedVariables false
set_option linter.unusedSimpArgs false
set_option maxRecDepth 1000000

open Go.Sort in
theorem holdsK_own {w : World} {base gb n c : Nat} {L : List Bd} (h : OwnL encBd bdT w base (.slice (some ⟨gb, 0, none⟩) n c) L) : HoldsK bdC 2 w gb 0 L.toArray := by
  intro t ht
  have hn : n = L.length := (h.sl.lies).1
  subst hn
  have ht2 : t < L.length * 2 := by
    have : (flatK bdC 2 L.toArray).size = L.toArray.size * 2 := size_flatK _ _ _
    rw [this] at ht
    simpa using ht
  refine ⟨?_, ?_⟩
  · rw [get_flatK _ _ _ _ (by simpa using ht2)]
    have hi : t / 2 < L.length := by omega
    obtain ⟨-, -, -, h3⟩ := h.sl.lies
    obtain ⟨ib', io', e, hc⟩ := h3 (by omega)
    injection e with e; injection e with e1 e2 _
    subst e1; subst e2
    have he : (L.toArray)[t / 2]! = L[t / 2] := by simp [hi]
    rw [he]
    have hk : t % 2 < 2 := by omega
    have := hc.elem (t / 2) hi (t % 2) hk ((bdC L[t / 2])[t % 2]!) (by
      show (bdC L[t / 2])[t % 2]? = _
      have : t % 2 < (bdC L[t / 2]).length := hk
      rw [List.getElem?_eq_getElem this]
      congr 1
      exact (getElem!_pos (bdC L[t / 2]) (t % 2) this).symm)
    have e2 : encBd.size = 2 := rfl
    rw [e2, show 0 + t / 2 * 2 + t % 2 = 0 + t by omega] at this
    exact this
  · exact World.ownsRow.frozenAt h _
theorem lbdC (n : Nat) (W : World) (h : n ≤ 12) : Calls Try.prog 68 #[.int .u64 n] W fun e w' => (∃ l : Int, e = .returned (.int .i64 l)) ∧ w' = W :=
  (Try.bits_Len n W (by omega) (by omega)).mono fun _ _ ⟨he, hw⟩ => ⟨⟨_, he⟩, hw⟩
open Go.Sort in
theorem sorted_grown {w w3 : World} {gb sn : Nat} {d' : Array Bd} {sos : Array Obj} (h : w3 = sortWorldK bdC 2 w gb 0 sn d' sos) : w.grownBy w3 (some gb) := by
  subst h
  refine ⟨rfl, rfl, rfl, by simp [sortWorldK, putRowK], fun k hk hne => ?_⟩
  unfold sortWorldK putRowK
  rw [heap_grow_old _ _ (by simpa using hk)]
  have : gb ≠ k := fun e => hne (by rw [e])
  simp [putRow, mapBlock, Sort.ahead, Array.getElem?_modify, this]
theorem at_row {w w3 : World} {b i gb : Nat} {v : Value} (hne : b ≠ gb) (hg : w.grownBy w3 (some gb)) (h : w.cell? ⟨b, i, none⟩ = some v) : w3.cell? ⟨b, i, none⟩ = some v := by
  rw [World.cell?_of_block (w := w) (hg.block b (World.block_lt_of_cell? w _ h) (by simpa using hne))]
  exact h
open Go.Sort in
theorem holdsK_sorted {w w3 : World} {gb sn : Nat} {d0 d' : Array Bd} {sos : Array Obj} (h : HoldsK bdC 2 w gb 0 d0) (hs : d'.size = d0.size) (hb : gb < w.heap.size) (hw : w3 = sortWorldK bdC 2 w gb 0 sn d' sos) : HoldsK bdC 2 w3 gb 0 d' := by
  subst hw
  exact holdsK_grow _ _ _ _ _ _ _ (by simpa [putRowK, Sort.ahead] using hb) (holdsK_putRowK _ _ _ _ _ d0 d' (holdsK_ahead _ _ w sn gb 0 d0 h) hs)
open Go.Sort in
theorem cellsAt_holdsK {w : World} {gb : Nat} {d : Array Bd} (h : HoldsK bdC 2 w gb 0 d) : CellsAt w gb 0 (encBd.all d.toList) := by
  intro j v hv
  have e2 : encBd.size = 2 := rfl
  have hj : j < d.toList.length * 2 := by
    by_cases q : j < d.toList.length * 2
    · exact q
    · rw [List.getElem?_eq_none (by rw [encBd.all_length, e2]; omega)] at hv; cases hv
  have hi : j / 2 < d.toList.length := by omega
  have hk : j % 2 < 2 := by omega
  have h1 := encBd.all_at d.toList (j / 2) hi (j % 2) hk
  rw [e2, show j / 2 * 2 + j % 2 = j by omega, hv] at h1
  have hi' : j / 2 < d.size := by simpa using hi
  have h2 := (h.cell hi' hk).1
  rw [show 0 + j / 2 * 2 + j % 2 = 0 + j by omega] at h2
  rw [h2]
  congr 1
  have e5 : d[j / 2]! = d.toList[j / 2] := by rw [getElem!_pos d _ hi']; simp
  rw [e5]
  have h3 : (bdC d.toList[j / 2])[j % 2]? = some v := h1.symm
  have h4 : j % 2 < (bdC d.toList[j / 2]).length := hk
  rw [List.getElem?_eq_getElem h4] at h3
  rw [getElem!_pos (bdC d.toList[j / 2]) (j % 2) h4]
  exact Option.some.inj h3

theorem keysB_any (b : Nat) (w : World) : Calls Try.prog 63 #[.map (some b)] w fun e w' => e = .returned (.func (.func 76) #[] #[.pointer (some ⟨w.heap.size, 0, none⟩)]) ∧ w' = w.alloc (.cells #[.map (some b)] 81) := by
  go_enter Try.func63, Try.ntmps63
  go_wp2_with fail
  go_ret
  exact ⟨rfl, rfl⟩
theorem keysB_seq (n : Nat) (hn : 1 ≤ n) (Bm b : Nat) (bs : List Bd) (hnd : bs.Nodup) (hfit : ∀ x ∈ bs, x.1.size ≤ maxLen ∧ x.2.size ≤ maxLen) (w : World) (hBl : Bm < w.heap.size) (hBm : w.cell? ⟨Bm, 0, none⟩ = some (.map (some b))) (hown : MapAt bdKeys tt w b bs.length (setF bs)) :
    SeqStopsK Fence.wide n Try.prog 76 #[.pointer (some ⟨Bm, 0, none⟩)] (fun s => #[bdV s]) (KpW w.heap.size) (fun xs => xs.Nodup ∧ ∀ x, x ∈ xs ↔ x ∈ bs) (fun _ => True) bs.length w := fun l J Jx W hW hJ hJx hY h0 =>
  keysB_in n hn l Bm b w.heap.size bs hnd hfit hown.lt J Jx hY W hJ ((hW.cell (p := ⟨Bm, 0, none⟩) hBl).trans hBm) (hown.below hW hown.lt) h0
theorem collectB_any (Bm b : Nat) (bs : List Bd) (hnd : bs.Nodup) (hfit : ∀ x ∈ bs, x.1.size ≤ maxLen ∧ x.2.size ≤ maxLen) (hfew : bs.length ≤ 1000000) (w : World) (hBl : Bm < w.heap.size) (hBm : w.cell? ⟨Bm, 0, none⟩ = some (.map (some b))) (hown : MapAt bdKeys tt w b bs.length (setF bs)) :
    Calls Try.prog 74 #[.func (.func 76) #[] #[.pointer (some ⟨Bm, 0, none⟩)]] w fun e w' => ∃ v xs, e = .returned v ∧ (xs.Nodup ∧ ∀ x, x ∈ xs ↔ x ∈ bs) ∧ OwnL encBd bdT w' w.heap.size v xs ∧ Below w.heap.size w w' := by
  have h := callsIn_wide.1 (appendB_in 3 (by omega) 76 #[.pointer (some ⟨Bm, 0, none⟩)] (enters_of Try.func76 (by kernel_rfl) rfl) _ _ bs.length hfew w (keysB_seq 2 (by omega) Bm b bs hnd hfit w hBl hBm hown))
  clear hBm hown hfit
  go_enter Try.func74, Try.ntmps74
  go_wp2_with (first
    | (go_at_call 91; refine h.mono ?_; rintro e w' ⟨v, xs, rfl, hS, ho, hb⟩; have HS := Lib.hid hS; have HO := Lib.hid ho; have HB := Lib.hid hb; clear h hS ho hb)
    | fail)
  go_ret
  exact ⟨v, xs, rfl, HS.out, HO.out, HB.out⟩
theorem compact_nil {α : Type} : (#[] : Array α).toList = [] := rfl
open Go.Sort in
/-- the sort of a list of one's own -/
theorem sortB_any (v : Value) (xs : List Bd) (w w1 : World) (hw : w.heap.size ≤ w1.heap.size) (ho : OwnL encBd bdT w1 w.heap.size v xs) (hfew : xs.length ≤ 1000000) :
    Calls Try.prog 75 #[v, .func (.func 64) #[] #[]] w1 fun e w' => e = .returned (.tuple #[]) ∧ SlIs encBd w' v (sortB xs) ∧ Below w.heap.size w1 w' := by
  rcases ho.2 with ⟨rfl, h0⟩ | ⟨g, cap, cur, rfl, hb, hg, hc, hm, -, -⟩
  · have hx : xs = [] := List.length_eq_zero_iff.1 h0
    subst hx
    have h := AnyF.slices_SortFunc_none Try.sortBd none 0 (.func (.func 64) #[] #[]) w1
    refine (show Calls Try.prog 75 _ _ _ from h).mono ?_
    rintro e w' ⟨rfl, rfl⟩
    have e : sortB [] = [] := by simp [sortB]
    exact ⟨rfl, by rw [e]; exact SlIs.isNil _ _, Below.refl _ _⟩
  · have eg : ∀ args w, (callFunc 64 args).run Try.prog w = .ok (.enter 64 args) w := enters_of Try.func64 (by kernel_rfl) rfl
    have hH := holdsK_own ho
    have hgl : g < w1.heap.size := heap_lt hg
    have h := AnyQ.slices_SortFunc_total Try.sortBd 2 Try.isAgg61 Try.sizeOf61 bdC (fun _ => rfl) (fun x v hv => by simp [bdC] at hv; rcases hv with rfl | rfl <;> rfl) bcmp swo_bd 64 #[] g 0 cap xs.toArray w1 eg (cmpLaysB _ _ _ _) hH hgl (by simp; omega) (fun x y h1 h2 => by
      rw [lt_bd] at h1 h2
      simp at h1 h2
      have := bcmp_neg x y
      exact bcmp_zero (by omega))
    refine (show Calls Try.prog 75 #[.slice (some ⟨g, 0, none⟩) xs.length cap, .func (.func 64) #[] #[]] _ _ from h).mono ?_
    rintro e w' ⟨rfl, n, os, hw'⟩
    have hlen : (sortB xs).length = xs.length := (sortB_perm xs).length_eq
    have hg' : w1.grownBy w' (some g) := sorted_grown hw'
    have hH' := cellsAt_holdsK (holdsK_sorted hH (by show (sortB xs).toArray.size = _; simp [hlen]) hgl hw')
    refine ⟨rfl, ⟨some ⟨g, 0, none⟩, cap, by rw [hlen], by rw [hlen]; exact hc, hm, fun _ => ⟨g, 0, rfl, hH'⟩⟩, (Below.refl _ _).grown hg' hw (fun k hk => by cases hk; exact hb)⟩
theorem sortedFunc_any (Bm b : Nat) (bs : List Bd) (hnd : bs.Nodup) (hfit : ∀ x ∈ bs, x.1.size ≤ maxLen ∧ x.2.size ≤ maxLen) (hfew : bs.length ≤ 1000000) (w : World) (hBl : Bm < w.heap.size) (hBm : w.cell? ⟨Bm, 0, none⟩ = some (.map (some b))) (hown : MapAt bdKeys tt w b bs.length (setF bs)) :
    Calls Try.prog 62 #[.func (.func 76) #[] #[.pointer (some ⟨Bm, 0, none⟩)], .func (.func 64) #[] #[]] w fun e w' => ∃ v l, e = .returned v ∧ AscB l ∧ (∀ x, x ∈ l ↔ x ∈ bs) ∧ SlIs encBd w' v l ∧ Below w.heap.size w w' := by
  have h := collectB_any Bm b bs hnd hfit hfew w hBl hBm hown
  have HND := Lib.hid hnd
  have HFEW := Lib.hid hfew
  clear hBm hown hfit hnd hfew
  go_enter Try.func62, Try.ntmps62
  go_wp2_with (first
    | (go_at_call 74; refine h.mono ?_; rintro e w1 ⟨v, xs, rfl, hS, ho, hb⟩; have HS := Lib.hid hS; have HB := Lib.hid hb; have HSO := Lib.hid (sortB_any v xs w w1 hb.size ho (by have h1 := (List.Nodup.length_le_of_subset hS.1 (fun y hy => (hS.2 y).1 hy)); have h2 := HFEW.out; omega)); clear h hS ho hb)
    | (go_at_call 75; refine HSO.out.mono ?_; rintro e w2 ⟨rfl, hs2, hb2⟩; have HS2 := Lib.hid hs2; have HB2 := Lib.hid (HB.out.trans hb2); clear hs2 hb2)
    | fail)
  go_ret
  exact ⟨v, sortB xs, rfl, sortB_asc HS.out.1, fun x => by rw [(sortB_perm xs).mem_iff]; exact HS.out.2 x, HS2.out, HB2.out⟩
/-- list -/
theorem list_any (o b : Nat) (own : List ByteArray) (bs : List Bd) (hnd : bs.Nodup) (hfit : ∀ x ∈ bs, x.1.size ≤ maxLen ∧ x.2.size ≤ maxLen) (hfew : bs.length ≤ 1000000) (w : World) (hg : GvAt w o b own bs) :
    Calls Try.prog 48 #[.agg #[.map (some o), .map (some b)]] w fun e w' => ∃ v l, e = .returned v ∧ AscB l ∧ (∀ x, x ∈ l ↔ x ∈ bs) ∧ SlIs encBd w' v l ∧ Below w.heap.size w w' := by
  have HB0 : Hid (Below w.heap.size w ((w.alloc (.cells #[.map (some o), .map (some b)] gvT)).alloc (.cells #[.map (some b)] 81))) := bnext (below_box w _) (below_box _ _)
  have h := sortedFunc_any (w.heap.size + 1) b bs hnd hfit hfew ((w.alloc (.cells #[.map (some o), .map (some b)] gvT)).alloc (.cells #[.map (some b)] 81)) (by simp) (by have := cellsAt_alloc (w.alloc (.cells #[.map (some o), .map (some b)] gvT)) [.map (some b)] 81; have := this 0 _ rfl; rw [World.size_alloc] at this; exact this) (hg.bs.below HB0.out hg.bs.lt)
  clear hg hnd hfit hfew
  go_enter Try.func48, Try.ntmps48
  go_wp2_with (first
    | (go_at_call 63; refine (keysB_any b _).mono ?_; rintro e w1 ⟨rfl, rfl⟩; rw [World.size_alloc])
    | (go_at_call 62; refine h.mono ?_; rintro e w2 ⟨v, l, rfl, h1, h2, h3, h4⟩; have HR : Hid (AscB l ∧ (∀ x, x ∈ l ↔ x ∈ bs) ∧ SlIs encBd w2 v l ∧ Below w.heap.size w w2) := ⟨h1, h2, h3, bnext HB0.out h4⟩; clear h h1 h2 h3 h4)
    | fail)
  go_ret
  exact ⟨v, l, rfl, HR.out⟩
end Go.Proofs.Ytheigpiffdabnaa.Mds
