/-
  CONTRACTS: the items that the statements of identity make.
-/
import Derived.Test.YtcplhnpblpmalaaMoves
import Derived.Test.YtcplhnpblpmalaaDice
namespace Go.Proofs.Ytcplhnpblpmalaa.Idn
open Go Go.RowKit Go.Maps
set_option linter.unusedVariables false
set_option maxRecDepth 1000000
set_option linter.unusedSimpArgs false

abbrev itT : TypeId := 37
def nA : ByteArray := ⟨#[97]⟩
def nB : ByteArray := ⟨#[98]⟩
def nF : ByteArray := ⟨#[102]⟩
def nG : ByteArray := ⟨#[103]⟩
def nH : ByteArray := ⟨#[104]⟩
def nI : ByteArray := ⟨#[105]⟩
def modN (a : Nat) : ByteArray := match a with | 0 => nA | _ => nB
def namN (c : Nat) : ByteArray := match c with | 0 => nF | 1 => nG | 2 => nH | _ => nI
def keyN (k : Nat) : Df := (modN (k / 4), namN (k % 4))
def K8 : List Df := (List.range 8).map keyN
def befD (a b : Df) : Bool := ltS a.1 b.1 || (a.1.toList == b.1.toList && ltS a.2 b.2)
theorem K8_asc : K8.Pairwise fun a b => befD a b = true := by
  have : (K8.Pairwise fun a b => befD a b = true) ↔ ∀ i j, i < 8 → j < 8 → i < j → befD (keyN i) (keyN j) = true := by
    unfold K8
    rw [List.pairwise_map, List.pairwise_iff_getElem]
    constructor
    · intro h i j hi hj hij
      have := h i j (by simpa using hi) (by simpa using hj) hij
      simpa using this
    · intro h i j hi hj hij
      simp only [List.getElem_range]
      exact h i j (by simpa using hi) (by simpa using hj) hij
  rw [this]
  intro i j hi hj hij
  have key : ∀ i, i < 8 → ∀ j, j < 8 → i < j → (Op.bytesLess (keyN i).1.data.toList (keyN j).1.data.toList || ((keyN i).1.data.toList == (keyN j).1.data.toList && Op.bytesLess (keyN i).2.data.toList (keyN j).2.data.toList)) = true := by decide
  unfold befD ltS
  rw [ByteArray.toList_eq, ByteArray.toList_eq, ByteArray.toList_eq, ByteArray.toList_eq]
  exact key i hi j hj hij
theorem pw_asc : ∀ {l : List It}, (l.Pairwise fun a b => befB a b = true) → ascI l = true
  | [], _ => rfl
  | [a], _ => rfl
  | a :: b :: l, h => by
    rw [List.pairwise_cons] at h
    unfold ascI
    rw [Bool.and_eq_true]
    exact ⟨h.1 b (by simp), pw_asc h.2⟩
/-- items as the statements make them -/
structure Made5 (l : List It) : Prop where
  sub : (l.map dfn).Sublist K8
  short : ∀ x ∈ l, (shp x).size ≤ 4
theorem Made5.asc {l : List It} (h : Made5 l) : ascI l = true := by
  refine pw_asc ?_
  have := List.Pairwise.sublist h.sub K8_asc
  rw [List.pairwise_map] at this
  exact this
theorem Made5.len {l : List It} (h : Made5 l) : l.length ≤ 8 := by
  have := h.sub.length_le
  simpa [K8] using this
theorem Made5.mem {l : List It} (h : Made5 l) {x : It} (hx : x ∈ l) : ∃ k, k < 8 ∧ dfn x = keyN k := by
  have := h.sub.subset (List.mem_map_of_mem (f := dfn) hx)
  unfold K8 at this
  obtain ⟨k, hk, e⟩ := List.mem_map.1 this
  exact ⟨k, List.mem_range.1 hk, e.symm⟩
theorem Made5.fits {l : List It} (h : Made5 l) : FitsI l := by
  intro x hx
  obtain ⟨k, hk, e⟩ := h.mem hx
  have h1 : x.1 = modN (k / 4) := congrArg Prod.fst e
  have h2 : x.2.1 = namN (k % 4) := congrArg Prod.snd e
  have h3 := h.short x hx
  have key : ∀ k, k < 8 → (modN (k / 4)).size ≤ 1 ∧ (namN (k % 4)).size ≤ 1 := by decide
  have h4 := key k hk
  unfold FitI maxLen
  rw [h1, h2]
  exact ⟨by omega, by omega, by have : (x.2.2).size ≤ 4 := h3; omega⟩
theorem sub_step {L : List It} {k : Nat} {x : It} (h : (L.map dfn).Sublist ((List.range k).map keyN)) (hx : dfn x = keyN k) : ((L ++ [x]).map dfn).Sublist ((List.range (k + 1)).map keyN) := by
  rw [List.range_succ, List.map_append, List.map_append]
  exact h.append (by simp [hx])
theorem sub_skip {L : List It} {k : Nat} (h : (L.map dfn).Sublist ((List.range k).map keyN)) : (L.map dfn).Sublist ((List.range (k + 1)).map keyN) := by
  rw [List.range_succ, List.map_append]
  exact h.trans (List.sublist_append_left _ _)

theorem ownI_same {w w' : World} {base : Nat} {v : Value} {L : List It} (h : OwnL encIt itT w base v L) (e : ∀ k, v.ownBlock = some k → w'.heap[k]? = w.heap[k]?) : OwnL encIt itT w' base v L := by
  obtain ⟨h1, h2 | ⟨gb, cap, cur, e1, hb, hg, r⟩⟩ := h
  · exact ⟨h1, .inl h2⟩
  · exact ⟨h1, .inr ⟨gb, cap, cur, e1, hb, by rw [e gb (by rw [e1]; rfl)]; exact hg, r⟩⟩
theorem ownI_lt {w : World} {base : Nat} {v : Value} {L : List It} {k : Nat} (h : OwnL encIt itT w base v L) (e : v.ownBlock = some k) : base ≤ k ∧ k < w.heap.size := h.lt k e
theorem info_it : (Try.prog.info? 37).map (fun i => (i.zero, i.size, i.bytes)) = some (some (.agg #[.string ⟨#[]⟩, .string ⟨#[]⟩, .string ⟨#[]⟩]), encIt.size, 48) := by kernel_rfl

/-- the loops of items under way -/
structure It5 (d : Dice) (w wr : World) (v : Value) (L : List It) (k : Nat) : Prop where
  thrown : Thrown d w wr
  own : OwnL encIt itT wr w.heap.size v L
  sub : (L.map dfn).Sublist ((List.range k).map keyN)
  short : ∀ x ∈ L, (shp x).size ≤ 4
  far : ∀ j, v.ownBlock = some j → j ≠ w.heap.size
theorem It5.still {d : Dice} {w wr wx : World} {v : Value} {L : List It} {k : Nat} (hD : d.D < w.heap.size) (h : It5 d w wr v L k) (ht : Thrown d wr wx) : It5 d w wx v L k :=
  ⟨h.thrown.trans ht, ownI_same h.own (fun j hj => ht.but.block j (ownI_lt h.own hj).2 (fun a ha q => by unfold isAt at q; subst q; simp only at ha; have := (ownI_lt h.own hj).1; omega)), h.sub, h.short, h.far⟩
theorem thrown_alloc {d : Dice} {w : World} (h : DiceAt d w) (o : Obj) : Thrown d w (w.alloc o) := by
  have hb := below_box w o
  have hs := h.still (But.of_below (M := fun _ => False) hb) (fun _ _ _ _ q => q) (fun _ q => q)
  exact ⟨But.of_below hb, hs.1, Nat.le_of_eq hs.2.symm⟩
theorem thrown_bel {d : Dice} {w w' : World} (h : DiceAt d w) (hb : Below w.heap.size w w') : Thrown d w w' := by
  have hs := h.still (But.of_below (M := fun _ => False) hb) (fun _ _ _ _ q => q) (fun _ q => q)
  exact ⟨But.of_below hb, hs.1, Nat.le_of_eq hs.2.symm⟩
theorem shorts7 (w : World) {mm nn : ByteArray} (h1 : mm.size ≤ 1) (h2 : nn.size ≤ 1) : Shorts 4 (w.alloc (.cells #[.string ⟨#[49]⟩, .string ⟨#[50]⟩, .string ⟨#[51]⟩, .string ⟨#[52]⟩, .string ⟨#[53]⟩, .string ⟨#[54]⟩, .string (mm ++ nn)] 9)) (some ⟨w.heap.size, 0, none⟩) 7 := by
  intro i hi
  have hc := cellsAt_alloc w [.string ⟨#[49]⟩, .string ⟨#[50]⟩, .string ⟨#[51]⟩, .string ⟨#[52]⟩, .string ⟨#[53]⟩, .string ⟨#[54]⟩, .string (mm ++ nn)] 9
  have hs : (mm ++ nn).size ≤ 4 := by rw [ByteArray.size_append]; omega
  rcases (show i = 0 ∨ i = 1 ∨ i = 2 ∨ i = 3 ∨ i = 4 ∨ i = 5 ∨ i = 6 by omega) with rfl | rfl | rfl | rfl | rfl | rfl | rfl
  · exact ⟨_, _, _, rfl, hc 0 _ rfl, by decide⟩
  · exact ⟨_, _, _, rfl, hc 1 _ rfl, by decide⟩
  · exact ⟨_, _, _, rfl, hc 2 _ rfl, by decide⟩
  · exact ⟨_, _, _, rfl, hc 3 _ rfl, by decide⟩
  · exact ⟨_, _, _, rfl, hc 4 _ rfl, by decide⟩
  · exact ⟨_, _, _, rfl, hc 5 _ rfl, by decide⟩
  · exact ⟨_, _, _, rfl, hc 6 _ rfl, hs⟩
theorem thrown_base {d : Dice} {w w2 w5 : World} (h0 : DiceAt d w) (h : Thrown d w w2) (hb : Below w.heap.size w2 w5) : Thrown d w w5 := by
  have hD : d.D < w.heap.size := World.block_lt_of_cell? w _ h0.at_
  have g := h.good
  have hat : w5.cell? ⟨d.D, 1, none⟩ = some (.int .i64 (atOf d.D w2 : Nat)) := by rw [hb.cell (p := ⟨d.D, 1, none⟩) hD]; exact g.at_
  have e := atOf_eq hat
  refine ⟨⟨hb.os.trans h.but.os, hb.tape.trans h.but.tape, hb.output.trans h.but.output, Nat.le_trans h.but.size hb.size, fun x hx hm => (hb.cell hx).trans (h.but.cell x hx hm), fun x hx => (hb.frozen hx).trans (h.but.frozen x hx), fun k hk hm => (hb.block k hk).trans (h.but.block k hk hm)⟩,
    ⟨g.few, by rw [hb.cell (p := ⟨d.D, 0, none⟩) hD]; exact g.row, by rw [e]; exact hat, by rw [e]; exact g.le, fun i hi => ?_, g.away, by rw [hb.frozen (p := ⟨d.D, 1, none⟩) hD]; exact g.warm⟩, by rw [e]; exact h.le⟩
  obtain ⟨b, o, hp, x, h1, h2, hc⟩ := g.rolls i hi
  obtain ⟨b', o', hp', _, _, _, hc'⟩ := h0.rolls i hi
  have hbw : b < w.heap.size := by
    rw [hp] at hp'
    injection hp' with q; injection q with q1 q2 _
    rw [q1]
    exact World.block_lt_of_cell? w _ hc'
  exact ⟨b, o, hp, x, h1, h2, by rw [hb.cell (p := ⟨b, o + i, none⟩) hbw]; exact hc⟩
/-- one more item -/
theorem It5.next {d : Dice} {w w2 w5 : World} {v v' : Value} {L : List It} {k : Nat} {x : It} (h0 : DiceAt d w) (h : It5 d w w2 v L k) (hx : dfn x = keyN k) (hs : (shp x).size ≤ 4) (ho : OwnL encIt itT w5 w.heap.size v' (L ++ [x])) (hg : (w2.alloc (.cells #[.string x.1, .string x.2.1, .string x.2.2] itT)).grownBy w5 v.ownBlock)
    (hat : v'.ownBlock = v.ownBlock ∨ v'.ownBlock = some (w2.alloc (.cells #[.string x.1, .string x.2.1, .string x.2.2] itT)).heap.size) : It5 d w w5 v' (L ++ [x]) (k + 1) := by
  have hb : Below w.heap.size w2 w5 := ((below_box w2 _).mono h.thrown.but.size).trans ((Below.refl _ _).grown hg (by have := h.thrown.but.size; simp; omega) (fun j hj => (ownI_lt h.own hj).1))
  refine ⟨thrown_base h0 h.thrown hb, ho, sub_step h.sub hx, fun y hy => ?_, fun j hj => ?_⟩
  · rcases List.mem_append.1 hy with q | q
    · exact h.short y q
    · rw [List.mem_singleton] at q; subst q; exact hs
  · rcases hat with e | e
    · exact h.far j (by rw [← e]; exact hj)
    · rw [e] at hj; cases hj; have := h.thrown.but.size; simp; omega
theorem cells_row2 {w2 w5 : World} {o : Obj} {b : Nat} {cs : List Value} {row : Option Nat} (h : CellsAt w2 b 0 cs) (hc : cs ≠ []) (hg : (w2.alloc o).grownBy w5 row) (hr : ∀ j, row = some j → j ≠ b) : CellsAt w5 b 0 cs := by
  have hb : b < w2.heap.size := by
    cases cs with
    | nil => exact absurd rfl hc
    | cons c cs => exact World.block_lt_of_cell? w2 _ (h 0 c rfl)
  exact cells_row (h.below (below_box w2 o)) hg (fun e => hr b e.symm rfl) (by simp; omega)
theorem cells_thrown {d : Dice} {w w' : World} {b : Nat} {cs : List Value} (h : CellsAt w b 0 cs) (ht : Thrown d w w') (hb : b ≠ d.D) : CellsAt w' b 0 cs := by
  intro j v hv
  exact ht.but.keep (h j v hv) (fun q => by unfold isAt at q; injection q with q _ _; exact hb q)

set_option maxHeartbeats 4000000 in
set_option maxRecDepth 1000000 in
theorem items_any (d : Dice) (w : World) (hd : DiceAt d w) :
    Calls Try.prog 13 #[.pointer (some ⟨d.D, 0, none⟩)] w fun e w' => ∃ v l, e = .returned v ∧ Made5 l ∧ OwnL encIt itT w' w.heap.size v l ∧ Thrown d w w' := by
  have hD : d.D < w.heap.size := World.block_lt_of_cell? w _ hd.at_
  have HD := Lib.hid hd
  have HDL := Lib.hid hD
  clear hd hD
  obtain ⟨i0, hi0, hz0, hz1, hz2⟩ := info_parts info_it
  go_enter Try.func13, Try.ntmps13
  go_wp2
  have H0 : Hid (It5 d w (w.alloc (.cells #[.string nA, .string nB] 9)) (.slice none 0 0) [] 0) := ⟨thrown_alloc HD.out _, OwnL.isNil _ _ _ _, by simp, fun x hx => (by cases hx), fun j hj => by cases hj⟩
  have C0 := Lib.hid (cellsAt_alloc w [.string nA, .string nB] 9)
  have HSB : Hid (w.heap.size ≠ d.D) := by have := HDL.out; unfold Hid; omega
  go_loopw [3, 10] (fun v i wr => ∃ (a : Nat) (L : List It), a ≤ 2 ∧ i = .int .i64 a ∧ Hid (It5 d w wr v L (a * 4)) ∧ Hid (CellsAt wr w.heap.size 0 [.string nA, .string nB])) (fun _ i _ => 2 - (intOf i).toNat)
  case atStart => exact ⟨0, [], by omega, rfl, H0, C0⟩
  case round =>
    obtain ⟨a, L, ha, rfl, HI, HC⟩ := hrel
    clear H0 C0
    by_cases hlt : a < 2
    · have hai : (a : Int) < 2 := by omega
      have q0 : wr.cell? ⟨w.heap.size, a, none⟩ = some (.string (modN a)) := by
        rcases (show a = 0 ∨ a = 1 by omega) with rfl | rfl
        · exact HC.out 0 _ rfl
        · exact HC.out 1 _ rfl
      have HI1 : Hid (It5 d w (wr.alloc (.cells #[.string ⟨#[102]⟩, .string ⟨#[103]⟩, .string ⟨#[104]⟩, .string ⟨#[105]⟩] 9)) _ L (a * 4)) := HI.out.still HDL.out (thrown_alloc HI.out.thrown.good _)
      have HC1 := Lib.hid (HC.out.below (below_box wr (.cells #[.string ⟨#[102]⟩, .string ⟨#[103]⟩, .string ⟨#[104]⟩, .string ⟨#[105]⟩] 9)))
      have HN1 : Hid (CellsAt (wr.alloc (.cells #[.string ⟨#[102]⟩, .string ⟨#[103]⟩, .string ⟨#[104]⟩, .string ⟨#[105]⟩] 9)) wr.heap.size 0 [.string nF, .string nG, .string nH, .string nI]) := cellsAt_alloc wr [.string nF, .string nG, .string nH, .string nI] 9
      have HNB : Hid (wr.heap.size ≠ d.D) := by have := HDL.out; have := HI.out.thrown.but.size; unfold Hid; omega
      have HFN : Hid (∀ j, Value.ownBlock _ = some j → j ≠ wr.heap.size) := fun j hj => by have := (ownI_lt HI.out.own hj).2; omega
      clear HI HC
      go_wp2_with fail
      generalize wr.alloc (.cells #[.string ⟨#[102]⟩, .string ⟨#[103]⟩, .string ⟨#[104]⟩, .string ⟨#[105]⟩] 9) = wB at *
      generalize wr.heap.size = nb at *
      go_loopw [3, 16] (fun v i wr => ∃ (c : Nat) (L : List It), c ≤ 4 ∧ i = .int .i64 c ∧ Hid (It5 d w wr v L (a * 4 + c)) ∧ Hid (CellsAt wr w.heap.size 0 [.string nA, .string nB]) ∧ Hid (CellsAt wr nb 0 [.string nF, .string nG, .string nH, .string nI]) ∧ Hid (∀ j, v.ownBlock = some j → j ≠ nb)) (fun _ i _ => 4 - (intOf i).toNat)
      case atStart => exact ⟨0, L, by omega, rfl, HI1, HC1, HN1, HFN⟩
      case round =>
        obtain ⟨c, L, hc, rfl, HI, HC, HN, HF⟩ := hrel
        clear HI1 HC1 HN1 HFN
        by_cases hlc : c < 4
        · have hci : (c : Int) < 4 := by omega
          have q1 : wr.cell? ⟨nb, c, none⟩ = some (.string (namN c)) := by
            rcases (show c = 0 ∨ c = 1 ∨ c = 2 ∨ c = 3 by omega) with rfl | rfl | rfl | rfl
            · exact HN.out 0 _ rfl
            · exact HN.out 1 _ rfl
            · exact HN.out 2 _ rfl
            · exact HN.out 3 _ rfl
          have hk : dfn (modN a, namN c, ByteArray.empty) = keyN (a * 4 + c) := by
            have e1 : (a * 4 + c) / 4 = a := by omega
            have e2 : (a * 4 + c) % 4 = c := by omega
            unfold keyN dfn
            rw [e1, e2]
          have hsz : (modN a).size ≤ 1 ∧ (namN c).size ≤ 1 := by
            have k1 : ∀ a, a < 2 → (modN a).size ≤ 1 := by decide
            have k2 : ∀ c, c < 4 → (namN c).size ≤ 1 := by decide
            exact ⟨k1 a hlt, k2 c hlc⟩
          generalize modN a = mm at *
          generalize namN c = nn at *
          have HK := Lib.hid hk
          have HSZ := Lib.hid hsz
          have hno : ¬ 9223372036854775807 < mm.size + nn.size := by omega
          have HLE : Hid (L.length ≤ 8) := by have := HI.out.sub.length_le; simp at this; unfold Hid; omega
          clear hk hsz
          go_wp2_with (first
            | (go_at_call 12; refine (next_any d 3 _ HI.out.thrown.good (by omega) (by omega)).mono ?_; rintro e w1 ⟨k, hk3, rfl, ht, -⟩; have HI2 := Lib.hid (HI.out.still HDL.out ht); have HC2 := Lib.hid (cells_thrown HC.out ht HSB.out); have HN2 := Lib.hid (cells_thrown HN.out ht HNB.out); clear ht HI HC HN)
            | (go_at_call 15; refine (of_any d 4 7 7 w1.heap.size 0 (w1.alloc (.cells #[.string ⟨#[49]⟩, .string ⟨#[50]⟩, .string ⟨#[51]⟩, .string ⟨#[52]⟩, .string ⟨#[53]⟩, .string ⟨#[54]⟩, .string (mm ++ nn)] 9)) (HI2.out.still HDL.out (thrown_alloc HI2.out.thrown.good _)).thrown.good (by omega) (by omega) (shorts7 w1 HSZ.out.1 HSZ.out.2) (by have := HDL.out; have := HI2.out.thrown.but.size; omega)).mono ?_; rintro e w2 ⟨s, hs4, rfl, ht⟩; have htt := (thrown_alloc HI2.out.thrown.good (.cells #[.string ⟨#[49]⟩, .string ⟨#[50]⟩, .string ⟨#[51]⟩, .string ⟨#[52]⟩, .string ⟨#[53]⟩, .string ⟨#[54]⟩, .string (mm ++ nn)] 9)).trans ht; have HI3 := Lib.hid (HI2.out.still HDL.out htt); have HC3 := Lib.hid (cells_thrown HC2.out htt HSB.out); have HN3 := Lib.hid (cells_thrown HN2.out htt HNB.out); have HS4 := Lib.hid hs4; have HOA := Lib.hid ((HI3.out.own).alloc (.cells #[.string mm, .string nn, .string s] itT)); have HLS : Hid (CellsAt (w2.alloc (.cells #[.string mm, .string nn, .string s] itT)) w2.heap.size 0 (encIt.all [(mm, nn, s)])) := cellsAt_alloc w2 [.string mm, .string nn, .string s] _; have HBS : Hid (w.heap.size ≤ (w2.alloc (.cells #[.string mm, .string nn, .string s] itT)).heap.size) := Nat.le_trans HI3.out.thrown.but.size (below_box w2 _).size; clear ht htt hs4 HI2 HC2 HN2)
            | (at_builtin; refine wpList_append_own_at _ rfl (.tmp 23) (.tmp 33) 34 rfl w.heap.size itT i0 (.agg #[.string ⟨#[]⟩, .string ⟨#[]⟩, .string ⟨#[]⟩]) 3 48 Try.underlying34 hi0 hz0 hz1 hz2 ?_ ?_ u3 L.length (encIt.all L) ?_ ?_ ⟨w2.heap.size, 0, none⟩ 1 1 [.string mm, .string nn, .string s] ?_ ?_ ?_ ?_ ?_ ?_ ?_ ?_)
            | go_in)
          · rfl
          · decide
          · rfl
          · exact HOA.out
          · rfl
          · rfl
          · exact fun j u hu => by rw [add_lit]; exact HLS.out j u hu
          · exact fun u hu => by simp at hu; rcases hu with rfl | rfl | rfl <;> rfl
          · have := HLE.out; unfold maxLen; omega
          · have := HLE.out; omega
          · exact HBS.out
          · intro v' w5 hown5 hgrow5 _ hat5
            have hown6 : OwnL encIt itT w5 w.heap.size v' (L ++ [(mm, nn, s)]) := by
              unfold OwnL
              rw [List.length_append, encIt.all_append]
              exact hown5
            have HI6 := Lib.hid (It5.next (x := (mm, nn, s)) HD.out HI3.out (by exact HK.out) HS4.out hown6 hgrow5 (by simpa using hat5))
            have HC6 := Lib.hid (cells_row2 HC3.out (by simp) hgrow5 (fun j hj => HI3.out.far j hj))
            have HN6 := Lib.hid (cells_row2 HN3.out (by simp) hgrow5 (fun j hj => HF.out j hj))
            have HF6 : Hid (∀ j, v'.ownBlock = some j → j ≠ nb) := fun j hj => by
              rcases hat5 with e | e
              · exact HF.out j (by rw [← e]; exact hj)
              · rw [e] at hj; cases hj
                have : nb < w2.heap.size := World.block_lt_of_cell? w2 _ (HN3.out 0 _ rfl)
                simp; omega
            clear hown5 hown6 hgrow5 hat5 HI3 HC3 HN3 HF HOA HLS HBS
            go_wp2_with fail
            go_roundw
            case rel => exact ⟨c + 1, _, by omega, by go_num, by rw [← Nat.add_assoc]; exact HI6, HC6, HN6, HF6⟩
            case measure => simp [intOf]; omega
          · have HI6 : Hid (It5 d w w1 u3 L (a * 4 + (c + 1))) := ⟨HI2.out.thrown, HI2.out.own, by rw [← Nat.add_assoc]; exact sub_skip HI2.out.sub, HI2.out.short, HI2.out.far⟩
            go_roundw
            case rel => exact ⟨c + 1, L, by omega, by go_num, HI6, HC2, HN2, HF⟩
            case measure => simp [intOf]; omega
        · have hce : c = 4 := by omega
          subst hce
          have e6 : (a + 1) * 4 = a * 4 + 4 := by omega
          go_wp2_with fail
          go_roundw
          case rel => exact ⟨a + 1, L, by omega, by go_num, by rw [e6]; exact HI, HC⟩
          case measure => simp [intOf]; omega
    · have hae : a = 2 := by omega
      subst hae
      go_wp2_with fail
      go_ret
      exact ⟨_, L, rfl, ⟨HI.out.sub, HI.out.short⟩, HI.out.own, HI.out.thrown⟩
end Go.Proofs.Ytcplhnpblpmalaa.Idn
