/-
  CONTRACTS: identity.numbered.
-/
import Derived.Test.YtcplhnpblpmalaaNumb
namespace Go.Proofs.Ytcplhnpblpmalaa.Idn
open Go Go.RowKit Go.Maps
set_option linter.unusedVariables false
set_option maxRecDepth 1000000
set_option linter.unusedSimpArgs false

theorem info_en : (Try.prog.info? 39).map (fun i => (i.zero, i.size, i.bytes)) = some (some (.agg #[.int .i64 0, .string ⟨#[]⟩, .string ⟨#[]⟩, .string ⟨#[]⟩]), 4, 56) := by kernel_rfl
theorem made_en (n : Nat) : encEn.all (List.replicate n en0) = (madeCells (Value.agg #[.int .i64 0, .string ⟨#[]⟩, .string ⟨#[]⟩, .string ⟨#[]⟩]).cells (n * 4)).toList := by
  have hc : (Value.agg #[.int .i64 0, .string ⟨#[]⟩, .string ⟨#[]⟩, .string ⟨#[]⟩]).cells = #[.int .i64 0, .string ⟨#[]⟩, .string ⟨#[]⟩, .string ⟨#[]⟩] := rfl
  rw [hc]
  refine List.ext_getElem? (fun j => ?_)
  by_cases hj : j < n * 4
  · have h1 := encEn.all_at (List.replicate n en0) (j / 4) (by rw [List.length_replicate]; omega) (j % 4) (by show j % 4 < 4; omega)
    have e4 : encEn.size = 4 := rfl
    rw [e4, show j / 4 * 4 + j % 4 = j by omega] at h1
    rw [h1, List.getElem_replicate]
    have h2 : encEn.cells en0 = [.int .i64 0, .string ⟨#[]⟩, .string ⟨#[]⟩, .string ⟨#[]⟩] := rfl
    rw [h2]
    have hlt : j % 4 < 4 := by omega
    simp [madeCells, hj]
    rcases (show j % 4 = 0 ∨ j % 4 = 1 ∨ j % 4 = 2 ∨ j % 4 = 3 by omega) with e | e | e | e <;> rw [e] <;> rfl
  · rw [List.getElem?_eq_none (by rw [encEn.all_length]; simp; show n * 4 ≤ j; omega), List.getElem?_eq_none (by simp [madeCells]; omega)]
open Go.Sort in
theorem holdsK_own {w : World} {base gb n c : Nat} {L : List En} (h : OwnL encEn 39 w base (.slice (some ⟨gb, 0, none⟩) n c) L) : HoldsK enC 4 w gb 0 L.toArray := by
  intro t ht
  have hn : n = L.length := (h.sl.lies).1
  subst hn
  have ht4 : t < L.length * 4 := by
    have : (flatK enC 4 L.toArray).size = L.toArray.size * 4 := size_flatK _ _ _
    rw [this] at ht
    simpa using ht
  refine ⟨?_, ?_⟩
  · rw [get_flatK _ _ _ _ (by simpa using ht4)]
    have hi : t / 4 < L.length := by omega
    obtain ⟨-, -, -, h3⟩ := h.sl.lies
    obtain ⟨ib', io', e, hc⟩ := h3 (by omega)
    injection e with e; injection e with e1 e2 _
    subst e1; subst e2
    have he : (L.toArray)[t / 4]! = L[t / 4] := by simp [hi]
    rw [he]
    have hk : t % 4 < 4 := by omega
    have := hc.elem (t / 4) hi (t % 4) hk ((enC L[t / 4])[t % 4]!) (by
      show (enC L[t / 4])[t % 4]? = _
      have : t % 4 < (enC L[t / 4]).length := hk
      rw [List.getElem?_eq_getElem this]
      congr 1
      exact (getElem!_pos (enC L[t / 4]) (t % 4) this).symm)
    have e4 : encEn.size = 4 := rfl
    rw [e4, show 0 + t / 4 * 4 + t % 4 = 0 + t by omega] at this
    exact this
  · exact World.ownsRow.frozenAt h _
theorem lenC (n : Nat) (W : World) (h : n ≤ 12) : Calls Try.prog 68 #[.int .u64 n] W fun e w' => (∃ l : Int, e = .returned (.int .i64 l)) ∧ w' = W :=
  (Try.bits_Len n W (by omega) (by omega)).mono fun _ _ ⟨he, hw⟩ => ⟨⟨_, he⟩, hw⟩
open Go.Sort in
theorem sorted_grown {w w3 : World} {gb sn : Nat} {d' : Array En} {sos : Array Obj} (h : w3 = sortWorldK enC 4 w gb 0 sn d' sos) : w.grownBy w3 (some gb) := by
  subst h
  refine ⟨rfl, rfl, rfl, by simp [sortWorldK, putRowK], fun k hk hne => ?_⟩
  unfold sortWorldK putRowK
  rw [heap_grow_old _ _ (by simpa using hk)]
  have : gb ≠ k := fun e => hne (by rw [e])
  simp [putRow, mapBlock, Sort.ahead, Array.getElem?_modify, this]
theorem at_row {w w3 : World} {b i gb : Nat} {v : Value} (hne : b ≠ gb) (hg : w.grownBy w3 (some gb)) (h : w.cell? ⟨b, i, none⟩ = some v) : w3.cell? ⟨b, i, none⟩ = some v := by
  rw [World.cell?_of_block (w := w) (hg.block b (World.block_lt_of_cell? w _ h) (by simpa using hne))]
  exact h
open Go.Sort in
theorem holdsK_sorted {w w3 : World} {gb sn : Nat} {d0 d' : Array En} {sos : Array Obj} (h : HoldsK enC 4 w gb 0 d0) (hs : d'.size = d0.size) (hb : gb < w.heap.size) (hw : w3 = sortWorldK enC 4 w gb 0 sn d' sos) : HoldsK enC 4 w3 gb 0 d' := by
  subst hw
  exact holdsK_grow _ _ _ _ _ _ _ (by simpa [putRowK, Sort.ahead] using hb) (holdsK_putRowK _ _ _ _ _ d0 d' (holdsK_ahead _ _ w sn gb 0 d0 h) hs)
open Go.Sort in
theorem cellsAt_holdsK {w : World} {gb : Nat} {d : Array En} (h : HoldsK enC 4 w gb 0 d) : CellsAt w gb 0 (encEn.all d.toList) := by
  intro j v hv
  have e4 : encEn.size = 4 := rfl
  have hj : j < d.toList.length * 4 := by
    by_cases q : j < d.toList.length * 4
    · exact q
    · rw [List.getElem?_eq_none (by rw [encEn.all_length, e4]; omega)] at hv; cases hv
  have hi : j / 4 < d.toList.length := by omega
  have hk : j % 4 < 4 := by omega
  have h1 := encEn.all_at d.toList (j / 4) hi (j % 4) hk
  rw [e4, show j / 4 * 4 + j % 4 = j by omega, hv] at h1
  have hi' : j / 4 < d.size := by simpa using hi
  have h2 := (h.cell hi' hk).1
  rw [show 0 + j / 4 * 4 + j % 4 = 0 + j by omega] at h2
  rw [h2]
  congr 1
  have e5 : d[j / 4]! = d.toList[j / 4] := by rw [getElem!_pos d _ hi']; simp
  rw [e5]
  have h3 : (enC d.toList[j / 4])[j % 4]? = some v := h1.symm
  have h4 : j % 4 < (enC d.toList[j / 4]).length := hk
  rw [List.getElem?_eq_getElem h4] at h3
  rw [getElem!_pos (enC d.toList[j / 4]) (j % 4) h4]
  exact Option.some.inj h3
theorem load_ids (W : World) (b : Nat) (x : Int) (v : Value) (h : W.heap[b]? = some (.cells #[.int .i64 x, v] 29 (0, 0))) (hv : v.oneCell' = true := by rfl) : (loadVar 29 ⟨b, 0, none⟩).run Try.prog W = .ok (.agg #[.int .i64 x, v]) W := by
  have c0 : W.cell? ⟨b, 0, none⟩ = some (.int .i64 x) := by rw [Lib.cell_of_heap h]; rfl
  have c1 : W.cell? ⟨b, 1, none⟩ = some v := by rw [Lib.cell_of_heap h]; rfl
  go_simp
open Go.Sort in
/-- what the sort leaves -/
structure SortPost (w W0 wr w3 : World) (tb gb : Nat) (nx : Int) (Z : List En) (k : Nat) : Prop where
  grown : wr.grownBy w3 (some gb)
  t0 : w3.cell? ⟨tb, 0, none⟩ = some (.int .i64 nx)
  t1 : w3.cell? ⟨tb, 1, none⟩ = some (.slice (some ⟨gb, 0, none⟩) k k)
  r0 : w3.cell? ⟨w.heap.size, 0, none⟩ = some (.int .i64 0)
  r1 : w3.cell? ⟨w.heap.size, 1, none⟩ = some (.slice none 0 0)
  rf : ∀ i, w3.frozen? ⟨w.heap.size, i, none⟩ = false
  rest : w3.heap[w.heap.size]? = some (.cells #[.int .i64 0, .slice none 0 0] 29 (0, 0)) ∧ ∃ d' sn sos, PermIn 0 k Z.toArray d' ∧ SortedIn (ltOf fun x y : En => Lib.compareInt x.1 y.1) 0 k d' ∧ w3 = sortWorldK enC 4 wr gb 0 sn d' sos
open Go.Sort in
theorem sorted_post {f : FuncId} {args : Array Value} {w W0 wr : World} {tb gb k : Nat} {nx : Int} {Z : List En}
    (h : Calls Try.prog f args wr fun e w' => e = .returned (.tuple #[]) ∧ ∃ d' n os, PermIn 0 k Z.toArray d' ∧ SortedIn (ltOf fun x y : En => Lib.compareInt x.1 y.1) 0 k d' ∧ w' = sortWorldK enC 4 wr gb 0 n d' os)
    (hne : tb ≠ gb) (hol : Below W0.heap.size W0 wr) (hrb : W0.heap[w.heap.size]? = some (.cells #[.int .i64 0, .slice none 0 0] 29 (0, 0))) (hrs : w.heap.size < W0.heap.size) (hgb : W0.heap.size ≤ gb)
    (hbx : wr.heap[tb]? = some (.cells #[.int .i64 nx, .slice (some ⟨gb, 0, none⟩) k k] 29 (0, 0))) :
    Calls Try.prog f args wr fun e w' => e = .returned (.tuple #[]) ∧ SortPost w W0 wr w' tb gb nx Z k := by
  refine h.mono ?_
  rintro e w3 ⟨rfl, d', sn, sos, hp, hs, hw⟩
  have hg := sorted_grown hw
  have c0 : wr.cell? ⟨tb, 0, none⟩ = some (.int .i64 nx) := by rw [Lib.cell_of_heap hbx]; rfl
  have c1 : wr.cell? ⟨tb, 1, none⟩ = some (.slice (some ⟨gb, 0, none⟩) k k) := by rw [Lib.cell_of_heap hbx]; rfl
  have hr1 := (hol.block w.heap.size hrs).trans hrb
  have hr3 : w3.heap[w.heap.size]? = some (.cells #[.int .i64 0, .slice none 0 0] 29 (0, 0)) := (hg.block w.heap.size (Nat.lt_of_lt_of_le hrs hol.size) (by simp; omega)).trans hr1
  exact ⟨rfl, hg, at_row hne hg c0, at_row hne hg c1, by rw [Lib.cell_of_heap hr3]; rfl, by rw [Lib.cell_of_heap hr3]; rfl, fun i => Lib.frozen_of_heap hr3 i, hr3, d', sn, sos, hp, hs, hw⟩
theorem zip_at (ids : List Int) (l : List It) (hl : ids.length = l.length) (j : Nat) (h : j < l.length) : (ids.zip l).getD j en0 = (ids.getD j 0, l.getD j it0) := by
  have h2 : j < ids.length := by omega
  have h3 : j < (ids.zip l).length := by simp; omega
  simp [List.getD, List.getElem?_eq_getElem h, List.getElem?_eq_getElem h2, List.getElem?_eq_getElem h3]

set_option maxHeartbeats 4000000 in
set_option maxRecDepth 1000000 in
theorem numbered_any (p : Option Addr) (n cap : Nat) (l : List It) (p2 : Option Addr) (n2 cap2 : Nat) (ids : List Int) (next : Int) (w : World) (hs : SlIs encIt w (.slice p n cap) l) (hs2 : SlIs encI w (.slice p2 n2 cap2) ids)
    (hl : ids.length = l.length) (hfew : l.length ≤ 12) (h1 : 1 ≤ next) (h2 : next ≤ 1099511627776) (hz : (number next (ids.zip l)).Pairwise fun a b => a.1 ≠ b.1) :
    Calls Try.prog 40 #[.slice p n cap, .slice p2 n2 cap2, .int .i64 next] w fun e w' => ∃ q m c, e = .returned (.agg #[.int .i64 (next + (zeros (ids.zip l) : Nat)), .slice q m c]) ∧ SlIs encEn w' (.slice q m c) (byId (number next (ids.zip l))) ∧ Below w.heap.size w w' := by
  obtain ⟨hn, hc1, hc2, hlies⟩ := hs.lies
  obtain ⟨hn2, hd1, hd2, hlies2⟩ := hs2.lies
  generalize hZ : ids.zip l = Z at *
  have hzl : Z.length = l.length := by rw [← hZ]; simp [hl]
  rw [← hzl] at hn hfew
  subst hn
  have hn2' : n2 = Z.length := by rw [hn2, hl, hzl]
  subst hn2'
  have HZD : Hid (∀ j, j < Z.length → Z.getD j en0 = (ids.getD j 0, l.getD j it0)) := fun j hj => by rw [← hZ]; exact zip_at ids l hl j (by omega)
  have HL := Lib.hid hzl
  have HL2 : Hid (ids.length = Z.length) := by rw [hzl]; exact hl
  have HLS := Lib.hid hlies
  have HLS2 := Lib.hid hlies2
  have HZ := Lib.hid hz
  have hzb := zeros_le Z
  have HZB := Lib.hid hzb
  clear hs hs2 hn2 hl hlies hlies2 hz hZ hzl hzb
  obtain ⟨i0, hi0, hz0, hz1, hz2⟩ := info_parts info_en
  go_enter Try.func40, Try.ntmps40
  go_wp2_with (first
    | (at_make; refine wpList_make_full _ rfl _ _ 27 rfl (w.heap.size + 1) 39 i0 _ 4 Try.underlying27 hi0 hz0 hz1 .i64 .i64 _ _ Z.length rfl rfl rfl rfl (by rw [hz2]; omega) (by unfold maxLen; omega) (by simp) ?_; intro w2 hown2 hgr2)
    | go_in)
  have hW0 : (w.alloc (.cells #[.int .i64 0, .slice none 0 0] 29)).heap.size = w.heap.size + 1 := by simp
  have HK0 : Hid (LoopN (w.alloc (.cells #[.int .i64 0, .slice none 0 0] 29)) (w2.alloc (.cells #[.int .i64 next, .slice (some ⟨w.heap.size + 1, 0, none⟩) Z.length Z.length] 29)) w2.heap.size (w.heap.size + 1) next Z 0) := by
    have hb2 : Below (w.heap.size + 1) (w.alloc (.cells #[.int .i64 0, .slice none 0 0] 29)) w2 := (Below.refl _ _).grown hgr2 (by rw [hW0]; omega) (fun k hk => by cases hk)
    have hg : w.heap.size + 1 < w2.heap.size := by
      have := (World.ownsRow.lt hown2 _ rfl).2
      simpa using this
    have ho : OwnL encEn 39 w2 (w.heap.size + 1) (.slice (some ⟨w.heap.size + 1, 0, none⟩) Z.length Z.length) (numJ next Z 0) := by
      unfold OwnL
      rw [numJ_len next Z 0 (by omega)]
      have e1 : numJ next Z 0 = List.replicate Z.length en0 := by unfold numJ; simp [number]
      rw [e1, made_en]
      have h := hown2
      simp only [World.size_alloc] at h
      exact h
    refine ⟨by rw [hW0]; exact hb2.trans ((below_box w2 _).mono (by omega)), by rw [hW0]; exact ho.below (below_box w2 _), ?_, by rw [hW0]; omega, by rw [hW0]; omega, by omega⟩
    have e2 : nxJ next Z 0 = next := by unfold nxJ; simp [zeros]
    rw [e2]
    exact heap_alloc_new w2 _
  have HW2 : Hid (Below w.heap.size w (w.alloc (.cells #[.int .i64 0, .slice none 0 0] 29))) := below_box w _
  have HRB : Hid ((w.alloc (.cells #[.int .i64 0, .slice none 0 0] 29)).heap[w.heap.size]? = some (.cells #[.int .i64 0, .slice none 0 0] 29 (0, 0))) := heap_alloc_new w _
  have HRS : Hid (w.heap.size < (w.alloc (.cells #[.int .i64 0, .slice none 0 0] 29)).heap.size) := by rw [Hid, hW0]; omega
  have HLA : Hid (∀ wr, Below (w.alloc (.cells #[.int .i64 0, .slice none 0 0] 29)).heap.size (w.alloc (.cells #[.int .i64 0, .slice none 0 0] 29)) wr → Below w.heap.size w wr) := fun wr h => bnext (below_box w _) h
  clear hown2 hgr2
  go_loopw [18] (fun i wr => ∃ j : Nat, j ≤ Z.length ∧ i = .int .i64 j ∧ Hid (LoopN (w.alloc (.cells #[.int .i64 0, .slice none 0 0] 29)) wr w2.heap.size (w.heap.size + 1) next Z j)) (fun i _ => Z.length - (intOf i).toNat)
  case atStart => exact ⟨0, Nat.zero_le _, rfl, HK0⟩
  case round =>
    obtain ⟨j, hj, rfl, HR⟩ := hrel
    clear HK0
    have HGL : Hid (w.heap.size < w.heap.size + 1) := Nat.lt_succ_self _
    generalize w.heap.size + 1 = gb at *
    generalize w2.heap.size = tb at *
    generalize hW : w.alloc (.cells #[.int .i64 0, .slice none 0 0] 29) = W0 at *
    clear hW
    by_cases hlt : j < Z.length
    · obtain ⟨o, off, rfl, hc0⟩ := HLS.out (by omega)
      have hjl : j < l.length := by rw [← HL.out]; exact hlt
      have hje : j < ids.length := by rw [HL2.out]; exact hlt
      obtain ⟨ib, io, rfl, hic⟩ := HLS2.out (by omega)
      obtain ⟨q0, q1, q2⟩ := itAt (hc0.below (HLA.out wr HR.out.old)) j hjl
      have d0 := intAt (hic.below (HLA.out wr HR.out.old)) j hje
      have HZJ := Lib.hid (HZD.out j hlt)
      have hnx := nxJ_step next Z j hlt
      have hlaid : ∀ (wx : World), Below W0.heap.size W0 wx → OwnL encEn 39 wx W0.heap.size (.slice (some ⟨gb, 0, none⟩) Z.length Z.length) (numJ next Z j) → wx.heap[tb]? = some (.cells #[.int .i64 (nxJ next Z (j + 1)), .slice (some ⟨gb, 0, none⟩) Z.length Z.length] 29 (0, 0)) → LoopN W0 ((((wx.setCell ⟨gb, j * 4, none⟩ (.int .i64 (nth0 next Z j))).setCell ⟨gb, j * 4 + 1, none⟩ (.string (Z.getD j en0).2.1)).setCell ⟨gb, j * 4 + 2, none⟩ (.string (Z.getD j en0).2.2.1)).setCell ⟨gb, j * 4 + 3, none⟩ (.string (Z.getD j en0).2.2.2)) tb gb next Z (j + 1) :=
        fun wx h1 h2 h3 => LoopN.laid hlt h1 h2 h3 HR.out.htb HR.out.hgb HR.out.ne
      have hn0 : nth0 next Z j = if (Z.getD j en0).1 = 0 then nxJ next Z j else (Z.getD j en0).1 := rfl
      rw [HZJ.out] at hnx hlaid hn0
      have HC0 := Lib.hid hc0
      have HIC := Lib.hid hic
      clear hc0 hic HZJ
      generalize l.getD j it0 = x at *
      generalize ids.getD j 0 = dz at *
      obtain ⟨m, nm, s⟩ := x
      simp only at hnx hlaid hn0
      have HNX := Lib.hid hnx
      have HLD := Lib.hid hlaid
      have HN0 := Lib.hid hn0
      clear hnx hlaid hn0
      have HRX := Lib.hid (HR.out.below (below_box wr (.cells #[.string m, .string nm, .string s] 37)))
      have hx := en3 (cellsAt_alloc wr [.string m, .string nm, .string s] 37)
      obtain ⟨x0, x1, x2⟩ := hx
      have d1 : ∀ o, (wr.alloc o).cell? ⟨ib, io + j, none⟩ = some (.int .i64 dz) := fun o => by rw [(below_box wr o).cell (World.block_lt_of_cell? wr _ d0)]; exact d0
      obtain ⟨T0, T1, TF⟩ := HR.out.cells
      obtain ⟨⟨v0, v1, v2, v3, S0, S1, S2, S3⟩, SF⟩ := HR.out.slots hlt
      have htb : tb < wr.heap.size := (Array.getElem?_eq_some_iff.1 HR.out.box).1
      have hgbl : gb < wr.heap.size := by have := (World.ownsRow.lt HR.out.own gb rfl).2; exact this
      have lift : ∀ {W : World} {a : Addr} {v : Value}, W.cell? a = some v → ∀ o, (W.alloc o).cell? a = some v := fun {W a v} h o => by rw [(below_box W o).cell (World.block_lt_of_cell? W _ h)]; exact h
      have HNE : Hid (tb ≠ gb) := HR.out.ne
      have HBX := Lib.hid (HR.out.bump (nxJ next Z j + 1))
      clear d1
      have d1 := lift d0
      have t0 := lift T0
      by_cases hz : dz = 0
      · have hz' : (dz == 0) = true := by simpa using hz
        have HNE' := HNE.out
        have b1 : (⟨tb, 1, none⟩ : Addr) ≠ ⟨tb, 0, none⟩ := fun q => by injection q with _ q _; omega
        have g0 : ∀ i, (⟨gb, i, none⟩ : Addr) ≠ ⟨tb, 0, none⟩ := fun i q => by injection q with q _ _; omega
        have t1' := fun v => lift ((cell_apart b1 v).trans T1)
        have s0' := fun v => lift ((cell_apart (g0 (j * 4)) v).trans S0)
        have s1' := fun v => lift ((cell_apart (g0 (j * 4 + 1)) v).trans S1)
        have s2' := fun v => lift ((cell_apart (g0 (j * 4 + 2)) v).trans S2)
        have s3' := fun v => lift ((cell_apart (g0 (j * 4 + 3)) v).trans S3)
        have tf0 : ∀ o, (wr.alloc o).frozen? ⟨tb, 0, none⟩ = false := fun o => by rw [(below_box wr o).frozen (p := ⟨tb, 0, none⟩) htb]; exact TF 0
        have sf0 : ∀ v o i, ((wr.setCell ⟨tb, 0, none⟩ v).alloc o).frozen? ⟨gb, i, none⟩ = false := fun v o i => by
          rw [(below_box (wr.setCell ⟨tb, 0, none⟩ v) o).frozen (p := ⟨gb, i, none⟩) (by simpa using hgbl), World.frozen?_setCell]; exact SF i
        clear b1 g0 HNE' lift
        have hw : IntKind.i64.wrap (nxJ next Z j + 1) = nxJ next Z j + 1 := IntWalk.i64_in _ (by
          have : zeros (Z.take j) ≤ 12 := Nat.le_trans (zeros_le _) (by rw [List.length_take]; omega)
          unfold nxJ
          omega)
        have HN : Hid (LoopN W0 ((((((wr.setCell ⟨tb, 0, none⟩ (.int .i64 (nxJ next Z j + 1))).setCell ⟨gb, j * 4, none⟩ (.int .i64 (nxJ next Z j))).setCell ⟨gb, j * 4 + 1, none⟩ (.string m)).setCell ⟨gb, j * 4 + 2, none⟩ (.string nm)).setCell ⟨gb, j * 4 + 3, none⟩ (.string s)).alloc (.cells #[.string m, .string nm, .string s] 37)) tb gb next Z (j + 1)) := by
          have e1 : nth0 next Z j = nxJ next Z j := by rw [HN0.out, if_pos hz]
          have e2 : nxJ next Z (j + 1) = nxJ next Z j + 1 := by rw [HNX.out, if_pos hz]
          have hg : wr.grownBy (wr.setCell ⟨tb, 0, none⟩ (.int .i64 (nxJ next Z j + 1))) (some tb) := ⟨rfl, rfl, rfl, by simp, fun k _ hk => heap_setCell_other wr ⟨tb, 0, none⟩ k _ (fun e => hk (by simp [e]))⟩
          have := HLD.out (wr.setCell ⟨tb, 0, none⟩ (.int .i64 (nxJ next Z j + 1))) (HR.out.old.trans ((Below.refl _ _).grown hg HR.out.old.size (fun k hk => by cases hk; exact HR.out.htb)))
            (ownE_same HR.out.own (fun k hk => by cases hk; exact hg.block gb hgbl (by simp; exact fun e => HNE.out e.symm))) (by rw [e2]; exact HBX.out)
          rw [e1] at this
          exact this.below (below_box _ _)
        clear HR HRX HLD HBX HNX HN0 HNE
        go_wp2_with fail
        go_roundw
        case rel => exact ⟨j + 1, by omega, by go_num, HN⟩
        case measure => simp [intOf]; omega
      · have hz' : (dz == 0) = false := by simpa using hz
        have t1' := lift T1
        have s0' := lift S0
        have s1' := lift S1
        have s2' := lift S2
        have s3' := lift S3
        have sf0 : ∀ o i, (wr.alloc o).frozen? ⟨gb, i, none⟩ = false := fun o i => by
          rw [(below_box wr o).frozen (p := ⟨gb, i, none⟩) hgbl]; exact SF i
        clear lift
        have HN : Hid (LoopN W0 (((((wr.setCell ⟨gb, j * 4, none⟩ (.int .i64 dz)).setCell ⟨gb, j * 4 + 1, none⟩ (.string m)).setCell ⟨gb, j * 4 + 2, none⟩ (.string nm)).setCell ⟨gb, j * 4 + 3, none⟩ (.string s)).alloc (.cells #[.string m, .string nm, .string s] 37)) tb gb next Z (j + 1)) := by
          have e1 : nth0 next Z j = dz := by rw [HN0.out, if_neg hz]
          have e2 : nxJ next Z (j + 1) = nxJ next Z j := by rw [HNX.out, if_neg hz]
          have := HLD.out wr HR.out.old HR.out.own (by rw [e2]; exact HR.out.box)
          rw [e1] at this
          exact this.below (below_box _ _)
        clear HR HRX HLD HBX HNX HN0 HNE
        go_wp2_with fail
        go_roundw
        case rel => exact ⟨j + 1, by omega, by go_num, HN⟩
        case measure => simp [intOf]; omega
    · have hje : j = Z.length := by omega
      subst hje
      obtain ⟨T0, T1, TF⟩ := HR.out.cells
      have hown := HR.out.own
      rw [numJ_end] at hown
      have hgbl : gb < wr.heap.size := (World.ownsRow.lt hown gb rfl).2
      have hlen : (number next Z).length = Z.length := number_len next Z
      have eg : ∀ args w, (callFunc 57 args).run Try.prog w = .ok (.enter 57 args) w := enters_of Try.func57 (by kernel_rfl) rfl
      have hcon := AnyQ.slices_SortFunc_small_sorted Try.sortId 4 Try.isAgg39 Try.sizeOf39 enC (fun _ => rfl) (fun x v hv => encEn.one x v hv) (fun x y => Lib.compareInt x.1 y.1) 57 #[] swo_id gb 0 Z.length (number next Z).toArray wr eg (fun _ _ _ _ x y => closure_any x y _) (holdsK_own hown) hgbl (by simp; omega) lenC
      have hsz : (number next Z).toArray.size = Z.length := by simp [hlen]
      rw [hsz] at hcon
      change Calls Try.prog 56 #[.slice (some ⟨gb, 0, none⟩) Z.length Z.length, .func (.func 57) #[] #[]] wr _ at hcon
      have HCON := Lib.hid hcon
      have HHK := Lib.hid (holdsK_own hown)
      have HGBL : Hid (gb < wr.heap.size) := hgbl
      clear hcon hown eg hsz hlen hlt hj
      have HNE : Hid (tb ≠ gb) := HR.out.ne
      have HBX := Lib.hid HR.out.box
      have HOL := Lib.hid HR.out.old
      have HGB : Hid (W0.heap.size ≤ gb) := HR.out.hgb
      have HNX := Lib.hid (nxJ_end next Z)
      clear HR
      go_wp2_with (first
        | (go_at_call 56; refine (sorted_post HCON.out HNE.out HOL.out HRB.out HRS.out HGB.out HBX.out).mono ?_; rintro e w3 ⟨rfl, hpost⟩; have HPO := Lib.hid hpost; obtain ⟨-, T0', T1', R0, R1, RF, -⟩ := hpost)
        | go_in)
      have HWW : Hid ((w3.setCell ⟨w.heap.size, 0, none⟩ (.int .i64 (nxJ next Z Z.length))).setCell ⟨w.heap.size, 1, none⟩ (.slice (some ⟨gb, 0, none⟩) Z.length Z.length) = (w3.setCell ⟨w.heap.size, 0, none⟩ (.int .i64 (nxJ next Z Z.length))).setCell ⟨w.heap.size, 1, none⟩ (.slice (some ⟨gb, 0, none⟩) Z.length Z.length)) := rfl
      clear T0' T1' R0 R1 RF HWW
      refine bodyPost_ret (results_cellE rfl _ _ _ ⟨w.heap.size, 0, none⟩ _ rfl (load_ids _ _ (nxJ next Z Z.length) (.slice (some ⟨gb, 0, none⟩) Z.length Z.length) (heap_setCell_same _ _ _ _ _ _ (heap_setCell_same _ _ _ _ _ _ HPO.out.rest.1)))) rfl ?_
      obtain ⟨hr3, d', sn, sos, hp, hs3, hw3⟩ := HPO.out.rest
      have hgb2 := HGB.out
      have hrs2 := HRS.out
      have hne : gb ≠ w.heap.size := by omega
      refine ⟨_, _, _, by rw [HNX.out], ?_, ?_⟩
      · have hd : d'.toList = byId (number next Z) := sorted_byId HZ.out (by rw [show (number next Z).toArray.size = Z.length by simp [number_len]]; exact hp) (by rw [show (number next Z).toArray.size = Z.length by simp [number_len]]; exact hs3)
        have hsz : d'.size = Z.length := by have := hp.1; simpa [number_len] using this
        have hk := holdsK_sorted HHK.out (by simp [hsz, number_len]) HGBL.out hw3
        have hc := cellsAt_holdsK hk
        rw [hd] at hc
        have hlen : (byId (number next Z)).length = Z.length := by rw [byId_len, number_len]
        refine ⟨some ⟨gb, 0, none⟩, Z.length, by rw [hlen], by rw [hlen]; exact Nat.le_refl _, by unfold maxLen; omega, fun _ => ⟨gb, 0, rfl, fun j v hv => ?_⟩⟩
        have h0 := hc j v hv
        have n1 : (⟨gb, 0 + j, none⟩ : Addr) ≠ ⟨w.heap.size, 1, none⟩ := fun q => by injection q with q _ _; exact hne q
        have n0 : (⟨gb, 0 + j, none⟩ : Addr) ≠ ⟨w.heap.size, 0, none⟩ := fun q => by injection q with q _ _; exact hne q
        rw [cell_apart n1, cell_apart n0]
        exact h0
      · have g1 : ∀ (u : World) (i : Nat) (v : Value), u.grownBy (u.setCell ⟨w.heap.size, i, none⟩ v) (some w.heap.size) := fun u i v => ⟨rfl, rfl, rfl, by simp, fun k _ hk => heap_setCell_other u ⟨w.heap.size, i, none⟩ k _ (fun e => hk (by simp [e]))⟩
        have b0 := HLA.out wr HOL.out
        have b1 : Below w.heap.size w w3 := b0.trans ((Below.refl _ _).grown HPO.out.grown b0.size (fun k hk => by cases hk; omega))
        have b2 := b1.trans ((Below.refl _ _).grown (g1 w3 0 (.int .i64 (nxJ next Z Z.length))) b1.size (fun k hk => by cases hk; exact Nat.le_refl _))
        exact b2.trans ((Below.refl _ _).grown (g1 _ 1 _) b2.size (fun k hk => by cases hk; exact Nat.le_refl _))
end Go.Proofs.Ytcplhnpblpmalaa.Idn
