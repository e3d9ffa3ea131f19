/-
  CONTRACT: fact.Signature: the string of a signature.
-/
import Derived.Test.YthikdkeanndidaaDoorZz
import Derived.Test.YthikdkeanndidaaDoorCl
import Derived.Test.YthikdkeanndidaaDoorZt
import Derived.BigQuiet
namespace Go.Proofs.YthikdkeanndidaaDoor
open Go Go.RowKit
set_option linter.unusedVariables false
set_option linter.unusedSimpArgs false
set_option maxRecDepth 100000

/-- the string of a signature -/
def sgS (x : Sg) : ByteArray := packS [itS x.kind, packS (x.params.map pmS), packS x.names, packS (x.args.map prS), prS x.result, x.trait]
/-- types in a row, with what they are -/
theorem IsPs.rt {A : Nat → Prop} {w : World} {p : Option Addr} {n c : Nat} {l : List Tp} (h : IsPs A w (.slice p n c) l) : ∃ L : List Rt, L.map (·.2) = l ∧ SlA encRt A w (.slice p L.length c) L ∧ ∀ x ∈ L, IsP A w x.1 x.2 := by
  obtain ⟨p', n', c', R, e, hsl, hp, hA, hlen, hat⟩ := h
  injection e with e1 e2 e3
  subst e1; subst e2; subst e3
  have hzl : (R.zip l).length = R.length := by rw [List.length_zip, hlen, Nat.min_self]
  have hm1 : (R.zip l).map (·.1) = R := List.map_fst_zip (by omega)
  have hm2 : (R.zip l).map (·.2) = l := List.map_snd_zip (by omega)
  have hall : encRt.all (R.zip l) = rwEnc.all R := by
    conv => rhs; rw [← hm1]
    unfold Enc.all
    rw [List.flatMap_map]
    rfl
  obtain ⟨e1, h2, h3, h4⟩ := hsl.lies
  refine ⟨R.zip l, hm2, ⟨p, c, rfl, by omega, h3, fun h0 => ?_⟩, fun x hx => ?_⟩
  · obtain ⟨b, o, e, hc⟩ := h4 (by omega)
    exact ⟨b, o, e, hA b o e (by omega), by rw [hall]; exact hc⟩
  · obtain ⟨i, hi, rfl⟩ := List.getElem_of_mem hx
    rw [List.getElem_zip]
    exact hat i _ _

set_option maxHeartbeats 8000000 in
/-- fact.Signature -/
theorem sgn_any (A : Nat → Prop) (x : Sg) (pp np ap : Option Addr) (pc nc ac : Nat) (q : Rw) (w : World) (h2 : SlA encPm A w (.slice pp x.params.length pc) x.params) (h3 : SlA encN A w (.slice np x.names.length nc) x.names) (h4 : IsPs A w (.slice ap x.args.length ac) x.args) (h5 : IsP A w q x.result) (hk : InI x.kind) (hz : (sgS x).size ≤ 1000000000) (hw : LaidW w) :
    Calls Tryd.prog 18 #[.agg #[.int .i64 x.kind, .slice pp x.params.length pc, .slice np x.names.length nc, .slice ap x.args.length ac, .string q.name, .slice q.p q.n q.cap, .string x.trait]] w fun e w' => e = .returned (.string (sgS x)) ∧ Below w.heap.size w w' := by
  obtain ⟨wx, hwx⟩ : ∃ y, w.alloc (.cells #[.int .i64 x.kind, .slice pp x.params.length pc, .slice np x.names.length nc, .slice ap x.args.length ac, .string q.name, .slice q.p q.n q.cap, .string x.trait] sgT) = y := ⟨_, rfl⟩
  have hb0 := below_box w (.cells #[.int .i64 x.kind, .slice pp x.params.length pc, .slice np x.names.length nc, .slice ap x.args.length ac, .string q.name, .slice q.p q.n q.cap, .string x.trait] sgT)
  have hc0 : CellsAt (w.alloc (.cells #[.int .i64 x.kind, .slice pp x.params.length pc, .slice np x.names.length nc, .slice ap x.args.length ac, .string q.name, .slice q.p q.n q.cap, .string x.trait] sgT)) w.heap.size 0 [.int .i64 x.kind, .slice pp x.params.length pc, .slice np x.names.length nc, .slice ap x.args.length ac, .string q.name, .slice q.p q.n q.cap, .string x.trait] := cellsAt_alloc w [.int .i64 x.kind, .slice pp x.params.length pc, .slice np x.names.length nc, .slice ap x.args.length ac, .string q.name, .slice q.p q.n q.cap, .string x.trait] _
  rw [hwx] at hb0 hc0
  have HX := Lib.hid hc0.drew1
  have HB0 := Lib.hid hb0
  have hdr : Below wx.heap.size wx wx.drew := (Below.refl _ wx).drew
  have HW := Lib.hid ((hw.below hb0).below hdr)
  have hall : ∀ y ∈ [itS x.kind, packS (x.params.map pmS), packS x.names, packS (x.args.map prS), prS x.result, x.trait], y.size ≤ 1000000000 := fun y hy => by
    have h1 := Fa.mem_size hy
    have h2 : (sgS x).size = _ := Fa.packS_size _
    omega
  have z2 := hall (packS (x.params.map pmS)) (by simp)
  have z3 := hall (packS x.names) (by simp)
  have z4 := hall (packS (x.args.map prS)) (by simp)
  have z5 := hall (prS x.result) (by simp)
  rw [Fa.packS_size] at z2 z3 z4
  have z5' : (prL x.result).length ≤ 1000000000 := by rw [← prS_data, Fa.len_data]; exact z5
  have HP2 := Lib.hid ((h2.keep (Kp.below hb0)).keep (Kp.below hdr))
  have HP3 := Lib.hid ((h3.keep (Kp.below hb0)).keep (Kp.below hdr))
  obtain ⟨L, hL2, hLs, hLi⟩ := ((h4.later hb0).later hdr).rt
  have hLl : L.length = x.args.length := by rw [← hL2, List.length_map]
  have HLS := Lib.hid hLs
  have HLI := Lib.hid hLi
  have HP5 := Lib.hid ((h5.later hb0).later hdr)
  have hmm : L.map (fun y => prS y.2) = x.args.map prS := by rw [← hL2, List.map_map]; rfl
  have cnt : ∀ (M : List ByteArray), (Fa.packL M).length ≤ 1000000000 → M.length ≤ 1000000000 := fun M hM => by have := Fa.packL_count M; omega
  have c2 := cnt _ z2
  have c3 := cnt _ z3
  have c4 := cnt _ z4
  rw [List.length_map] at c2 c4
  have HPM := Lib.hid (fun (w' : World) (hl : LeW wx.drew w') => list_pm A x.params pp x.params.length pc w' (HP2.out.keep (Kp.below hl)) 46 #[] pmS (fun _ _ => rfl) (fun r hr w1 hb => param_any r w1 (by have := Fa.mem_size (L := x.params.map pmS) (x := pmS r) (List.mem_map.2 ⟨r, hr, rfl⟩); omega) ((HW.out.below hl).below hb)) z2 c2 (HW.out.below hl))
  have hid3 : x.names.map (fun s => s) = x.names := List.map_id' _
  have HNM := Lib.hid (fun (w' : World) (hl : LeW wx.drew w') => list_str A x.names np x.names.length nc w' (HP3.out.keep (Kp.below hl)) 48 #[] (fun s => s) (fun _ _ => rfl) (fun r hr w1 hb => text_any r w1) (by rw [hid3]; exact z3) c3 (HW.out.below hl))
  rw [hid3] at HNM
  have HTY := Lib.hid (fun (w' : World) (hl : LeW wx.drew w') => list_tp A L ap L.length ac w' (HLS.out.keep (Kp.below hl)) 50 #[] (fun y => prS y.2) (fun _ _ => rfl) (fun r hr w1 hb => print_any A r.1 r.2 w1 (((HLI.out r hr).later hl).later hb) (by
    have h1 := Fa.mem_size (L := x.args.map prS) (x := prS r.2) (List.mem_map.2 ⟨r.2, by rw [← hL2]; exact List.mem_map.2 ⟨r, hr, rfl⟩, rfl⟩)
    rw [← prS_data, Fa.len_data]
    omega)) (by rw [hmm]; exact z4) (by rw [hLl]; exact c4) (HW.out.below hl))
  rw [hmm, hLl] at HTY
  have HPR := Lib.hid (fun (w' : World) (hl : LeW wx.drew w') => print_any A q x.result w' (HP5.out.later hl) z5')
  have HI1 := Lib.hid (fun w hw => itoa_any x.kind hk.1 hk.2 w hw)
  obtain ⟨s1, hs1⟩ : ∃ s, s = itS x.kind := ⟨_, rfl⟩
  rw [← hs1] at HI1
  obtain ⟨s2, hs2⟩ : ∃ s, s = packS (x.params.map pmS) := ⟨_, rfl⟩
  rw [← hs2] at HPM
  obtain ⟨s3, hs3⟩ : ∃ s, s = packS x.names := ⟨_, rfl⟩
  rw [← hs3] at HNM
  obtain ⟨s4, hs4⟩ : ∃ s, s = packS (x.args.map prS) := ⟨_, rfl⟩
  rw [← hs4] at HTY
  obtain ⟨s5, hs5⟩ : ∃ s, s = prS x.result := ⟨_, rfl⟩
  rw [← hs5] at HPR
  obtain ⟨ps, hps⟩ : ∃ s, s = sgS x := ⟨_, rfl⟩
  have hpe : packS [s1, s2, s3, s4, s5, x.trait] = ps := by rw [hps, hs1, hs2, hs3, hs4, hs5]; rfl
  have HPK := Lib.hid (fun (w' : World) (b : Nat) (hsl : SlIs encN w' (.slice (some ⟨b, 0, none⟩) 6 6) [s1, s2, s3, s4, s5, x.trait]) (hww : LaidW w') => pack_any [s1, s2, s3, s4, s5, x.trait] (some ⟨b, 0, none⟩) 6 6 w' hsl (by rw [← Fa.packS_size, hpe, hps]; exact hz) hww)
  rw [hpe] at HPK
  rw [← hps]
  clear hdr hb0 hc0 h2 h3 h4 h5 hk hz hw hs1 hs2 hs3 hs4 hs5 hps hpe hall z2 z3 z4 z5 z5' hL2 hLs hLi hLl hmm cnt c2 c3 c4 hid3 HP2 HP3 HLS HLI HP5
  go_enter Tryd.func18, Tryd.ntmps18
  go_wp2_with fail
  apply wp_region_relT LeW.refl LeW.trans 19
  case hm => kernel_rfl
  case hB => kernel_rfl
  simp only [List.take_succ_cons, List.take_zero, List.drop_succ_cons, List.drop_zero]
  apply wpRel_cons (t := tyIs _ _)
  case h1 => (intro w' hl hd2; clear hl hd2; unfold relAt; go_simp; exact rel_is LeW.refl)
  intro _
  rw [tyIs_f]
  go_simp
  apply wpRel_cons (t := tyIs _ _)
  case h1 => (intro w' hl hd2; have x0 : w'.cell? ⟨w.heap.size, 0, none⟩ = some (.int .i64 x.kind) := HX.out.below hl 0 _ rfl; clear hl hd2; unfold relAt; go_simp; exact rel_is LeW.refl)
  intro _
  rw [tyIs_f]
  go_simp
  apply wpRel_cons (t := tyIs _ (.string s1))
  case h1 => (intro w' hl hd2; have hww := HW.out.below hl; clear hl hd2; unfold relAt; go_simp; refine ⟨LeW.refl _, ?_⟩; refine (HI1.out _ hww).mono ?_; rintro e w'' ⟨rfl, hb''⟩; exact ⟨(), rfl, hb'', trivial⟩)
  intro _
  rw [tyIs_f]
  go_simp
  apply wpRel_cons (t := tyIs _ _)
  case h1 => (intro w' hl hd2; clear hl hd2; unfold relAt; go_simp; exact rel_is LeW.refl)
  intro _
  rw [tyIs_f]
  go_simp
  apply wpRel_cons (t := tyIs _ _)
  case h1 => (intro w' hl hd2; have x0 : w'.cell? ⟨w.heap.size, 1, none⟩ = some (.slice pp x.params.length pc) := HX.out.below hl 1 _ rfl; clear hl hd2; unfold relAt; go_simp; exact rel_is LeW.refl)
  intro _
  rw [tyIs_f]
  go_simp
  apply wpRel_cons (t := tyIs _ (.string s2))
  case h1 => (intro w' hl hd2; have hnu := HPM.out _ hl; clear hl hd2; unfold relAt; go_simp; refine ⟨LeW.refl _, ?_⟩; refine (hnu).mono ?_; rintro e w'' ⟨rfl, hb''⟩; exact ⟨(), rfl, hb'', trivial⟩)
  intro _
  rw [tyIs_f]
  go_simp
  apply wpRel_cons (t := tyIs _ _)
  case h1 => (intro w' hl hd2; clear hl hd2; unfold relAt; go_simp; exact rel_is LeW.refl)
  intro _
  rw [tyIs_f]
  go_simp
  apply wpRel_cons (t := tyIs _ _)
  case h1 => (intro w' hl hd2; have x0 : w'.cell? ⟨w.heap.size, 2, none⟩ = some (.slice np x.names.length nc) := HX.out.below hl 2 _ rfl; clear hl hd2; unfold relAt; go_simp; exact rel_is LeW.refl)
  intro _
  rw [tyIs_f]
  go_simp
  apply wpRel_cons (t := tyIs _ (.string s3))
  case h1 => (intro w' hl hd2; have hnu := HNM.out _ hl; clear hl hd2; unfold relAt; go_simp; refine ⟨LeW.refl _, ?_⟩; refine (hnu).mono ?_; rintro e w'' ⟨rfl, hb''⟩; exact ⟨(), rfl, hb'', trivial⟩)
  intro _
  rw [tyIs_f]
  go_simp
  apply wpRel_cons (t := tyIs _ _)
  case h1 => (intro w' hl hd2; clear hl hd2; unfold relAt; go_simp; exact rel_is LeW.refl)
  intro _
  rw [tyIs_f]
  go_simp
  apply wpRel_cons (t := tyIs _ _)
  case h1 => (intro w' hl hd2; have x0 : w'.cell? ⟨w.heap.size, 3, none⟩ = some (.slice ap x.args.length ac) := HX.out.below hl 3 _ rfl; clear hl hd2; unfold relAt; go_simp; exact rel_is LeW.refl)
  intro _
  rw [tyIs_f]
  go_simp
  apply wpRel_cons (t := tyIs _ (.string s4))
  case h1 => (intro w' hl hd2; have hnu := HTY.out _ hl; clear hl hd2; unfold relAt; go_simp; refine ⟨LeW.refl _, ?_⟩; refine (hnu).mono ?_; rintro e w'' ⟨rfl, hb''⟩; exact ⟨(), rfl, hb'', trivial⟩)
  intro _
  rw [tyIs_f]
  go_simp
  apply wpRel_cons (t := tyIs _ _)
  case h1 => (intro w' hl hd2; clear hl hd2; unfold relAt; go_simp; exact rel_is LeW.refl)
  intro _
  rw [tyIs_f]
  go_simp
  apply wpRel_cons (t := tyIs _ _)
  case h1 => (intro w' hl hd2; have x0 : w'.cell? ⟨w.heap.size, 4, none⟩ = some (.string q.name) := HX.out.below hl 4 _ rfl; have x1 : w'.cell? ⟨w.heap.size, 5, none⟩ = some (.slice q.p q.n q.cap) := HX.out.below hl 5 _ rfl; clear hl hd2; unfold relAt; go_simp; exact rel_is LeW.refl)
  intro _
  rw [tyIs_f]
  go_simp
  apply wpRel_cons (t := tyIs _ (.string s5))
  case h1 => (intro w' hl hd2; have hnu := HPR.out _ hl; clear hl hd2; unfold relAt; go_simp; refine ⟨LeW.refl _, ?_⟩; refine (hnu).mono ?_; rintro e w'' ⟨rfl, hb''⟩; exact ⟨(), rfl, hb'', trivial⟩)
  intro _
  rw [tyIs_f]
  go_simp
  apply wpRel_cons (t := tyIs _ _)
  case h1 => (intro w' hl hd2; clear hl hd2; unfold relAt; go_simp; exact rel_is LeW.refl)
  intro _
  rw [tyIs_f]
  go_simp
  apply wpRel_cons (t := tyIs _ _)
  case h1 => (intro w' hl hd2; have x0 : w'.cell? ⟨w.heap.size, 6, none⟩ = some (.string x.trait) := HX.out.below hl 6 _ rfl; clear hl hd2; unfold relAt; go_simp; exact rel_is LeW.refl)
  intro _
  rw [tyIs_f]
  go_simp
  apply wpRel_cons (t := tySlN [.string s1, .string s2, .string s3, .string s4, .string s5, .string x.trait] 6)
  case h1 => (intro w' hl hd2; clear hl hd2; unfold relAt; go_simp; refine ⟨below_box _ _, ⟨_, trivial⟩, rfl, ?_⟩; rw [tySlN_p]; exact cellsAt_alloc _ [.string s1, .string s2, .string s3, .string s4, .string s5, .string x.trait] _)
  rintro ⟨sb, -⟩
  rw [tySlN_f]
  go_simp
  apply wpRel_cons (t := tyIs _ (.string ps))
  case h1 => (intro w' hl hd2; have hx := fact_lw hd2 (j := 17) (by kernel_rfl); simp [upd] at hx; have hx2 : CellsAt w' sb 0 [.string s1, .string s2, .string s3, .string s4, .string s5, .string x.trait] := hx; have hsl := sl_cells (L := [s1, s2, s3, s4, s5, x.trait]) (n := 6) rfl hx2 (by decide); have hww := HW.out.below hl; clear hl hd2 hx; unfold relAt; go_simp; refine ⟨LeW.refl _, ?_⟩; refine (HPK.out _ _ hsl hww).mono ?_; rintro e w'' ⟨rfl, hb''⟩; exact ⟨(), rfl, hb'', trivial⟩)
  intro _
  rw [tyIs_f]
  go_simp
  apply wpRel_nil (Ts := [])
  intro w4 hl hF
  have HB4 := Lib.hid (HB0.out.trans (((Below.refl wx.heap.size wx).drew.trans hl).mono HB0.out.size))
  clear hl hF hwx
  go_wp2_with fail
  go_ret
  exact ⟨rfl, HB4.out⟩
end Go.Proofs.YthikdkeanndidaaDoor

/-
  CONTRACTS: the reference's SameNumbers and SameParams of any two lists.
-/
namespace Go.Proofs.YthikdkeanndidaaDoor
open Go Go.RowKit
set_option linter.unusedVariables false
set_option linter.unusedSimpArgs false
set_option maxRecDepth 1000000

theorem take_ne {α : Type} {l m : List α} {j : Nat} (hl : j < l.length) (hm : j < m.length) (h : l[j] ≠ m[j]) : ¬ l = m := by
  rintro rfl; exact h rfl
theorem Pm.ext' {x y : Pm} (h1 : x.name = y.name) (h2 : x.bound = y.bound) : x = y := by
  cases x; cases y; cases h1; cases h2; rfl

set_option maxHeartbeats 4000000 in
theorem sameNums_any (A B : Nat → Prop) (l m : List Int) (p1 p2 : Option Addr) (c1 c2 : Nat) (w : World) (h1 : SlA encI A w (.slice p1 l.length c1) l) (h2 : SlA encI B w (.slice p2 m.length c2) m) :
    Calls Tryd.prog 42 #[.slice p1 l.length c1, .slice p2 m.length c2] w fun e w' => ∃ b : Bool, e = .returned (.bool b) ∧ (b = true ↔ l = m) ∧ Below w.heap.size w w' := by
  obtain ⟨-, hm1, g1⟩ := h1.at_
  obtain ⟨-, hm2, g2⟩ := h2.at_
  unfold maxLen at hm1 hm2
  have G1 := Lib.hid g1
  have G2 := Lib.hid g2
  clear h1 h2 g1 g2
  by_cases hlen : l.length = m.length
  case neg =>
    have hne : (((l.length : Nat) : Int) != ((m.length : Nat) : Int)) = true := by rw [bne_iff_ne]; omega
    go_enter Tryd.func42, Tryd.ntmps42
    go_wp2_with fail
    go_ret
    exact ⟨false, rfl, ⟨fun h => (by cases h), fun h => absurd (by rw [h]) hlen⟩, Below.refl _ _⟩
  have hne : (((l.length : Nat) : Int) != ((m.length : Nat) : Int)) = false := by rw [hlen]; simp
  have HLEN := Lib.hid hlen
  clear hlen
  go_enter Tryd.func42, Tryd.ntmps42
  go_wp2_with fail
  clear hne
  go_loopw [5] (fun i wr => ∃ j : Nat, j ≤ l.length ∧ i = .int .i64 j ∧ Hid (Below w.heap.size w wr) ∧ Hid (∀ x (a : x < l.length) (b : x < m.length), x < j → l[x] = m[x])) (fun i _ => l.length - (intOf i).toNat)
  case atStart => exact ⟨0, Nat.zero_le _, rfl, Below.refl _ _, fun x a b h => by omega⟩
  case round =>
    obtain ⟨j, hj, rfl, HB, HE⟩ := hrel
    obtain ⟨wx, rfl⟩ : ∃ x, x = wr := ⟨wr, rfl⟩
    by_cases hlt : j < l.length
    · have hlti : (j : Int) < (l.length : Int) := by omega
      have hltm : j < m.length := by have := HLEN.out; omega
      have hltmi : (j : Int) < (m.length : Int) := by omega
      obtain ⟨b1, o1, rfl, -, a1⟩ := G1.out j hlt
      obtain ⟨b2, o2, rfl, -, a2⟩ := G2.out j hltm
      obtain ⟨x, hx⟩ : ∃ x, x = l[j]'hlt := ⟨_, rfl⟩
      obtain ⟨y, hy⟩ : ∃ y, y = m[j]'hltm := ⟨_, rfl⟩
      rw [← hx] at a1
      rw [← hy] at a2
      have HXL := Lib.hid hx
      have HYL := Lib.hid hy
      clear hx hy
      have x1 : wx.cell? ⟨b1, o1 + j, none⟩ = some (.int .i64 x) := by
        have h0 : w.cell? ⟨b1, o1 + j, none⟩ = some (.int .i64 x) := by have := a1 0 _ (by decide) rfl; simpa [encI] using this
        rw [HB.out.cell (World.block_lt_of_cell? w _ h0)]; exact h0
      have x2 : wx.cell? ⟨b2, o2 + j, none⟩ = some (.int .i64 y) := by
        have h0 : w.cell? ⟨b2, o2 + j, none⟩ = some (.int .i64 y) := by have := a2 0 _ (by decide) rfl; simpa [encI] using this
        rw [HB.out.cell (World.block_lt_of_cell? w _ h0)]; exact h0
      have HBD := Lib.hid (fun n => bnext HB.out (drew_below (B := wx.heap.size) (w := wx) n))
      clear a1 a2 G1 G2
      by_cases hxy : x = y
      · subst hxy
        have hq : (x != x) = false := by simp
        go_wp2_with fail
        go_quiet (fail)
        go_wp2_with fail
        go_roundw
        case rel => exact ⟨j + 1, by omega, by go_num, HBD.out _, fun x a b h => by
          by_cases e : x < j
          · exact HE.out x a b e
          · obtain rfl : x = j := by omega
            exact HXL.out.symm.trans HYL.out⟩
        case measure => simp [intOf]; omega
      · have hq : (x != y) = true := by simpa using hxy
        go_wp2_with fail
        go_quiet (fail)
        go_wp2_with fail
        go_ret
        exact ⟨false, rfl, ⟨fun h => (by cases h), fun h => absurd h (take_ne hlt hltm (by rw [← HXL.out, ← HYL.out]; exact hxy))⟩, HBD.out _⟩
    · obtain rfl : j = l.length := by omega
      go_wp2_with fail
      go_ret
      exact ⟨true, rfl, ⟨fun _ => List.ext_getElem HLEN.out (fun x a b => HE.out x a b a), fun _ => rfl⟩, HB.out⟩

set_option maxHeartbeats 4000000 in
theorem samePms_any (A B : Nat → Prop) (l m : List Pm) (p1 p2 : Option Addr) (c1 c2 : Nat) (w : World) (h1 : SlA encPm A w (.slice p1 l.length c1) l) (h2 : SlA encPm B w (.slice p2 m.length c2) m) :
    Calls Tryd.prog 51 #[.slice p1 l.length c1, .slice p2 m.length c2] w fun e w' => ∃ b : Bool, e = .returned (.bool b) ∧ (b = true ↔ l = m) ∧ Below w.heap.size w w' := by
  obtain ⟨-, hm1, g1⟩ := h1.at_
  obtain ⟨-, hm2, g2⟩ := h2.at_
  unfold maxLen at hm1 hm2
  have G1 := Lib.hid g1
  have G2 := Lib.hid g2
  clear h1 h2 g1 g2
  by_cases hlen : l.length = m.length
  case neg =>
    have hne : (((l.length : Nat) : Int) != ((m.length : Nat) : Int)) = true := by rw [bne_iff_ne]; omega
    go_enter Tryd.func51, Tryd.ntmps51
    go_wp2_with fail
    go_ret
    exact ⟨false, rfl, ⟨fun h => (by cases h), fun h => absurd (by rw [h]) hlen⟩, Below.refl _ _⟩
  have hne : (((l.length : Nat) : Int) != ((m.length : Nat) : Int)) = false := by rw [hlen]; simp
  have HLEN := Lib.hid hlen
  clear hlen
  go_enter Tryd.func51, Tryd.ntmps51
  go_wp2_with fail
  clear hne
  go_loopw [5] (fun i wr => ∃ j : Nat, j ≤ l.length ∧ i = .int .i64 j ∧ Hid (Below w.heap.size w wr) ∧ Hid (∀ x (a : x < l.length) (b : x < m.length), x < j → l[x] = m[x])) (fun i _ => l.length - (intOf i).toNat)
  case atStart => exact ⟨0, Nat.zero_le _, rfl, Below.refl _ _, fun x a b h => by omega⟩
  case round =>
    obtain ⟨j, hj, rfl, HB, HE⟩ := hrel
    obtain ⟨wx, rfl⟩ : ∃ x, x = wr := ⟨wr, rfl⟩
    by_cases hlt : j < l.length
    · have hlti : (j : Int) < (l.length : Int) := by omega
      have hltm : j < m.length := by have := HLEN.out; omega
      have hltmi : (j : Int) < (m.length : Int) := by omega
      obtain ⟨b1, o1, rfl, -, a1⟩ := G1.out j hlt
      obtain ⟨b2, o2, rfl, -, a2⟩ := G2.out j hltm
      obtain ⟨x, hx⟩ : ∃ x, x = l[j]'hlt := ⟨_, rfl⟩
      obtain ⟨y, hy⟩ : ∃ y, y = m[j]'hltm := ⟨_, rfl⟩
      rw [← hx] at a1
      rw [← hy] at a2
      have HXL := Lib.hid hx
      have HYL := Lib.hid hy
      clear hx hy
      obtain ⟨s1, s2⟩ := x
      obtain ⟨t1, t2⟩ := y
      have x0 : wx.cell? ⟨b1, o1 + j * 2, none⟩ = some (.string s1) := by
        have h0 : w.cell? ⟨b1, o1 + j * 2, none⟩ = some (.string s1) := by have := a1 0 _ (by decide) rfl; simpa [encPm] using this
        rw [HB.out.cell (World.block_lt_of_cell? w _ h0)]; exact h0
      have x1 : wx.cell? ⟨b1, o1 + j * 2 + 1, none⟩ = some (.string s2) := by
        have h0 : w.cell? ⟨b1, o1 + j * 2 + 1, none⟩ = some (.string s2) := by have := a1 1 _ (by decide) rfl; simpa [encPm] using this
        rw [HB.out.cell (World.block_lt_of_cell? w _ h0)]; exact h0
      have y0 : wx.cell? ⟨b2, o2 + j * 2, none⟩ = some (.string t1) := by
        have h0 : w.cell? ⟨b2, o2 + j * 2, none⟩ = some (.string t1) := by have := a2 0 _ (by decide) rfl; simpa [encPm] using this
        rw [HB.out.cell (World.block_lt_of_cell? w _ h0)]; exact h0
      have y1 : wx.cell? ⟨b2, o2 + j * 2 + 1, none⟩ = some (.string t2) := by
        have h0 : w.cell? ⟨b2, o2 + j * 2 + 1, none⟩ = some (.string t2) := by have := a2 1 _ (by decide) rfl; simpa [encPm] using this
        rw [HB.out.cell (World.block_lt_of_cell? w _ h0)]; exact h0
      have HBD := Lib.hid (fun n => bnext HB.out (drew_below (B := wx.heap.size) (w := wx) n))
      clear a1 a2 G1 G2
      by_cases hs1 : s1 = t1
      · subst hs1
        have hq1 : (s1.toList == s1.toList) = true := by simp
        by_cases hs2 : s2 = t2
        · subst hs2
          have hq2 : (s2.toList == s2.toList) = true := by simp
          go_wp2_with fail
          go_quiet (fail)
          go_wp2_with fail
          go_roundw
          case rel => exact ⟨j + 1, by omega, by go_num, HBD.out _, fun x a b h => by
            by_cases e : x < j
            · exact HE.out x a b e
            · obtain rfl : x = j := by omega
              exact HXL.out.symm.trans HYL.out⟩
          case measure => simp [intOf]; omega
        · have hxy : ¬ (Pm.mk s1 s2 = Pm.mk s1 t2) := fun e => by injection e with e1 e2; exact hs2 e2
          have hq2 : (s2.toList == t2.toList) = false := by simpa [bne] using bytes_ne2 hs2
          go_wp2_with fail
          go_quiet (fail)
          go_wp2_with fail
          go_ret
          exact ⟨false, rfl, ⟨fun h => (by cases h), fun h => absurd h (take_ne hlt hltm (by rw [← HXL.out, ← HYL.out]; exact hxy))⟩, HBD.out _⟩
      · have hxy : ¬ (Pm.mk s1 s2 = Pm.mk t1 t2) := fun e => by injection e with e1 e2; exact hs1 e1
        have hq1 : (s1.toList == t1.toList) = false := by simpa [bne] using bytes_ne2 hs1
        go_wp2_with fail
        go_quiet (fail)
        go_wp2_with fail
        go_ret
        exact ⟨false, rfl, ⟨fun h => (by cases h), fun h => absurd h (take_ne hlt hltm (by rw [← HXL.out, ← HYL.out]; exact hxy))⟩, HBD.out _⟩
    · obtain rfl : j = l.length := by omega
      go_wp2_with fail
      go_ret
      exact ⟨true, rfl, ⟨fun _ => List.ext_getElem HLEN.out (fun x a b => HE.out x a b a), fun _ => rfl⟩, HB.out⟩
end Go.Proofs.YthikdkeanndidaaDoor

/-
  PLAIN: the string of a signature says which it is.
-/
namespace Go.Proofs.YthikdkeanndidaaDoor
open Go Go.RowKit
set_option linter.unusedVariables false
set_option linter.unusedSimpArgs false

/-- a byte that is no mark of a type's text -/
def Plb (c : UInt8) : Prop := c ≠ 60 ∧ c ≠ 44 ∧ c ≠ 62
/-- a type with no marks in its names -/
inductive NoM : Tp → Prop
  | mk (s : ByteArray) (l : List Tp) : (∀ c ∈ s.data.toList, Plb c) → (∀ t, t ∈ l → NoM t) → NoM (.mk s l)
/-- what may follow the text of a type -/
def StpE (r : List UInt8) : Prop := ∀ c, r.head? = some c → c = 44 ∨ c = 62
theorem span_eq {P : UInt8 → Prop} : ∀ {s u a b : List UInt8}, (∀ c ∈ s, P c) → (∀ c ∈ u, P c) → (∀ c, a.head? = some c → ¬ P c) → (∀ c, b.head? = some c → ¬ P c) → s ++ a = u ++ b → s = u ∧ a = b
  | [], [], _, _, _, _, _, _, h => ⟨rfl, h⟩
  | [], c :: u, a, b, _, h2, h3, _, h => by
    have e : a = c :: (u ++ b) := h
    exact absurd (h2 c (by simp)) (h3 c (by rw [e]; rfl))
  | c :: s, [], a, b, h1, _, _, h4, h => by
    have e : b = c :: (s ++ a) := h.symm
    exact absurd (h1 c (by simp)) (h4 c (by rw [e]; rfl))
  | c :: s, d :: u, a, b, h1, h2, h3, h4, h => by
    injection h with e1 e2
    obtain ⟨e3, e4⟩ := span_eq (fun c hc => h1 c (by simp [hc])) (fun c hc => h2 c (by simp [hc])) h3 h4 e2
    exact ⟨by rw [e1, e3], e4⟩
/-- the text of t, and what follows it, say which type it is -/
def TxI (t : Tp) : Prop := ∀ (u : Tp) (x y : List UInt8), NoM u → StpE x → StpE y → prL t ++ x = prL u ++ y → t = u ∧ x = y
theorem stp44 (r : List UInt8) : StpE (44 :: r) := fun c h => by injection h with h; exact .inl h.symm
theorem stp62 (r : List UInt8) : StpE (62 :: r) := fun c h => by injection h with h; exact .inr h.symm
theorem stpF (ts : List Tp) (x : List UInt8) : StpE ((ts.map prL).flatMap (fun y => 44 :: y) ++ 62 :: x) := by
  cases ts with
  | nil => exact stp62 _
  | cons t ts => exact stp44 _
theorem rest_inj : ∀ (ts us : List Tp), (∀ t ∈ ts, TxI t) → (∀ u ∈ us, NoM u) → ∀ x y, (ts.map prL).flatMap (fun y => 44 :: y) ++ 62 :: x = (us.map prL).flatMap (fun y => 44 :: y) ++ 62 :: y → ts = us ∧ x = y
  | [], [], _, _, x, y, h => by
    injection h with _ h
    exact ⟨rfl, h⟩
  | [], u :: us, _, _, x, y, h => by
    simp only [List.map_nil, List.flatMap_nil, List.nil_append, List.map_cons, List.flatMap_cons, List.cons_append] at h
    injection h with h _
    exact absurd h (by decide)
  | t :: ts, [], _, _, x, y, h => by
    simp only [List.map_nil, List.flatMap_nil, List.nil_append, List.map_cons, List.flatMap_cons, List.cons_append] at h
    injection h with h _
    exact absurd h (by decide)
  | t :: ts, u :: us, h1, h2, x, y, h => by
    simp only [List.map_cons, List.flatMap_cons, List.cons_append, List.append_assoc] at h
    injection h with _ h
    obtain ⟨e1, e2⟩ := h1 t (by simp) u _ _ (h2 u (by simp)) (stpF ts x) (stpF us y) h
    obtain ⟨e3, e4⟩ := rest_inj ts us (fun t ht => h1 t (by simp [ht])) (fun u hu => h2 u (by simp [hu])) x y e2
    exact ⟨by rw [e1, e3], e4⟩
theorem noPl60 : ¬ Plb 60 := fun h => h.1 rfl
theorem stp_no {x : List UInt8} (h : StpE x) : ∀ c, x.head? = some c → ¬ Plb c := fun c hc hp => by
  rcases h c hc with e | e
  · exact hp.2.1 e
  · exact hp.2.2 e
theorem txiN : ∀ (N : Nat) (t : Tp), SizeOf.sizeOf t < N → NoM t → TxI t
  | 0, t, hN, _ => absurd hN (by omega)
  | N + 1, .mk s l, hN, ht => by
    intro u x y hu hx hy h
    cases ht with
    | mk _ _ hs hl =>
    cases hu with
    | mk s' l' hs' hl' =>
    have ih : ∀ t ∈ l, TxI t := fun t ht => txiN N t (by
      have h3 := List.sizeOf_lt_of_mem ht
      simp only [Tp.mk.sizeOf_spec] at hN
      omega) (hl t ht)
    rw [prL_mk, prL_mk] at h
    simp only [List.append_assoc] at h
    cases l with
    | nil =>
      cases l' with
      | nil =>
        simp only [List.map_nil, argsL, List.nil_append, List.length_nil, if_pos] at h
        obtain ⟨e1, e2⟩ := span_eq hs hs' (stp_no hx) (stp_no hy) h
        exact ⟨by rw [show s = s' from ByteArray.ext (Array.toList_inj.1 e1)], e2⟩
      | cons u us =>
        simp only [List.map_nil, List.map_cons, argsL, List.nil_append, List.length_nil, if_pos, List.cons_append] at h
        obtain ⟨e1, e2⟩ := span_eq hs hs' (stp_no hx) (fun c hc hp => by injection hc with hc; subst hc; exact noPl60 hp) h
        have := hx 60 (by rw [e2]; rfl)
        rcases this with e | e <;> exact absurd e (by decide)
    | cons t ts =>
      cases l' with
      | nil =>
        simp only [List.map_nil, List.map_cons, argsL, List.nil_append, List.length_nil, if_pos, List.cons_append] at h
        obtain ⟨e1, e2⟩ := span_eq hs hs' (fun c hc hp => by injection hc with hc; subst hc; exact noPl60 hp) (stp_no hy) h
        have := hy 60 (by rw [← e2]; rfl)
        rcases this with e | e <;> exact absurd e (by decide)
      | cons u us =>
        simp only [List.map_cons, argsL, List.cons_append, List.length_cons, Nat.succ_ne_zero, if_false, List.append_assoc, List.nil_append, reduceIte] at h
        obtain ⟨e1, e2⟩ := span_eq hs hs' (fun c hc hp => by injection hc with hc; subst hc; exact noPl60 hp) (fun c hc hp => by injection hc with hc; subst hc; exact noPl60 hp) h
        injection e2 with _ e2
        obtain ⟨e3, e4⟩ := ih t (by simp) u _ _ (hl' u (by simp)) (stpF ts x) (stpF us y) e2
        obtain ⟨e5, e6⟩ := rest_inj ts us (fun t ht => ih t (by simp [ht])) (fun u hu => hl' u (by simp [hu])) x y e4
        exact ⟨by rw [show s = s' from ByteArray.ext (Array.toList_inj.1 e1), e3, e5], e6⟩
theorem prS_inj {t u : Tp} (ht : NoM t) (hu : NoM u) (h : prS t = prS u) : t = u := by
  have e : prL t = prL u := by rw [← prS_data, ← prS_data, h]
  exact (txiN _ t (Nat.lt_succ_self _) ht u [] [] hu (fun c h => by cases h) (fun c h => by cases h) (by rw [e])).1
theorem namesT_pl : ∀ s ∈ namesT, ∀ c ∈ s.data.toList, Plb c := by
  have : ∀ s ∈ namesT, ∀ c ∈ s.data.toList, c ≠ 60 ∧ c ≠ 44 ∧ c ≠ 62 := by decide
  exact this
theorem MadeT.noM {k : Nat} {t : Tp} (h : MadeT k t) : NoM t := by
  induction h with
  | mk k s l hs _ _ _ ih => exact .mk s l (namesT_pl s hs) ih
theorem TpOk.noM {t : Tp} (h : TpOk t) : NoM t := by
  rcases h with h | rfl
  · exact h.noM
  · exact .mk _ _ (fun c hc => by cases hc) (fun t ht => by cases ht)
/-! ### sizes -/
theorem namesT_sz : ∀ s ∈ namesT, s.size ≤ 6 := by decide
theorem prL_size {k : Nat} {t : Tp} (h : MadeT k t) : (prL t).length ≤ 10 * 4 ^ k := by
  induction h with
  | mk k s l hs hl hz hm ih =>
    have h7 : s.size ≤ 6 := namesT_sz s hs
    have h6 : s.data.toList.length ≤ 6 := h7
    rw [prL_mk]
    cases l with
    | nil =>
      have : 1 ≤ 4 ^ k := Nat.pow_pos (by decide)
      simp only [List.map_nil, argsL, List.nil_append, List.length_nil, if_pos, List.append_nil]
      omega
    | cons t ts =>
      have hk : k ≠ 0 := fun e => by have := hz e; cases this
      obtain ⟨k, rfl⟩ : ∃ m, k = m + 1 := ⟨k - 1, by omega⟩
      have h1 := ih t (by simp)
      have hp : 1 ≤ 4 ^ k := Nat.pow_pos (by decide)
      simp only [Nat.add_sub_cancel] at h1 ih
      cases ts with
      | nil =>
        simp only [List.map_cons, List.map_nil, argsL, List.flatMap_nil, List.append_nil, List.length_cons, List.length_nil, List.length_append, Nat.pow_succ]
        simp
        omega
      | cons u us =>
        cases us with
        | nil =>
          have h2 := ih u (by simp)
          simp only [List.map_cons, List.map_nil, argsL, List.flatMap_cons, List.flatMap_nil, List.append_nil, List.length_cons, List.length_nil, List.length_append, Nat.pow_succ]
          simp
          omega
        | cons v vs => simp only [List.length_cons] at hl; omega
theorem TpOk.size {t : Tp} (h : TpOk t) : (prS t).size ≤ 160 := by
  rw [← Fa.len_data, prS_data]
  rcases h with h | rfl
  · exact prL_size h
  · simp [tpZ, prL_mk, argsL]
theorem pmS_size {x : Pm} (h : x.name.size ≤ 7 ∧ x.bound.size ≤ 7) : (pmS x).size ≤ 56 := by
  have h1 := packL_sumC (L := [x.name, x.bound]) (fun y hy => by
    simp at hy
    rcases hy with rfl | rfl <;> omega)
  have h2 : (pmS x).size = _ := Fa.packS_size _
  simp [sumC] at h1
  omega
theorem packS_bd {L : List ByteArray} {n B : Nat} (hn : L.length ≤ n) (hB : B ≤ 1000000) (hn2 : n ≤ 1000) (h : ∀ x ∈ L, x.size ≤ B) : (packS L).size ≤ n * B + 21 * n := by
  have h1 := packL_sumC (L := L) (fun x hx => by have := h x hx; omega)
  have h2 := sumC_le h
  have h3 : (packS L).size = _ := Fa.packS_size _
  have h4 : L.length * B ≤ n * B := Nat.mul_le_mul_right _ hn
  omega
theorem names3_size : ∀ s ∈ names3, s.size ≤ 5 := by decide
theorem Sg.Made.parts {x : Sg} (h : x.Made) : ∀ y ∈ [itS x.kind, packS (x.params.map pmS), packS x.names, packS (x.args.map prS), prS x.result, x.trait], y.size ≤ 1000 := by
  intro y hy
  have hk : InI x.kind := by have := h.kind; constructor <;> omega
  have h1 := itS_sz hk
  have h2 := packS_bd (L := x.params.map pmS) (n := 2) (B := 56) (by rw [List.length_map]; exact h.params.few) (by omega) (by omega) (fun y hy => by
    obtain ⟨p, hp, rfl⟩ := List.mem_map.1 hy
    exact pmS_size (h.params.size p hp))
  have h3 := packS_bd (L := x.names) (n := 3) (B := 5) (by obtain ⟨k, hk, e⟩ := h.names; rw [e, List.length_take]; omega) (by omega) (by omega) (fun y hy => by
    obtain ⟨k, hk, e⟩ := h.names
    rw [e] at hy
    exact names3_size y (List.mem_of_mem_take hy))
  have h4 := packS_bd (L := x.args.map prS) (n := 3) (B := 160) (by rw [List.length_map]; exact h.args.few) (by omega) (by omega) (fun y hy => by
    obtain ⟨p, hp, rfl⟩ := List.mem_map.1 hy
    exact TpOk.size (.inl (h.args.made p hp)))
  have h5 := TpOk.size h.result
  have h6 := h.trait
  simp only [List.mem_cons, List.not_mem_nil, or_false] at hy
  rcases hy with rfl | rfl | rfl | rfl | rfl | rfl <;> omega
theorem sgS_size {x : Sg} (h : x.Made) : (sgS x).size ≤ 10000 := by
  have := packS_bd (n := 6) (B := 1000) (L := [itS x.kind, packS (x.params.map pmS), packS x.names, packS (x.args.map prS), prS x.result, x.trait]) (by simp) (by omega) (by omega) h.parts
  have e : sgS x = packS [itS x.kind, packS (x.params.map pmS), packS x.names, packS (x.args.map prS), prS x.result, x.trait] := rfl
  rw [e]
  omega
/-- the string of a signature says which it is -/
theorem sgS_inj {x y : Sg} (hx : x.Made) (hy : y.Made) (h : sgS x = sgS y) : x = y := by
  have hz := sgS_size hx
  have hp := hx.parts
  have := Fa.packS_inj (A := [itS x.kind, packS (x.params.map pmS), packS x.names, packS (x.args.map prS), prS x.result, x.trait]) (B := [itS y.kind, packS (y.params.map pmS), packS y.names, packS (y.args.map prS), prS y.result, y.trait]) (by have e : packS [itS x.kind, packS (x.params.map pmS), packS x.names, packS (x.args.map prS), prS x.result, x.trait] = sgS x := rfl; rw [e]; omega) h
  simp only [List.cons.injEq, and_true] at this
  obtain ⟨h1, h2, h3, h4, h5, h6⟩ := this
  have p2 := hp _ (List.mem_cons_of_mem _ (List.mem_cons_self))
  have p3 := hp (packS x.names) (by simp)
  have p4 := hp (packS (x.args.map prS)) (by simp)
  have hk : ∀ z : Sg, z.Made → InI z.kind := fun z hz => by have := hz.kind; constructor <;> omega
  have e1 := Fa.itS_inj (hk x hx) (hk y hy) h1
  have e2 := Fa.map_inj2 (f := pmS) (P := fun _ => True) (B := 1000) (fun a b _ _ hs e => by
    have := Fa.packS_inj (A := [a.name, a.bound]) (B := [b.name, b.bound]) (by have : (pmS a).size = (packS [a.name, a.bound]).size := rfl; omega) e
    simp only [List.cons.injEq, and_true] at this
    exact Pm.ext' this.1 this.2) (fun _ _ => trivial) (fun _ _ => trivial) (fun p hp => by have := pmS_size (hx.params.size p hp); omega) (Fa.packS_inj (by omega) h2)
  have e3 := Fa.packS_inj (by omega) h3
  have e4 := Fa.map_inj (f := prS) (P := NoM) (fun a b ha hb e => prS_inj ha hb e) (fun t ht => (hx.args.made t ht).noM) (fun t ht => (hy.args.made t ht).noM) (Fa.packS_inj (by omega) h4)
  have e5 := prS_inj hx.result.noM hy.result.noM h5
  cases x; cases y
  cases e1; cases e2; cases e3; cases e4; cases e5; cases h6
  rfl
end Go.Proofs.YthikdkeanndidaaDoor

/-
  CONTRACT: the reference's SameSignature of any two signatures.
-/
namespace Go.Proofs.YthikdkeanndidaaDoor
open Go Go.RowKit
set_option linter.unusedVariables false
set_option linter.unusedSimpArgs false
set_option maxRecDepth 1000000

theorem bneI_eq' {a b : Int} (h : a = b) : (a != b) = false := by subst h; simp
theorem bneI_ne' {a b : Int} (h : ¬ a = b) : (a != b) = true := by simpa using h
theorem Sg.ext' {x y : Sg} (h1 : x.kind = y.kind) (h2 : x.params = y.params) (h3 : x.names = y.names) (h4 : x.args = y.args) (h5 : x.result = y.result) (h6 : x.trait = y.trait) : x = y := by
  cases x; cases y; cases h1; cases h2; cases h3; cases h4; cases h5; cases h6; rfl
set_option maxHeartbeats 8000000 in
/-- the reference's SameSignature -/
theorem rsg_any (A B : Nat → Prop) (x y : Sg) (pp np ap pp2 np2 ap2 : Option Addr) (pc nc ac pc2 nc2 ac2 : Nat) (q q2 : Rw) (w : World) (h2 : SlA encPm A w (.slice pp x.params.length pc) x.params) (h3 : SlA encN A w (.slice np x.names.length nc) x.names) (h4 : IsPs A w (.slice ap x.args.length ac) x.args) (h5 : IsP A w q x.result)
    (k2 : SlA encPm B w (.slice pp2 y.params.length pc2) y.params) (k3 : SlA encN B w (.slice np2 y.names.length nc2) y.names) (k4 : IsPs B w (.slice ap2 y.args.length ac2) y.args) (k5 : IsP B w q2 y.result) :
    Calls Tryd.prog 19 #[.agg #[.int .i64 x.kind, .slice pp x.params.length pc, .slice np x.names.length nc, .slice ap x.args.length ac, .string q.name, .slice q.p q.n q.cap, .string x.trait], .agg #[.int .i64 y.kind, .slice pp2 y.params.length pc2, .slice np2 y.names.length nc2, .slice ap2 y.args.length ac2, .string q2.name, .slice q2.p q2.n q2.cap, .string y.trait]] w fun e w' => ∃ b : Bool, e = .returned (.bool b) ∧ (b = true ↔ x = y) ∧ Below w.heap.size w w' := by
  obtain ⟨w0, hw0⟩ : ∃ yy, w.alloc (.cells #[.int .i64 x.kind, .slice pp x.params.length pc, .slice np x.names.length nc, .slice ap x.args.length ac, .string q.name, .slice q.p q.n q.cap, .string x.trait] sgT) = yy := ⟨_, rfl⟩
  have hb0 := below_box w (.cells #[.int .i64 x.kind, .slice pp x.params.length pc, .slice np x.names.length nc, .slice ap x.args.length ac, .string q.name, .slice q.p q.n q.cap, .string x.trait] sgT)
  have hc0 : CellsAt (w.alloc (.cells #[.int .i64 x.kind, .slice pp x.params.length pc, .slice np x.names.length nc, .slice ap x.args.length ac, .string q.name, .slice q.p q.n q.cap, .string x.trait] sgT)) w.heap.size 0 [.int .i64 x.kind, .slice pp x.params.length pc, .slice np x.names.length nc, .slice ap x.args.length ac, .string q.name, .slice q.p q.n q.cap, .string x.trait] := cellsAt_alloc w [.int .i64 x.kind, .slice pp x.params.length pc, .slice np x.names.length nc, .slice ap x.args.length ac, .string q.name, .slice q.p q.n q.cap, .string x.trait] _
  have hz0 : (w.alloc (.cells #[.int .i64 x.kind, .slice pp x.params.length pc, .slice np x.names.length nc, .slice ap x.args.length ac, .string q.name, .slice q.p q.n q.cap, .string x.trait] sgT)).heap.size = w.heap.size + 1 := World.size_alloc _ _
  rw [hw0] at hb0 hc0 hz0
  obtain ⟨w1, hw1⟩ : ∃ yy, w0.alloc (.cells #[.int .i64 y.kind, .slice pp2 y.params.length pc2, .slice np2 y.names.length nc2, .slice ap2 y.args.length ac2, .string q2.name, .slice q2.p q2.n q2.cap, .string y.trait] sgT) = yy := ⟨_, rfl⟩
  have hb1 := below_box w0 (.cells #[.int .i64 y.kind, .slice pp2 y.params.length pc2, .slice np2 y.names.length nc2, .slice ap2 y.args.length ac2, .string q2.name, .slice q2.p q2.n q2.cap, .string y.trait] sgT)
  have hc1 : CellsAt (w0.alloc (.cells #[.int .i64 y.kind, .slice pp2 y.params.length pc2, .slice np2 y.names.length nc2, .slice ap2 y.args.length ac2, .string q2.name, .slice q2.p q2.n q2.cap, .string y.trait] sgT)) w0.heap.size 0 [.int .i64 y.kind, .slice pp2 y.params.length pc2, .slice np2 y.names.length nc2, .slice ap2 y.args.length ac2, .string q2.name, .slice q2.p q2.n q2.cap, .string y.trait] := cellsAt_alloc w0 [.int .i64 y.kind, .slice pp2 y.params.length pc2, .slice np2 y.names.length nc2, .slice ap2 y.args.length ac2, .string q2.name, .slice q2.p q2.n q2.cap, .string y.trait] _
  rw [hw1] at hb1 hc1
  rw [hz0] at hc1
  have HC0 := Lib.hid (hc0.below hb1)
  have HC1 := Lib.hid hc1
  have HB0 := Lib.hid (bnext hb0 hb1)
  have HP2 := Lib.hid (h2.keep (Kp.below HB0.out))
  have HP3 := Lib.hid (h3.keep (Kp.below HB0.out))
  have HP4 := Lib.hid (h4.later HB0.out)
  have HP5 := Lib.hid (h5.later HB0.out)
  have HQ2 := Lib.hid (k2.keep (Kp.below HB0.out))
  have HQ3 := Lib.hid (k3.keep (Kp.below HB0.out))
  have HQ4 := Lib.hid (k4.later HB0.out)
  have HQ5 := Lib.hid (k5.later HB0.out)
  have u0 : w1.cell? ⟨w.heap.size, 0, none⟩ = some (.int .i64 x.kind) := HC0.out 0 _ rfl
  have u1 : w1.cell? ⟨w.heap.size, 1, none⟩ = some (.slice pp x.params.length pc) := HC0.out 1 _ rfl
  have u2 : w1.cell? ⟨w.heap.size, 2, none⟩ = some (.slice np x.names.length nc) := HC0.out 2 _ rfl
  have u3 : w1.cell? ⟨w.heap.size, 3, none⟩ = some (.slice ap x.args.length ac) := HC0.out 3 _ rfl
  have u4 : w1.cell? ⟨w.heap.size, 4, none⟩ = some (.string q.name) := HC0.out 4 _ rfl
  have u5 : w1.cell? ⟨w.heap.size, 5, none⟩ = some (.slice q.p q.n q.cap) := HC0.out 5 _ rfl
  have u6 : w1.cell? ⟨w.heap.size, 6, none⟩ = some (.string x.trait) := HC0.out 6 _ rfl
  have v0 : w1.cell? ⟨w.heap.size + 1, 0, none⟩ = some (.int .i64 y.kind) := HC1.out 0 _ rfl
  have v1 : w1.cell? ⟨w.heap.size + 1, 1, none⟩ = some (.slice pp2 y.params.length pc2) := HC1.out 1 _ rfl
  have v2 : w1.cell? ⟨w.heap.size + 1, 2, none⟩ = some (.slice np2 y.names.length nc2) := HC1.out 2 _ rfl
  have v3 : w1.cell? ⟨w.heap.size + 1, 3, none⟩ = some (.slice ap2 y.args.length ac2) := HC1.out 3 _ rfl
  have v4 : w1.cell? ⟨w.heap.size + 1, 4, none⟩ = some (.string q2.name) := HC1.out 4 _ rfl
  have v5 : w1.cell? ⟨w.heap.size + 1, 5, none⟩ = some (.slice q2.p q2.n q2.cap) := HC1.out 5 _ rfl
  have v6 : w1.cell? ⟨w.heap.size + 1, 6, none⟩ = some (.string y.trait) := HC1.out 6 _ rfl
  clear h2 h3 h4 h5 k2 k3 k4 k5 hb0 hc0 hb1 hc1
  by_cases hk : x.kind = y.kind
  case neg =>
    have r0 := bneI_ne' hk
    have HNE := Lib.hid hk
    clear hk
    go_enter Tryd.func19, Tryd.ntmps19
    go_wp2_with fail
    go_ret
    exact ⟨false, rfl, ⟨fun h => (by cases h), fun h => absurd (by rw [h]) HNE.out⟩, HB0.out⟩
  have r0 := bneI_eq' hk
  have HK0 := Lib.hid hk
  clear hk
  by_cases hk : x.trait = y.trait
  case neg =>
    have r5 : (x.trait.toList == y.trait.toList) = false := bytes_ne2 hk
    have r6 : (x.trait.toList != y.trait.toList) = true := by simp [bne, r5]
    have HNE := Lib.hid hk
    clear hk
    go_enter Tryd.func19, Tryd.ntmps19
    go_wp2_with fail
    go_ret
    exact ⟨false, rfl, ⟨fun h => (by cases h), fun h => absurd (by rw [h]) HNE.out⟩, HB0.out⟩
  have r5 : (x.trait.toList == y.trait.toList) = true := by rw [hk]; exact beq_self_eq_true _
  have r6 : (x.trait.toList != y.trait.toList) = false := by simp [bne, r5]
  have HK1 := Lib.hid hk
  clear hk
  have HS1 := Lib.hid (samePms_any A B x.params y.params pp pp2 pc pc2 w1 HP2.out HQ2.out)
  go_enter Tryd.func19, Tryd.ntmps19
  go_wp2_with fail
  refine HS1.out.mono ?_
  rintro e w2 ⟨bb, rfl, hbb, hbz⟩
  have HB := Lib.hid hbz
  have HBE := Lib.hid hbb
  clear hbb hbz u0 u1 u2 u3 u4 u5 u6 v0 v1 v2 v3 v4 v5 v6 hw0 hw1 hz0
  cases bb
  · go_wp2_with fail
    go_ret
    exact ⟨false, rfl, ⟨fun h => (by cases h), fun h => absurd (HBE.out.2 (by rw [h])) (by decide)⟩, HB0.out.trans (HB.out.mono HB0.out.size)⟩
  have HK2 := Lib.hid (HBE.out.1 rfl)
  clear HBE HS1
  have u0 : w2.cell? ⟨w.heap.size, 0, none⟩ = some (.int .i64 x.kind) := HC0.out.below HB.out 0 _ rfl
  have u1 : w2.cell? ⟨w.heap.size, 1, none⟩ = some (.slice pp x.params.length pc) := HC0.out.below HB.out 1 _ rfl
  have u2 : w2.cell? ⟨w.heap.size, 2, none⟩ = some (.slice np x.names.length nc) := HC0.out.below HB.out 2 _ rfl
  have u3 : w2.cell? ⟨w.heap.size, 3, none⟩ = some (.slice ap x.args.length ac) := HC0.out.below HB.out 3 _ rfl
  have u4 : w2.cell? ⟨w.heap.size, 4, none⟩ = some (.string q.name) := HC0.out.below HB.out 4 _ rfl
  have u5 : w2.cell? ⟨w.heap.size, 5, none⟩ = some (.slice q.p q.n q.cap) := HC0.out.below HB.out 5 _ rfl
  have u6 : w2.cell? ⟨w.heap.size, 6, none⟩ = some (.string x.trait) := HC0.out.below HB.out 6 _ rfl
  have v0 : w2.cell? ⟨w.heap.size + 1, 0, none⟩ = some (.int .i64 y.kind) := HC1.out.below HB.out 0 _ rfl
  have v1 : w2.cell? ⟨w.heap.size + 1, 1, none⟩ = some (.slice pp2 y.params.length pc2) := HC1.out.below HB.out 1 _ rfl
  have v2 : w2.cell? ⟨w.heap.size + 1, 2, none⟩ = some (.slice np2 y.names.length nc2) := HC1.out.below HB.out 2 _ rfl
  have v3 : w2.cell? ⟨w.heap.size + 1, 3, none⟩ = some (.slice ap2 y.args.length ac2) := HC1.out.below HB.out 3 _ rfl
  have v4 : w2.cell? ⟨w.heap.size + 1, 4, none⟩ = some (.string q2.name) := HC1.out.below HB.out 4 _ rfl
  have v5 : w2.cell? ⟨w.heap.size + 1, 5, none⟩ = some (.slice q2.p q2.n q2.cap) := HC1.out.below HB.out 5 _ rfl
  have v6 : w2.cell? ⟨w.heap.size + 1, 6, none⟩ = some (.string y.trait) := HC1.out.below HB.out 6 _ rfl
  have HS2 := Lib.hid (rsame_any x.result y.result q q2 w2 (HP5.out.later HB.out) (HQ5.out.later HB.out))
  go_wp2_with fail
  refine HS2.out.mono ?_
  rintro e w3 ⟨bb, rfl, hbb, hbz⟩
  have HB3 := Lib.hid (HB.out.trans (hbz.mono HB.out.size))
  have HBE := Lib.hid hbb
  clear hbb hbz u0 u1 u2 u3 u4 u5 u6 v0 v1 v2 v3 v4 v5 v6
  cases bb
  · go_wp2_with fail
    go_ret
    exact ⟨false, rfl, ⟨fun h => (by cases h), fun h => absurd (HBE.out.2 (by rw [h])) (by decide)⟩, HB0.out.trans (HB3.out.mono HB0.out.size)⟩
  have HK3 := Lib.hid (HBE.out.1 rfl)
  clear HBE HS2 HB
  have u0 : w3.cell? ⟨w.heap.size, 0, none⟩ = some (.int .i64 x.kind) := HC0.out.below HB3.out 0 _ rfl
  have u1 : w3.cell? ⟨w.heap.size, 1, none⟩ = some (.slice pp x.params.length pc) := HC0.out.below HB3.out 1 _ rfl
  have u2 : w3.cell? ⟨w.heap.size, 2, none⟩ = some (.slice np x.names.length nc) := HC0.out.below HB3.out 2 _ rfl
  have u3 : w3.cell? ⟨w.heap.size, 3, none⟩ = some (.slice ap x.args.length ac) := HC0.out.below HB3.out 3 _ rfl
  have u4 : w3.cell? ⟨w.heap.size, 4, none⟩ = some (.string q.name) := HC0.out.below HB3.out 4 _ rfl
  have u5 : w3.cell? ⟨w.heap.size, 5, none⟩ = some (.slice q.p q.n q.cap) := HC0.out.below HB3.out 5 _ rfl
  have u6 : w3.cell? ⟨w.heap.size, 6, none⟩ = some (.string x.trait) := HC0.out.below HB3.out 6 _ rfl
  have v0 : w3.cell? ⟨w.heap.size + 1, 0, none⟩ = some (.int .i64 y.kind) := HC1.out.below HB3.out 0 _ rfl
  have v1 : w3.cell? ⟨w.heap.size + 1, 1, none⟩ = some (.slice pp2 y.params.length pc2) := HC1.out.below HB3.out 1 _ rfl
  have v2 : w3.cell? ⟨w.heap.size + 1, 2, none⟩ = some (.slice np2 y.names.length nc2) := HC1.out.below HB3.out 2 _ rfl
  have v3 : w3.cell? ⟨w.heap.size + 1, 3, none⟩ = some (.slice ap2 y.args.length ac2) := HC1.out.below HB3.out 3 _ rfl
  have v4 : w3.cell? ⟨w.heap.size + 1, 4, none⟩ = some (.string q2.name) := HC1.out.below HB3.out 4 _ rfl
  have v5 : w3.cell? ⟨w.heap.size + 1, 5, none⟩ = some (.slice q2.p q2.n q2.cap) := HC1.out.below HB3.out 5 _ rfl
  have v6 : w3.cell? ⟨w.heap.size + 1, 6, none⟩ = some (.string y.trait) := HC1.out.below HB3.out 6 _ rfl
  have HS3 := Lib.hid (rsameL_any x.args y.args ap ap2 x.args.length y.args.length ac ac2 w3 (HP4.out.later HB3.out) (HQ4.out.later HB3.out))
  go_wp2_with fail
  refine HS3.out.mono ?_
  rintro e w4 ⟨bb, rfl, hbb, hbz⟩
  have HB4 := Lib.hid (HB3.out.trans (hbz.mono HB3.out.size))
  have HBE := Lib.hid hbb
  clear hbb hbz u0 u1 u2 u3 u4 u5 u6 v0 v1 v2 v3 v4 v5 v6
  cases bb
  · go_wp2_with fail
    go_ret
    exact ⟨false, rfl, ⟨fun h => (by cases h), fun h => absurd (HBE.out.2 (by rw [h])) (by decide)⟩, HB0.out.trans (HB4.out.mono HB0.out.size)⟩
  have HK4 := Lib.hid (HBE.out.1 rfl)
  clear HBE HS3 HB3
  have u0 : w4.cell? ⟨w.heap.size, 0, none⟩ = some (.int .i64 x.kind) := HC0.out.below HB4.out 0 _ rfl
  have u1 : w4.cell? ⟨w.heap.size, 1, none⟩ = some (.slice pp x.params.length pc) := HC0.out.below HB4.out 1 _ rfl
  have u2 : w4.cell? ⟨w.heap.size, 2, none⟩ = some (.slice np x.names.length nc) := HC0.out.below HB4.out 2 _ rfl
  have u3 : w4.cell? ⟨w.heap.size, 3, none⟩ = some (.slice ap x.args.length ac) := HC0.out.below HB4.out 3 _ rfl
  have u4 : w4.cell? ⟨w.heap.size, 4, none⟩ = some (.string q.name) := HC0.out.below HB4.out 4 _ rfl
  have u5 : w4.cell? ⟨w.heap.size, 5, none⟩ = some (.slice q.p q.n q.cap) := HC0.out.below HB4.out 5 _ rfl
  have u6 : w4.cell? ⟨w.heap.size, 6, none⟩ = some (.string x.trait) := HC0.out.below HB4.out 6 _ rfl
  have v0 : w4.cell? ⟨w.heap.size + 1, 0, none⟩ = some (.int .i64 y.kind) := HC1.out.below HB4.out 0 _ rfl
  have v1 : w4.cell? ⟨w.heap.size + 1, 1, none⟩ = some (.slice pp2 y.params.length pc2) := HC1.out.below HB4.out 1 _ rfl
  have v2 : w4.cell? ⟨w.heap.size + 1, 2, none⟩ = some (.slice np2 y.names.length nc2) := HC1.out.below HB4.out 2 _ rfl
  have v3 : w4.cell? ⟨w.heap.size + 1, 3, none⟩ = some (.slice ap2 y.args.length ac2) := HC1.out.below HB4.out 3 _ rfl
  have v4 : w4.cell? ⟨w.heap.size + 1, 4, none⟩ = some (.string q2.name) := HC1.out.below HB4.out 4 _ rfl
  have v5 : w4.cell? ⟨w.heap.size + 1, 5, none⟩ = some (.slice q2.p q2.n q2.cap) := HC1.out.below HB4.out 5 _ rfl
  have v6 : w4.cell? ⟨w.heap.size + 1, 6, none⟩ = some (.string y.trait) := HC1.out.below HB4.out 6 _ rfl
  obtain ⟨-, hm1, g1⟩ := HP3.out.at_
  obtain ⟨-, hm2, g2⟩ := HQ3.out.at_
  unfold maxLen at hm1 hm2
  have G1 := Lib.hid g1
  have G2 := Lib.hid g2
  clear g1 g2
  by_cases hlen : x.names.length = y.names.length
  case neg =>
    have hne : (((x.names.length : Nat) : Int) != ((y.names.length : Nat) : Int)) = true := by rw [bne_iff_ne]; omega
    have HNE := Lib.hid hlen
    clear hlen
    go_wp2_with fail
    go_ret
    exact ⟨false, rfl, ⟨fun h => (by cases h), fun h => absurd (by rw [h]) HNE.out⟩, HB0.out.trans (HB4.out.mono HB0.out.size)⟩
  have hne : (((x.names.length : Nat) : Int) != ((y.names.length : Nat) : Int)) = false := by rw [hlen]; simp
  have HLEN := Lib.hid hlen
  clear hlen
  go_wp2_with fail
  clear u0 u1 u2 u3 u4 u5 u6 v0 v1 v2 v3 v4 v5 v6 hne
  go_loopw [5] (fun i wr => ∃ j : Nat, j ≤ x.names.length ∧ i = .int .i64 j ∧ Hid (Below w1.heap.size w1 wr) ∧ Hid (∀ i (a : i < x.names.length) (b : i < y.names.length), i < j → x.names[i] = y.names[i])) (fun i _ => x.names.length - (intOf i).toNat)
  case atStart => exact ⟨0, Nat.zero_le _, rfl, HB4.out, fun i a b h => by omega⟩
  case round =>
    obtain ⟨j, hj, rfl, HB, HE⟩ := hrel
    obtain ⟨wx, rfl⟩ : ∃ x, x = wr := ⟨wr, rfl⟩
    have u2 : wx.cell? ⟨w.heap.size, 2, none⟩ = some (.slice np x.names.length nc) := HC0.out.below HB.out 2 _ rfl
    have v2 : wx.cell? ⟨w.heap.size + 1, 2, none⟩ = some (.slice np2 y.names.length nc2) := HC1.out.below HB.out 2 _ rfl
    by_cases hlt : j < x.names.length
    · have hlti : (j : Int) < (x.names.length : Int) := by omega
      have hltm : j < y.names.length := by have := HLEN.out; omega
      have hltmi : (j : Int) < (y.names.length : Int) := by omega
      obtain ⟨b1, o1, rfl, -, a1⟩ := G1.out j hlt
      obtain ⟨b2, o2, rfl, -, a2⟩ := G2.out j hltm
      obtain ⟨s, hs⟩ : ∃ s, s = x.names[j]'hlt := ⟨_, rfl⟩
      obtain ⟨t, ht⟩ : ∃ t, t = y.names[j]'hltm := ⟨_, rfl⟩
      rw [← hs] at a1
      rw [← ht] at a2
      have HXL := Lib.hid hs
      have HYL := Lib.hid ht
      clear hs ht
      have x1 : wx.cell? ⟨b1, o1 + j, none⟩ = some (.string s) := by
        have h0 : w1.cell? ⟨b1, o1 + j, none⟩ = some (.string s) := by have := a1 0 _ (by decide) rfl; simpa [encN] using this
        rw [HB.out.cell (World.block_lt_of_cell? w1 _ h0)]; exact h0
      have x2 : wx.cell? ⟨b2, o2 + j, none⟩ = some (.string t) := by
        have h0 : w1.cell? ⟨b2, o2 + j, none⟩ = some (.string t) := by have := a2 0 _ (by decide) rfl; simpa [encN] using this
        rw [HB.out.cell (World.block_lt_of_cell? w1 _ h0)]; exact h0
      have HBD := Lib.hid (fun n => bnext HB.out (drew_below (B := wx.heap.size) (w := wx) n))
      clear a1 a2 G1 G2
      by_cases hk : s = t
      · subst hk
        have q1 : (s.toList == s.toList) = true := beq_self_eq_true _
        have q3 : (s.toList != s.toList) = false := by simp
        go_wp2_with fail
        go_quiet (fail)
        go_wp2_with fail
        go_roundw
        case rel => exact ⟨j + 1, by omega, by go_num, HBD.out _, fun i a b h => by
          by_cases e : i < j
          · exact HE.out i a b e
          · obtain rfl : i = j := by omega
            exact HXL.out.symm.trans HYL.out⟩
        case measure => simp [intOf]; omega
      · have q1 : (s.toList == t.toList) = false := bytes_ne2 hk
        have q3 : (s.toList != t.toList) = true := by simp [bne, q1]
        have HNE := Lib.hid hk
        clear hk
        go_wp2_with fail
        go_quiet (fail)
        go_wp2_with fail
        go_ret
        exact ⟨false, rfl, ⟨fun h => (by cases h), fun h => absurd (by rw [HXL.out, HYL.out]; simp only [h]) HNE.out⟩, HB0.out.trans ((HBD.out _).mono HB0.out.size)⟩
    · obtain rfl : j = x.names.length := by omega
      go_wp2_with fail
      go_ret
      exact ⟨true, rfl, ⟨fun _ => Sg.ext' HK0.out HK2.out (List.ext_getElem HLEN.out (fun i a b => HE.out i a b a)) HK4.out HK3.out HK1.out, fun _ => rfl⟩, HB0.out.trans (HB.out.mono HB0.out.size)⟩
end Go.Proofs.YthikdkeanndidaaDoor
