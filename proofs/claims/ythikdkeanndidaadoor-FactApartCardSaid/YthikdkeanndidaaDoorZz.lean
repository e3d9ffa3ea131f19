/-
  LAWS: a row of types whose room that is not used yet is zero: what an append leaves; that the zero type behind a row changes nothing that was there.
-/
import Derived.Test.YthikdkeanndidaaDoorZt
import Derived.Test.YthikdkeanndidaaDoorZq
import Derived.Test.YthikdkeanndidaaDoorCg
import Derived.Test.YthikdkeanndidaaDoorCr
import Derived.Test.YthikdkeanndidaaDoorCoB
import Derived.Test.YthikdkeanndidaaDoorCz0
namespace Go.Proofs.YthikdkeanndidaaDoor
open Go Go.RowKit Go.Maps
set_option linter.unusedVariables false
set_option linter.unusedSimpArgs false
set_option maxRecDepth 100000

def zc2 (i : Nat) : Value := if i % 2 = 0 then .string ⟨#[]⟩ else .slice none 0 0
/-- the room behind a row is zero -/
def Spare0 (w : World) (v : Value) : Prop := ∀ g n cap, v = .slice (some ⟨g, 0, none⟩) n cap → ∃ cur, w.heap[g]? = some (.cells cur tpT (0, 0)) ∧ cur.size = cap * 2 ∧ ∀ i, n * 2 ≤ i → i < cur.size → cur[i]? = some (zc2 i)
theorem Spare0.isNil (w : World) : Spare0 w (.slice none 0 0) := fun g n cap e => by cases e
theorem Spare0.keep {w w' : World} {v : Value} (h : Spare0 w v) (hk : ∀ g, v.ownBlock = some g → w'.heap[g]? = w.heap[g]?) : Spare0 w' v := fun g n cap e => by
  obtain ⟨cur, h1, h2, h3⟩ := h g n cap e
  exact ⟨cur, by rw [hk g (by rw [e]; rfl)]; exact h1, h2, h3⟩
theorem zeroAt (m i : Nat) (hi : i < m * 2) : (Builtin.zeroCells (Value.agg #[.string ⟨#[]⟩, .slice none 0 0]).cells m)[i]? = some (zc2 i) := by
  have hz : (Value.agg #[.string ⟨#[]⟩, .slice none 0 0]).cells = #[.string ⟨#[]⟩, .slice none 0 0] := rfl
  rw [hz]
  unfold Builtin.zeroCells zc2
  have h2 : (#[Value.string ⟨#[]⟩, .slice none 0 0] : Array Value).size = 2 := rfl
  rw [h2]
  rcases Nat.mod_two_eq_zero_or_one i with h | h <;> simp [hi, h]
theorem Spare0.fresh (w : World) (xs : List Value) (n cap : Nat) (hx : xs.length = n * 2) (hn : n ≤ cap) : Spare0 (w.drew.alloc (.cells (xs.toArray ++ Builtin.zeroCells (Value.agg #[.string ⟨#[]⟩, .slice none 0 0]).cells (cap - n)) tpT)) (.slice (some ⟨w.heap.size, 0, none⟩) n cap) := by
  intro g n' cap' e
  injection e with e1 e2 e3
  injection e1 with e1
  injection e1 with e1
  subst e1; subst e2; subst e3
  have hzs : (Value.agg #[.string ⟨#[]⟩, .slice none 0 0]).cells.size = 2 := rfl
  have hsz : (xs.toArray ++ Builtin.zeroCells (Value.agg #[.string ⟨#[]⟩, .slice none 0 0]).cells (cap - n)).size = cap * 2 := by
    rw [Array.size_append, List.size_toArray, size_zeroCells, hzs, hx]; omega
  refine ⟨_, heap_alloc_new w.drew _, hsz, fun i h1 h2 => ?_⟩
  rw [hsz] at h2
  rw [Array.getElem?_append_right (by rw [List.size_toArray, hx]; exact h1), List.size_toArray, hx, zeroAt _ _ (by omega)]
  congr 1
  unfold zc2
  congr 1
  rw [eq_iff_iff]
  constructor <;> intro h <;> omega
/-- an append leaves the room zero -/
theorem app_spare {w w' : World} {base sb : Nat} {v v' : Value} {R : List Rw} {q : Rw} (hown : OwnL rwEnc tpT w base v R) (hsp : Spare0 w v) (hx : CellsAt w sb 0 (Rw.cells q)) (hl : R.length ≤ 1000) (ty : TypeId)
    (hr : (Builtin.append_ #[42, 42] ty #[v, .slice (some ⟨sb, 0, none⟩) 1 1]).run Tryd.prog w = .ok v' w') : Spare0 w' v' := by
  obtain ⟨i0, hi0, hz0, hz1, hz2⟩ := info_parts infoTp
  have hnews : ∀ j u, (Rw.cells q)[j]? = some u → w.cell? ((⟨sb, 0, none⟩ : Addr).add j) = some u := fun j u hj => by rw [add_lit]; exact hx j u hj
  have hlen : (Rw.cells q).length = 1 * i0.size := by rw [hz1]; rfl
  obtain ⟨hxl, ⟨rfl, hn⟩ | ⟨g, cap, cur, rfl, hbg, hg, hnc, hcm, hcs, htake⟩⟩ := hown
  · have h := run_append_nil (P := Tryd.prog) w 42 ty tpT i0 _ Tryd.underlying42 hi0 hz0 ⟨sb, 0, none⟩ 1 1 (Rw.cells q) hlen hnews (by omega) (by omega) (by rw [hz2]; omega)
    rw [hr] at h
    injection h with h1 h2
    subst h1; subst h2
    exact Spare0.fresh w (Rw.cells q) 1 _ rfl (grownCap_ge _ _ _ _)
  · by_cases hroom : R.length + 1 ≤ cap
    · have hcs2 : cur.size = cap * 2 := hcs
      have hfit : R.length * i0.size + (Rw.cells q).length ≤ cur.size := by rw [hlen, hz1, hcs2]; omega
      have h := run_append_room (P := Tryd.prog) w 42 ty tpT i0 Tryd.underlying42 hi0 g R.length cap cur hg ⟨sb, 0, none⟩ 1 1 (Rw.cells q) hlen hnews (fun u hu => rwEnc.one q u hu) hroom hfit
      rw [hr] at h
      injection h with h1 h2
      subst h1; subst h2
      intro g' n' cap' e
      injection e with e1 e2 e3
      injection e1 with e1
      injection e1 with e1
      subst e1; subst e2; subst e3
      obtain ⟨cur', hg', _, hsp'⟩ := hsp g R.length cap rfl
      rw [hg] at hg'
      injection hg' with hg'
      injection hg' with hg' _ _
      subst hg'
      have hql : (Rw.cells q).length = 2 := rfl
      refine ⟨_, setRow_heap w g cur _ tpT _ hg, ?_, fun i h1 h2 => ?_⟩
      · simp only [List.size_toArray, List.length_append, List.length_take, List.length_drop, Array.length_toList, hz1, hql]
        omega
      · simp only [List.size_toArray, List.length_append, List.length_take, List.length_drop, Array.length_toList, hz1, hql] at h2
        have h3 := hsp' i (by omega) (by omega)
        rw [List.getElem?_toArray, List.getElem?_append_right (by simp only [List.length_append, List.length_take, Array.length_toList, hz1, hql]; omega), List.getElem?_drop]
        simp only [List.length_append, List.length_take, Array.length_toList, hz1, hql]
        rw [show R.length * 2 + 2 + (i - (min (R.length * 2) cur.size + 2)) = i by omega, Array.getElem?_toList]
        exact h3
    · have holds : ∀ j u, (rwEnc.all R)[j]? = some u → w.cell? ((⟨g, 0, none⟩ : Addr).add j) = some u := World.ownsRow.cells (base := base) (e := tpT) (size := 2) (n := R.length) ⟨hxl, .inr ⟨g, cap, cur, rfl, hbg, hg, hnc, hcm, hcs, htake⟩⟩ rfl
      have h := run_append_grow (P := Tryd.prog) w 42 ty tpT i0 _ Tryd.underlying42 hi0 hz0 ⟨g, 0, none⟩ R.length cap (rwEnc.all R) (by rw [hz1]; exact hxl) holds ⟨sb, 0, none⟩ 1 1 (Rw.cells q) hlen hnews (by omega) (by omega) (growslice_fits (by omega) (by rw [hz2]; omega))
      rw [hr] at h
      injection h with h1 h2
      subst h1; subst h2
      have := Spare0.fresh w (rwEnc.all R ++ Rw.cells q) (R.length + 1) (grownCap w (R.length + 1) cap tpT) (by rw [List.length_append, hxl, hlen, hz1]; show R.length * 2 + 1 * 2 = _; omega) (grownCap_ge _ _ _ _)
      simpa using this
/-- the zero type behind a row: nothing that was there has changed -/
theorem app_zero {d : Dice} {w w' : World} {base sb : Nat} {v v' : Value} {R : List Rw} (hd : DiceAt d w) (hown : OwnL rwEnc tpT w base v R) (hsp : Spare0 w v) (hx : CellsAt w sb 0 [.string ⟨#[]⟩, .slice none 0 0]) (hl : R.length ≤ 1000) (ty : TypeId)
    (hr : (Builtin.append_ #[42, 42] ty #[v, .slice (some ⟨sb, 0, none⟩) 1 1]).run Tryd.prog w = .ok v' w') : AD d w w' := by
  obtain ⟨i0, hi0, hz0, hz1, hz2⟩ := info_parts infoTp
  have hnews : ∀ j u, (Rw.cells rw0)[j]? = some u → w.cell? ((⟨sb, 0, none⟩ : Addr).add j) = some u := fun j u hj => by rw [add_lit]; exact hx j u hj
  have hlen : (Rw.cells rw0).length = 1 * i0.size := by rw [hz1]; rfl
  have hlow := dcLow hd
  have hfr : ∀ (o : Obj), AD d w (w.drew.alloc o) := fun o => Dr.of_below (((Below.refl _ _).drew).trans (below_box w.drew o)) hlow
  obtain ⟨hxl, ⟨rfl, hn⟩ | ⟨g, cap, cur, rfl, hbg, hg, hnc, hcm, hcs, htake⟩⟩ := hown
  · have h := run_append_nil (P := Tryd.prog) w 42 ty tpT i0 _ Tryd.underlying42 hi0 hz0 ⟨sb, 0, none⟩ 1 1 (Rw.cells rw0) hlen hnews (by omega) (by omega) (by rw [hz2]; omega)
    rw [hr] at h
    injection h with h1 h2
    subst h1; subst h2
    exact hfr _
  · by_cases hroom : R.length + 1 ≤ cap
    · have hcs2 : cur.size = cap * 2 := hcs
      have hfit : R.length * i0.size + (Rw.cells rw0).length ≤ cur.size := by rw [hlen, hz1, hcs2]; omega
      have h := run_append_room (P := Tryd.prog) w 42 ty tpT i0 Tryd.underlying42 hi0 g R.length cap cur hg ⟨sb, 0, none⟩ 1 1 (Rw.cells rw0) hlen hnews (fun u hu => rwEnc.one rw0 u hu) hroom hfit
      rw [hr] at h
      injection h with h1 h2
      subst h1; subst h2
      obtain ⟨cur', hg', _, hsp'⟩ := hsp g R.length cap rfl
      rw [hg] at hg'
      injection hg' with hg'
      injection hg' with hg' _ _
      subst hg'
      have hsame : (cur.toList.take (R.length * i0.size) ++ Rw.cells rw0 ++ cur.toList.drop (R.length * i0.size + (Rw.cells rw0).length)).toArray = cur := by
        apply Array.ext'
        have h0 := hsp' (R.length * 2) (by omega) (by omega)
        have h1 := hsp' (R.length * 2 + 1) (by omega) (by omega)
        have e0 : zc2 (R.length * 2) = .string ⟨#[]⟩ := by unfold zc2; rw [if_pos (by omega)]
        have e1 : zc2 (R.length * 2 + 1) = .slice none 0 0 := by unfold zc2; rw [if_neg (by omega)]
        rw [e0] at h0
        rw [e1] at h1
        rw [← Array.getElem?_toList] at h0 h1
        rw [hz1]
        show cur.toList.take (R.length * 2) ++ [.string ⟨#[]⟩, .slice none 0 0] ++ cur.toList.drop (R.length * 2 + 2) = cur.toList
        apply List.ext_getElem?
        intro i
        rcases Nat.lt_or_ge i (R.length * 2) with hi | hi
        · rw [List.append_assoc, List.getElem?_append_left (by simp; omega), List.getElem?_take_of_lt hi]
        · rcases Nat.lt_or_ge i (R.length * 2 + 2) with hi2 | hi2
          · rw [List.getElem?_append_left (by simp; omega), List.getElem?_append_right (by simp; omega)]
            have hmin : (cur.toList.take (R.length * 2)).length = R.length * 2 := by simp; omega
            rw [hmin]
            have : i = R.length * 2 ∨ i = R.length * 2 + 1 := by omega
            rcases this with rfl | rfl
            · rw [Nat.sub_self, h0]; rfl
            · rw [show R.length * 2 + 1 - R.length * 2 = 1 by omega, h1]; rfl
          · rw [List.getElem?_append_right (by simp; omega), List.getElem?_drop]
            congr 1
            simp
            omega
      rw [hsame]
      have hheap : (w.setRow g cur).heap = w.heap := by
        apply Array.ext_getElem?
        intro k
        by_cases e : k = g
        · subst e; rw [setRow_heap w k cur cur tpT _ hg, hg]
        · rw [setRow_other w g k _ e]
      have hbl : Below w.heap.size w (w.setRow g cur) := ⟨rfl, rfl, rfl, by rw [hheap]; exact Nat.le_refl _, fun k hk => by rw [hheap]⟩
      exact Dr.of_below hbl hlow
    · have holds : ∀ j u, (rwEnc.all R)[j]? = some u → w.cell? ((⟨g, 0, none⟩ : Addr).add j) = some u := World.ownsRow.cells (base := base) (e := tpT) (size := 2) (n := R.length) ⟨hxl, .inr ⟨g, cap, cur, rfl, hbg, hg, hnc, hcm, hcs, htake⟩⟩ rfl
      have h := run_append_grow (P := Tryd.prog) w 42 ty tpT i0 _ Tryd.underlying42 hi0 hz0 ⟨g, 0, none⟩ R.length cap (rwEnc.all R) (by rw [hz1]; exact hxl) holds ⟨sb, 0, none⟩ 1 1 (Rw.cells rw0) hlen hnews (by omega) (by omega) (growslice_fits (by omega) (by rw [hz2]; omega))
      rw [hr] at h
      injection h with h1 h2
      subst h1; subst h2
      exact hfr _
end Go.Proofs.YthikdkeanndidaaDoor

/-
  CONTRACT: the types that statements about facts make.
-/
namespace Go.Proofs.YthikdkeanndidaaDoor
open Go Go.RowKit Go.Maps
set_option linter.unusedVariables false
set_option linter.unusedSimpArgs false
set_option maxRecDepth 1000000

theorem wpList_appZ {w : World} {ops : Array Oper} {rest : List Oper} {o : Oper} {a : Act} {Q : Exit → Act → World → Prop}
    (hgd : o.guard = none) (s x : Operand)
    (ho : o.op = .call { callee := .builtin .append, args := #[s, x], argTypes := #[42, 42] })
    (base : Nat) (v : Value) (R : List Rw) (hs : a.eval s = v) (hown : OwnL rwEnc tpT w base v R) (hsp : Spare0 w v) (sb : Nat) (q : Rw) (hx : a.eval x = .slice (some ⟨sb, 0, none⟩) 1 1) (hc : CellsAt w sb 0 (Rw.cells q))
    (hl : Hid (R.length ≤ 1000)) (hbase : base ≤ w.heap.size)
    (h : ∀ v' w', OwnL rwEnc tpT w' base v' (R ++ [q]) → Spare0 w' v' → w.grownBy w' v.ownBlock → (v'.ownBlock = v.ownBlock ∨ v'.ownBlock = some w.heap.size) → wpList Tryd.prog ops Q rest (a.put o.dst v') w') : wpList Tryd.prog ops Q (o :: rest) a w := by
  obtain ⟨i0, hi0, hz0, hz1, hz2⟩ := info_parts infoTp
  have hl' := hl.out
  refine wpList_plain hgd fun K hK => ?_
  obtain ⟨v', w', hr, h2, h3, h4, h5⟩ := run_append_own_at (P := Tryd.prog) w base 42 o.type tpT i0 (.agg #[.string ⟨#[]⟩, .slice none 0 0]) 2 40 Tryd.underlying42 hi0 hz0 hz1 hz2 rfl (by decide) v R.length (rwEnc.all R) hown ⟨sb, 0, none⟩ 1 1 (Rw.cells q) rfl (fun j u hj => by rw [add_lit]; exact hc j u hj) (fun u hu => rwEnc.one q u hu) (by unfold maxLen; omega) (by omega) hbase
  have hz := app_spare hown hsp hc hl' o.type hr
  unfold Oper.wp execOp
  simp only [ho, resolve, invoke, builtin, Sem.run_bind, Sem.run_pure, Result.andThen_ok, List.map_toArray, List.map_cons, List.map_nil, hs, hx, hr]
  refine hK _ _ (h v' w' ?_ hz h3 h5)
  unfold OwnL
  rw [List.length_append, rwEnc.all_append, show rwEnc.all [q] = Rw.cells q by simp [Enc.all, rwEnc]]
  exact h2
/-- types that dice made, in a row of their own -/
structure TpsOwn (d : Dice) (base : Nat) (w : World) (v : Value) (R : List Rw) (l : List Tp) : Prop where
  row : TRow w base v R l
  spare : Spare0 w v
  few : l.length ≤ 3
  made : ∀ t ∈ l, MadeT 2 t
  low : d.D < base ∧ base ≤ w.heap.size
theorem TpsOwn.ad {d : Dice} {base : Nat} {w w' : World} {v : Value} {R : List Rw} {l : List Tp} (h : TpsOwn d base w v R l) (hl : AD d w w') : TpsOwn d base w' v R l :=
  ⟨h.row.dr hl h.low.1 (Nat.le_refl _), h.spare.keep (fun g hg => hl.block g (OwnL.ltO h.row.own g hg).2 (by have := (OwnL.ltO h.row.own g hg).1; have := h.low.1; omega)), h.few, h.made, h.low.1, Nat.le_trans h.low.2 hl.size⟩
set_option maxHeartbeats 8000000 in
/-- types -/
theorem types_any (d : Dice) (w : World) (hd : DiceAt d w) :
    Calls Tryd.prog 44 #[.pointer (some ⟨d.D, 0, none⟩)] w fun e w' => ∃ (v : Value) (R : List Rw) (l : List Tp), e = .returned v ∧ TpsOwn d w.heap.size w' v R l ∧ Thrown d w w' := by
  have HD := Lib.hid hd
  have HLW := Lib.hid (dcLow hd)
  clear hd
  go_enter Tryd.func44, Tryd.ntmps44
  go_wp2_with fail
  refine (next_any d 4 _ HD.out (by omega) (by omega)).mono ?_
  rintro e w1 ⟨k0, hk0, rfl, ht1, -⟩
  have HT1 := Lib.hid ht1
  clear ht1
  go_wp2_with fail
  go_loopw [3, 4] (fun v i wr => ∃ (k : Nat) (R : List Rw) (l : List Tp), i = .int .i64 k ∧ k + l.length ≤ 3 ∧ Hid (Thrown d w wr) ∧ Hid (TpsOwn d w.heap.size wr v R l)) (fun _ i _ => (intOf i).toNat)
  case atStart => exact ⟨k0, [], [], rfl, by simp; omega, HT1.out, ⟨TRow.isNil _ _, Spare0.isNil _, by simp, (fun t h => by cases h), HLW.out.1, HT1.out.but.size⟩⟩
  case round =>
    clear HT1
    obtain ⟨k, R, l, rfl, hkl, HT, HO⟩ := hrel
    obtain ⟨wx, rfl⟩ : ∃ x, x = wr := ⟨wr, rfl⟩
    by_cases hk : 0 < k
    · have hki : (0 : Int) < (k : Int) := by omega
      have ek : IntKind.i64.wrap ((k : Int) - 1) = ((k - 1 : Nat) : Int) := by rw [IntWalk.i64_in _ (by omega)]; omega
      obtain ⟨pz, nz, cz, rfl⟩ := HO.out.row.slice
      go_wp2_with fail
      refine (dtype_any d 2 (by omega) _ HT.out.good).mono ?_
      rintro e w5 ⟨q, t, rfl, hq, hm, ht⟩
      have had := Dr.of_thrown ht (by have := HO.out.low; omega)
      have hO5 := HO.out.ad had
      have hb6 := below_box w5 (.cells #[.string q.name, .slice q.p q.n q.cap] tpT)
      have hsl6 : CellsAt (w5.alloc (.cells #[.string q.name, .slice q.p q.n q.cap] tpT)) w5.heap.size 0 (Rw.cells q) := cellsAt_alloc w5 (Rw.cells q) tpT
      have hT5 := HT.out.trans ht
      have HO6 := Lib.hid (hO5.ad (Dr.of_below hb6 (dcLow hT5.good)))
      have HSL := Lib.hid hsl6
      have HQ6 : Hid (IsP (offRow w.heap.size (.slice pz nz cz)) (w5.alloc (.cells #[.string q.name, .slice q.p q.n q.cap] tpT)) q t) := (hq.later hb6).mono (fun k hk => ⟨by have := HO.out.low; omega, fun e => by have := (OwnL.ltO HO.out.row.own k e.symm).2; omega⟩)
      have HT6 : Hid (Thrown d w (w5.alloc (.cells #[.string q.name, .slice q.p q.n q.cap] tpT))) := hT5.trans (thrown_allocD hT5.good _)
      have HM := Lib.hid hm
      have HFEW : Hid (R.length ≤ 1000) := by rw [HO.out.row.len]; show _ ≤ _; omega
      obtain ⟨w6, hw6⟩ : ∃ y, w5.alloc (.cells #[.string q.name, .slice q.p q.n q.cap] tpT) = y := ⟨_, rfl⟩
      rw [hw6] at HO6 HSL HQ6 HT6
      have HLEN := Lib.hid HO.out.row.len
      clear had hO5 hb6 hsl6 hT5 hq hm ht HT HO
      go_wp2_with (at_builtin; refine wpList_appZ rfl (.tmp 11) (.tmp 14) rfl w.heap.size (.slice pz nz cz) R ?_ ?_ ?_ w5.heap.size q ?_ ?_ ?_ ?_ ?_)
      · rfl
      · exact HO6.out.row.own
      · exact HO6.out.spare
      · rfl
      · exact HSL.out
      · exact HFEW
      · exact HO6.out.low.2
      intro v7 w7 hown7 hsp7 hg7 hat7
      have hrow7 := HO6.out.row.push hg7 hown7 hat7 HQ6.out (fun A q t h => h.here)
      have hbl : Below w.heap.size w6 w7 := (Below.refl _ _).grown hg7 HO6.out.low.2 (fun k hk => (OwnL.ltO HO6.out.row.own k hk).1)
      have HT7 : Hid (Thrown d w w7) := ((Dr.of_thrown HT6.out HLW.out.1).trans (Dr.of_below hbl HLW.out)).thrown HD.out
      have HO7 : Hid (TpsOwn d w.heap.size w7 v7 (R ++ [q]) (l ++ [t])) := ⟨hrow7, hsp7, by simp; omega, (fun u hu => by
        rcases List.mem_append.1 hu with h | h
        · exact HO6.out.made u h
        · rw [List.mem_singleton] at h; rw [h]; exact HM.out), HLW.out.1, Nat.le_trans HO6.out.low.2 hbl.size⟩
      clear hown7 hsp7 hg7 hat7 hrow7 hbl HO6 HSL HQ6 HT6 hw6
      go_wp2_with fail
      go_roundw
      case rel => exact ⟨k - 1, R ++ [q], l ++ [t], by go_num, by simp; omega, HT7.out, HO7.out⟩
      case measure => simp [intOf]; omega
    · obtain rfl : k = 0 := by omega
      go_wp2_with fail
      go_ret
      exact ⟨_, R, l, rfl, HO.out, HT.out⟩
end Go.Proofs.YthikdkeanndidaaDoor

/-
  CONTRACT: the type parameters that statements about facts make.
-/
namespace Go.Proofs.YthikdkeanndidaaDoor
open Go Go.RowKit Go.Maps
set_option linter.unusedVariables false
set_option linter.unusedSimpArgs false
set_option maxRecDepth 1000000

theorem infoPm : (Tryd.prog.info? 84).map (fun i => (i.zero, i.size, i.bytes)) = some (some (.agg #[.string ⟨#[]⟩, .string ⟨#[]⟩]), encPm.size, 32) := by kernel_rfl
/-- parameters that dice made, in a row of their own -/
structure PmsOwn (d : Dice) (base : Nat) (w : World) (v : Value) (ps : List Pm) : Prop where
  row : OwnL encPm pmT w base v ps
  few : ps.length ≤ 2
  size : ∀ x ∈ ps, x.name.size ≤ 7 ∧ x.bound.size ≤ 7
  low : d.D < base ∧ base ≤ w.heap.size
theorem PmsOwn.ad {d : Dice} {base : Nat} {w w' : World} {v : Value} {ps : List Pm} (h : PmsOwn d base w v ps) (hl : AD d w w') : PmsOwn d base w' v ps :=
  ⟨own_dr h.row hl h.low.1 (Nat.le_refl _), h.few, h.size, h.low.1, Nat.le_trans h.low.2 hl.size⟩
theorem PmsOwn.slice {d : Dice} {base : Nat} {w : World} {v : Value} {ps : List Pm} (h : PmsOwn d base w v ps) : ∃ p c, v = .slice p ps.length c := by
  obtain ⟨p, c, e, -⟩ := h.row.sla
  exact ⟨p, c, e⟩
theorem twoTU : ∀ s ∈ ([⟨#[84]⟩, ⟨#[85]⟩] : List ByteArray), s.size ≤ 7 := by decide
theorem twoSh : ∀ s ∈ ([⟨#[]⟩, ⟨#[97, 58, 58, 83, 104, 111, 119]⟩] : List ByteArray), s.size ≤ 7 := by decide
set_option maxHeartbeats 8000000 in
/-- params -/
theorem params_any (d : Dice) (w : World) (hd : DiceAt d w) :
    Calls Tryd.prog 43 #[.pointer (some ⟨d.D, 0, none⟩)] w fun e w' => ∃ (v : Value) (ps : List Pm), e = .returned v ∧ PmsOwn d w.heap.size w' v ps ∧ Thrown d w w' := by
  have HD := Lib.hid hd
  have HLW := Lib.hid (dcLow hd)
  clear hd
  go_enter Tryd.func43, Tryd.ntmps43
  go_wp2_with fail
  refine (next_any d 3 _ HD.out (by omega) (by omega)).mono ?_
  rintro e w1 ⟨k0, hk0, rfl, ht1, -⟩
  have HT1 := Lib.hid ht1
  clear ht1
  go_wp2_with fail
  go_loopw [3, 4] (fun v i wr => ∃ (k : Nat) (ps : List Pm), i = .int .i64 k ∧ k + ps.length ≤ 2 ∧ Hid (Thrown d w wr) ∧ Hid (PmsOwn d w.heap.size wr v ps)) (fun _ i _ => (intOf i).toNat)
  case atStart => exact ⟨k0, [], rfl, by simp; omega, HT1.out, ⟨OwnL.isNil _ _ _ _, by simp, (fun t h => by cases h), HLW.out.1, HT1.out.but.size⟩⟩
  case round =>
    clear HT1
    obtain ⟨k, ps, rfl, hkl, HT, HO⟩ := hrel
    obtain ⟨wx, rfl⟩ : ∃ x, x = wr := ⟨wr, rfl⟩
    by_cases hk : 0 < k
    · have hki : (0 : Int) < (k : Int) := by omega
      have ek : IntKind.i64.wrap ((k : Int) - 1) = ((k - 1 : Nat) : Int) := by rw [IntWalk.i64_in _ (by omega)]; omega
      obtain ⟨pz, cz, rfl⟩ := HO.out.slice
      have hT2 := HT.out.trans (thrown_allocD HT.out.good (.cells #[.string ⟨#[84]⟩, .string ⟨#[85]⟩] 9))
      have hO2 := HO.out.ad (Dr.of_below (below_box wx (.cells #[.string ⟨#[84]⟩, .string ⟨#[85]⟩] 9)) (dcLow HT.out.good))
      have HOF := Lib.hid (of_any d 7 2 2 wx.heap.size 0 _ hT2.good (by omega) (by omega) (shorts_alloc wx _ 7 9 twoTU) (by have := (dcLow HT.out.good).1; omega))
      have HT2 := Lib.hid hT2
      have HO2 := Lib.hid hO2
      clear hT2 hO2 HT HO
      go_wp2_with fail
      refine HOF.out.mono ?_
      rintro e w3 ⟨s1, hs1, rfl, ht3⟩
      have hO3 := HO2.out.ad (Dr.of_thrown ht3 (dcLow HT2.out.good).1)
      have hT3 := HT2.out.trans ht3
      have hT4 := hT3.trans (thrown_allocD hT3.good (.cells #[.string ⟨#[]⟩, .string ⟨#[97, 58, 58, 83, 104, 111, 119]⟩] 9))
      have hO4 := hO3.ad (Dr.of_below (below_box w3 (.cells #[.string ⟨#[]⟩, .string ⟨#[97, 58, 58, 83, 104, 111, 119]⟩] 9)) (dcLow hT3.good))
      have HOG := Lib.hid (of_any d 7 2 2 w3.heap.size 0 _ hT4.good (by omega) (by omega) (shorts_alloc w3 _ 7 9 twoSh) (by have := (dcLow hT3.good).1; omega))
      have HT4 := Lib.hid hT4
      have HO4 := Lib.hid hO4
      have HS1 := Lib.hid hs1
      clear hO3 hT3 hT4 hO4 ht3 hs1 HT2 HO2 HOF
      go_wp2_with fail
      refine HOG.out.mono ?_
      rintro e w5 ⟨s2, hs2, rfl, ht5⟩
      have hO5 := HO4.out.ad (Dr.of_thrown ht5 (dcLow HT4.out.good).1)
      have hT5 := HT4.out.trans ht5
      have hT6 := hT5.trans (thrown_allocD hT5.good (.cells #[.string s1, .string s2] pmT))
      have hO6 := hO5.ad (Dr.of_below (below_box w5 (.cells #[.string s1, .string s2] pmT)) (dcLow hT5.good))
      have hsl6 : CellsAt (w5.alloc (.cells #[.string s1, .string s2] pmT)) w5.heap.size 0 (encPm.all [⟨s1, s2⟩]) := cellsAt_alloc w5 [.string s1, .string s2] pmT
      obtain ⟨w6, hw6⟩ : ∃ y, w5.alloc (.cells #[.string s1, .string s2] pmT) = y := ⟨_, rfl⟩
      rw [hw6] at hT6 hO6 hsl6
      have HT6 := Lib.hid hT6
      have HO6 := Lib.hid hO6
      have HSL := Lib.hid hsl6
      have HS2 := Lib.hid hs2
      have R1 : Hid (ps.length + ([⟨s1, s2⟩] : List Pm).length ≤ maxLen) := by unfold Hid maxLen; simp; omega
      have R2 : Hid ((ps.length + ([⟨s1, s2⟩] : List Pm).length) * 32 ≤ 140737488355328) := by unfold Hid; simp; omega
      clear hO5 hT5 hT6 hO6 hsl6 ht5 hs2 HT4 HO4 HOG
      go_wp2_with (at_builtin; refine wpList_appendL (E := encPm) Tryd.underlying40 infoPm rfl rfl (.tmp 11) (.tmp 19) rfl w.heap.size (.slice pz ps.length cz) ps ?_ ?_ (some ⟨w5.heap.size, 0, none⟩) 1 1 [⟨s1, s2⟩] ?_ ?_ ?_ ?_ ?_ ?_ ?_ ?_)
      · rfl
      · exact HO6.out.row
      · rfl
      · rfl
      · exact fun _ => ⟨w5.heap.size, 0, rfl, HSL.out⟩
      · exact fun e => by cases e
      · exact R1
      · exact R2
      · exact HO6.out.low.2
      intro v7 w7 hown7 hbl
      have HT7 : Hid (Thrown d w w7) := ((Dr.of_thrown HT6.out HLW.out.1).trans (Dr.of_below hbl HLW.out)).thrown HD.out
      have HO7 : Hid (PmsOwn d w.heap.size w7 v7 (ps ++ [⟨s1, s2⟩])) := ⟨hown7, by simp; omega, (fun u hu => by
        rcases List.mem_append.1 hu with h | h
        · exact HO6.out.size u h
        · rw [List.mem_singleton] at h; rw [h]; exact ⟨HS1.out, HS2.out⟩), HLW.out.1, Nat.le_trans HO6.out.low.2 hbl.size⟩
      clear hown7 hbl HO6 HSL HT6 hw6
      go_wp2_with fail
      go_roundw
      case rel => exact ⟨k - 1, ps ++ [(⟨s1, s2⟩ : Pm)], by go_num, by simp; omega, HT7.out, HO7.out⟩
      case measure => simp [intOf]; omega
    · obtain rfl : k = 0 := by omega
      go_wp2_with fail
      go_ret
      exact ⟨_, ps, rfl, HO.out, HT.out⟩
end Go.Proofs.YthikdkeanndidaaDoor

/-
  CONTRACT: the signatures that statements about facts make.
-/
namespace Go.Proofs.YthikdkeanndidaaDoor
open Go Go.RowKit Go.Maps
set_option linter.unusedVariables false
set_option linter.unusedSimpArgs false
set_option maxRecDepth 1000000

abbrev awS (d : Dice) (s : Nat) : Nat → Prop := fun k => k ≠ d.D ∧ s ≤ k
def tpZ : Tp := .mk ⟨#[]⟩ []
def names3 : List ByteArray := [⟨#[120]⟩, ⟨#[58, 97, 58, 58, 66]⟩, ⟨#[]⟩]
/-- a type that dice made, or none -/
def TpOk (t : Tp) : Prop := MadeT 2 t ∨ t = tpZ
structure PmsOk (ps : List Pm) : Prop where
  few : ps.length ≤ 2
  size : ∀ x ∈ ps, x.name.size ≤ 7 ∧ x.bound.size ≤ 7
structure TpsOk (l : List Tp) : Prop where
  few : l.length ≤ 3
  made : ∀ t ∈ l, MadeT 2 t
theorem SlA.adZ {α : Type} {E : Enc α} {d : Dice} {s : Nat} {w w' : World} {v : Value} {L : List α} (h : SlA E (awS d s) w v L) (hl : AD d w w') : SlA E (awS d s) w' v L := h.blocksO (fun k hk hlt => hl.block k hlt hk.1)
theorem IsP.ad {d : Dice} {s : Nat} {w w' : World} {q : Rw} {t : Tp} (h : IsP (awS d s) w q t) (hl : AD d w w') : IsP (awS d s) w' q t := h.keepB (fun k hk hlt => hl.block k hlt hk.1)
theorem IsPs.ad {d : Dice} {s : Nat} {w w' : World} {v : Value} {l : List Tp} (h : IsPs (awS d s) w v l) (hl : AD d w w') : IsPs (awS d s) w' v l := by
  obtain ⟨p, c, rfl, h2⟩ := h.shape
  exact ((IsP.node (s := ⟨#[]⟩) h2).ad hl).parts.2
/-! ### kinds -/
def tyPms (d : Dice) (s : Nat) : Ty (AD d) := ⟨{y : Option Addr × Nat × List Pm // PmsOk y.2.2}, ⟨⟨(none, 0, []), ⟨by decide, fun x h => by cases h⟩⟩⟩, fun y => .slice y.1.1 y.1.2.2.length y.1.2.1, fun y w => SlA encPm (awS d s) w (.slice y.1.1 y.1.2.2.length y.1.2.1) y.1.2.2, fun _ _ _ hl h => h.adZ hl⟩
theorem tyPms_f (d : Dice) (s : Nat) (p : Option Addr) (c : Nat) (ps : List Pm) (h : PmsOk ps) : (tyPms d s).f ⟨(p, c, ps), h⟩ = .slice p ps.length c := rfl
def tyTps (d : Dice) (s : Nat) : Ty (AD d) := ⟨{y : Option Addr × Nat × List Tp // TpsOk y.2.2}, ⟨⟨(none, 0, []), ⟨by decide, fun x h => by cases h⟩⟩⟩, fun y => .slice y.1.1 y.1.2.2.length y.1.2.1, fun y w => IsPs (awS d s) w (.slice y.1.1 y.1.2.2.length y.1.2.1) y.1.2.2, fun _ _ _ hl h => h.ad hl⟩
theorem tyTps_f (d : Dice) (s : Nat) (p : Option Addr) (c : Nat) (l : List Tp) (h : TpsOk l) : (tyTps d s).f ⟨(p, c, l), h⟩ = .slice p l.length c := rfl
def tyTrow (d : Dice) (s : Nat) : Ty (AD d) := ⟨{y : (Option Addr × Nat × Nat) × Nat × List Rw × List Tp // s ≤ y.2.1}, ⟨⟨((none, 0, 0), s, [], []), Nat.le_refl _⟩⟩, fun y => .slice y.1.1.1 y.1.1.2.1 y.1.1.2.2, fun y w => TpsOwn d y.1.2.1 w (.slice y.1.1.1 y.1.1.2.1 y.1.1.2.2) y.1.2.2.1 y.1.2.2.2, fun _ _ _ hl h => h.ad hl⟩
theorem tyTrow_f (d : Dice) (s : Nat) (p : Option Addr) (n c B : Nat) (R : List Rw) (l : List Tp) (h : s ≤ B) : (tyTrow d s).f ⟨((p, n, c), B, R, l), h⟩ = .slice p n c := rfl
/-- the first of some types -/
structure HdAt (d : Dice) (s : Nat) (g : Nat) (q : Rw) (t : Tp) (w : World) : Prop where
  cells : CellsAt w g 0 (Rw.cells q)
  is : IsP (awS d s) w q t
  lt : g < w.heap.size
  ne : awS d s g
theorem HdAt.ad {d : Dice} {s : Nat} {g : Nat} {q : Rw} {t : Tp} {w w' : World} (h : HdAt d s g q t w) (hl : AD d w w') : HdAt d s g q t w' :=
  ⟨fun j v hv => by rw [World.cell?_of_block (w := w) (hl.block g h.lt h.ne.1)]; exact h.cells j v hv, h.is.ad hl, Nat.lt_of_lt_of_le h.lt hl.size, h.ne⟩
def tyHd (d : Dice) (s : Nat) : Ty (AD d) := ⟨{y : (Nat × Nat × Nat) × Rw × Tp // 0 < y.1.2.1 ∧ TpOk y.2.2}, ⟨⟨((0, 1, 1), rw0, tpZ), by decide, .inr rfl⟩⟩, fun y => .slice (some ⟨y.1.1.1, 0, none⟩) y.1.1.2.1 y.1.1.2.2, fun y w => HdAt d s y.1.1.1 y.1.2.1 y.1.2.2 w, fun _ _ _ hl h => h.ad hl⟩
theorem tyHd_f (d : Dice) (s : Nat) (g n c : Nat) (q : Rw) (t : Tp) (h : 0 < n ∧ TpOk t) : (tyHd d s).f ⟨((g, n, c), q, t), h⟩ = .slice (some ⟨g, 0, none⟩) n c := rfl
def tyHp (d : Dice) (s : Nat) : Ty (AD d) := ⟨{y : Nat × Rw × Tp // TpOk y.2.2}, ⟨⟨(0, rw0, tpZ), .inr rfl⟩⟩, fun y => .pointer (some ⟨y.1.1, 0, none⟩), fun y w => HdAt d s y.1.1 y.1.2.1 y.1.2.2 w, fun _ _ _ hl h => h.ad hl⟩
theorem tyHp_f (d : Dice) (s : Nat) (g : Nat) (q : Rw) (t : Tp) (h : TpOk t) : (tyHp d s).f ⟨(g, q, t), h⟩ = .pointer (some ⟨g, 0, none⟩) := rfl
def tyRt (d : Dice) (s : Nat) : Ty (AD d) := ⟨{y : Rw × Tp // TpOk y.2}, ⟨⟨(rw0, tpZ), .inr rfl⟩⟩, fun y => .agg #[.string y.1.1.name, .slice y.1.1.p y.1.1.n y.1.1.cap], fun y w => IsP (awS d s) w y.1.1 y.1.2, fun _ _ _ hl h => h.ad hl⟩
theorem tyRt_f (d : Dice) (s : Nat) (q : Rw) (t : Tp) (h : TpOk t) : (tyRt d s).f ⟨(q, t), h⟩ = .agg #[.string q.name, .slice q.p q.n q.cap] := rfl
structure NmAt (d : Dice) (s : Nat) (b : Nat) (w : World) : Prop where
  cells : CellsAt w b 0 (encN.all names3)
  lt : b < w.heap.size
  ne : awS d s b
theorem NmAt.ad {d : Dice} {s : Nat} {b : Nat} {w w' : World} (h : NmAt d s b w) (hl : AD d w w') : NmAt d s b w' :=
  ⟨fun j v hv => by rw [World.cell?_of_block (w := w) (hl.block b h.lt h.ne.1)]; exact h.cells j v hv, Nat.lt_of_lt_of_le h.lt hl.size, h.ne⟩
def tyNm3 (d : Dice) (s : Nat) : Ty (AD d) := ⟨{b : Nat // True}, ⟨⟨0, trivial⟩⟩, fun b => .slice (some ⟨b.1, 0, none⟩) 3 3, fun b w => NmAt d s b.1 w, fun _ _ _ hl h => h.ad hl⟩
theorem tyNm3_f (d : Dice) (s : Nat) (b : Nat) (h : True) : (tyNm3 d s).f ⟨b, h⟩ = .slice (some ⟨b, 0, none⟩) 3 3 := rfl
def tyNmS (d : Dice) (s : Nat) : Ty (AD d) := ⟨{y : Nat × Nat // y.2 ≤ 3}, ⟨⟨(0, 0), by decide⟩⟩, fun y => .slice (some ⟨y.1.1, 0, none⟩) y.1.2 3, fun y w => NmAt d s y.1.1 w, fun _ _ _ hl h => h.ad hl⟩
theorem tyNmS_f (d : Dice) (s : Nat) (b k : Nat) (h : k ≤ 3) : (tyNmS d s).f ⟨(b, k), h⟩ = .slice (some ⟨b, 0, none⟩) k 3 := rfl
structure TwAt (d : Dice) (b : Nat) (w : World) : Prop where
  short : Shorts 7 w (some ⟨b, 0, none⟩) 2
  lt : b < w.heap.size
  ne : b ≠ d.D
theorem TwAt.ad {d : Dice} {b : Nat} {w w' : World} (h : TwAt d b w) (hl : AD d w w') : TwAt d b w' :=
  ⟨fun i hi => by
    obtain ⟨b', o, s, hp, hc, hs⟩ := h.short i hi
    refine ⟨b', o, s, hp, ?_, hs⟩
    injection hp with hp
    injection hp with h1 _ _
    subst h1
    rw [World.cell?_of_block (w := w) (a := ⟨b, o + i, none⟩) (hl.block b h.lt h.ne)]
    exact hc, Nat.lt_of_lt_of_le h.lt hl.size, h.ne⟩
def tyTw (d : Dice) : Ty (AD d) := ⟨{b : Nat // True}, ⟨⟨0, trivial⟩⟩, fun b => .slice (some ⟨b.1, 0, none⟩) 2 2, fun b w => TwAt d b.1 w, fun _ _ _ hl h => h.ad hl⟩
theorem tyTw_f (d : Dice) (b : Nat) (h : True) : (tyTw d).f ⟨b, h⟩ = .slice (some ⟨b, 0, none⟩) 2 2 := rfl
def tyS7 (d : Dice) : Ty (AD d) := tyOf (AD d) (α := {s : ByteArray // s.size ≤ 7}) ⟨⟨⟨#[]⟩, by decide⟩⟩ (fun s => .string s.1)
theorem tyS7_f (d : Dice) (s : ByteArray) (h : s.size ≤ 7) : (tyS7 d).f ⟨s, h⟩ = .string s := rfl
theorem pos8 : 0 < 8 := by decide
theorem pos4 : 0 < 4 := by decide
theorem rel_params {d : Dice} {W : World} {s : Nat} (hd : DiceAt d W) (hsW : s ≤ W.heap.size) :
    AD d W W ∧ Calls Tryd.prog 43 #[.pointer (some ⟨d.D, 0, none⟩)] W (fun e w'' => ∃ x, e = .returned ((tyPms d s).f x) ∧ AD d W w'' ∧ (tyPms d s).φ x w'') := by
  refine ⟨AD.refl' _ _, (params_any d W hd).mono ?_⟩
  rintro e w'' ⟨v, ps, rfl, ho, ht⟩
  obtain ⟨p, c, rfl, hs⟩ := ho.row.sla.shape
  exact ⟨⟨(p, c, ps), ho.few, ho.size⟩, rfl, Dr.of_thrown ht (dcLow hd).1, hs.mono (fun k hk => by have := (dcLow hd).1; exact ⟨by omega, by omega⟩)⟩
theorem rel_types {d : Dice} {W : World} {s : Nat} (hd : DiceAt d W) (hsW : s ≤ W.heap.size) :
    AD d W W ∧ Calls Tryd.prog 44 #[.pointer (some ⟨d.D, 0, none⟩)] W (fun e w'' => ∃ x, e = .returned ((tyTps d s).f x) ∧ AD d W w'' ∧ (tyTps d s).φ x w'') := by
  refine ⟨AD.refl' _ _, (types_any d W hd).mono ?_⟩
  rintro e w'' ⟨v, R, l, rfl, ho, ht⟩
  obtain ⟨p, c, rfl, hs⟩ := ho.row.fin
  exact ⟨⟨(p, c, l), ho.few, ho.made⟩, rfl, Dr.of_thrown ht (dcLow hd).1, hs.mono (fun k hk => by have := (dcLow hd).1; exact ⟨by omega, by omega⟩)⟩
theorem rel_row {d : Dice} {W : World} {s : Nat} (hd : DiceAt d W) (hsW : s ≤ W.heap.size) :
    AD d W W ∧ Calls Tryd.prog 44 #[.pointer (some ⟨d.D, 0, none⟩)] W (fun e w'' => ∃ x, e = .returned ((tyTrow d s).f x) ∧ AD d W w'' ∧ (tyTrow d s).φ x w'') := by
  refine ⟨AD.refl' _ _, (types_any d W hd).mono ?_⟩
  rintro e w'' ⟨v, R, l, rfl, ho, ht⟩
  obtain ⟨p, n, c, rfl⟩ := ho.row.slice
  exact ⟨⟨((p, n, c), W.heap.size, R, l), hsW⟩, rfl, Dr.of_thrown ht (dcLow hd).1, ho⟩
theorem rel_of {d : Dice} {W : World} {b : Nat} (hd : DiceAt d W) (hb : TwAt d b W) :
    AD d W W ∧ Calls Tryd.prog 24 #[.pointer (some ⟨d.D, 0, none⟩), .slice (some ⟨b, 0, none⟩) 2 2] W (fun e w'' => ∃ x, e = .returned ((tyS7 d).f x) ∧ AD d W w'' ∧ (tyS7 d).φ x w'') := by
  refine ⟨AD.refl' _ _, (of_any d 7 2 2 b 0 W hd (by omega) (by omega) hb.short hb.ne).mono ?_⟩
  rintro e w'' ⟨s, hs, rfl, ht⟩
  exact ⟨⟨s, hs⟩, rfl, Dr.of_thrown ht (dcLow hd).1, trivial⟩
/-- the zero type behind a row -/
theorem row_zero {d : Dice} {s : Nat} {W : World} {p : Option Addr} {n c B sb : Nat} {R : List Rw} {l : List Tp} (hd : DiceAt d W) (ho : TpsOwn d B W (.slice p n c) R l) (hx : CellsAt W sb 0 [.string ⟨#[]⟩, .slice none 0 0]) (hsB : s ≤ B) (ty : TypeId) :
    ∃ (g n' c' : Nat) (q : Rw) (t : Tp) (W' : World), (Builtin.append_ #[42, 42] ty #[.slice p n c, .slice (some ⟨sb, 0, none⟩) 1 1]).run Tryd.prog W = .ok (.slice (some ⟨g, 0, none⟩) n' c') W' ∧ AD d W W' ∧ 0 < n' ∧ TpOk t ∧ HdAt d s g q t W' := by
  obtain ⟨i0, hi0, hz0, hz1, hz2⟩ := info_parts infoTp
  have hfew := ho.few
  have hlen := ho.row.len
  obtain ⟨v', w', hr, h2, h3, h4, h5⟩ := run_append_own_at (P := Tryd.prog) W B 42 ty tpT i0 (.agg #[.string ⟨#[]⟩, .slice none 0 0]) 2 40 Tryd.underlying42 hi0 hz0 hz1 hz2 rfl (by decide) (.slice p n c) R.length (rwEnc.all R) ho.row.own ⟨sb, 0, none⟩ 1 1 (Rw.cells rw0) rfl (fun j u hj => by rw [add_lit]; exact hx j u hj) (fun u hu => rwEnc.one rw0 u hu) (by unfold maxLen; omega) (by omega) ho.low.2
  have had := app_zero hd ho.row.own ho.spare hx (by omega) ty hr
  have hown : OwnL rwEnc tpT w' B v' (R ++ [rw0]) := by
    unfold OwnL
    rw [List.length_append, rwEnc.all_append, show rwEnc.all [rw0] = Rw.cells rw0 by simp [Enc.all, rwEnc]]
    exact h2
  have hrow := ho.row.push h3 hown h5 (show IsP _ W rw0 tpZ from IsP.leaf _ _ _) (fun A q t h => h.here)
  obtain ⟨_, ⟨_, hn⟩ | ⟨g, cap, cur, hv, hb, _⟩⟩ := id hown
  · simp at hn
  subst hv
  have hgl := OwnL.ltO hown g rfl
  have h0 : 0 < (R ++ [rw0]).length := by simp
  have h0' : 0 < (l ++ [tpZ]).length := by simp
  have hcell : CellsAt w' g 0 (Rw.cells (R ++ [rw0])[0]) := fun j v hv => by
    have hj : j < 2 := by
      rcases Nat.lt_or_ge j 2 with q | q
      · exact q
      · rw [List.getElem?_eq_none (by simpa [Rw.cells] using q)] at hv; cases hv
    obtain ⟨p', c', e, _, _, h4⟩ := hown.sl
    obtain ⟨b, o, e2, hc⟩ := h4 h0
    injection e with e1 _ _
    rw [← e1] at e2
    injection e2 with e2
    injection e2 with e2 e3 _
    subst e2; subst e3
    have := hc.elem 0 h0 j hj v hv
    simpa using this
  refine ⟨g, (R ++ [rw0]).length, cap, (R ++ [rw0])[0], (l ++ [tpZ])[0], w', hr, had, h0, ?_, hcell, (hrow.at_ 0 h0 h0').mono (fun k hk => by have := hk.1; have := ho.low.1; exact ⟨by omega, by omega⟩), hgl.2, by have := ho.low.1; exact ⟨by omega, by omega⟩⟩
  cases l with
  | nil => exact .inr rfl
  | cons t l => exact .inl (ho.made t (by simp))
theorem relAt_appendZ {P : Program} {ops : Array Oper} {o : Oper} {a : Act} {d : Dice} {T : Ty (AD d)} {w w' : World} {s x : Operand} {sT : TypeId} {v u v' : Value} (hgd : o.guard = none)
    (ho : o.op = .call { callee := .builtin .append, args := #[s, x], argTypes := #[sT, sT] }) (hs : a.eval s = v) (hx : a.eval x = u) (hr : (Builtin.append_ #[sT, sT] o.type #[v, u]).run P w = .ok v' w') (h : relUpon P (AD d) T w (.ok (.value v') w')) : relAt P ops (AD d) T o a w := by
  have hw : Region.wanted o (yielded ops a.tmps) = true := by simp [Region.wanted, hgd]
  unfold relAt
  rw [if_pos hw]
  unfold execOp
  simp only [ho, resolve, invoke, builtin, Sem.run_bind, Sem.run_pure, Result.andThen_ok, List.map_toArray, List.map_cons, List.map_nil, hs, hx, hr]
  exact h
/-- a signature -/
structure Sg where
  kind : Int
  params : List Pm
  names : List ByteArray
  args : List Tp
  result : Tp
  trait : ByteArray
structure Sg.Made (x : Sg) : Prop where
  kind : 0 ≤ x.kind ∧ x.kind < 8
  params : PmsOk x.params
  names : ∃ k, k ≤ 3 ∧ x.names = names3.take k
  args : TpsOk x.args
  result : TpOk x.result
  trait : x.trait.size ≤ 7

abbrev sgT : TypeId := 46
/-- a signature as a value -/
def SgA (A : Nat → Prop) (w : World) (v : Value) (x : Sg) : Prop := ∃ (pp np ap : Option Addr) (pc nc ac : Nat) (q : Rw), v = .agg #[.int .i64 x.kind, .slice pp x.params.length pc, .slice np x.names.length nc, .slice ap x.args.length ac, .string q.name, .slice q.p q.n q.cap, .string x.trait] ∧
  SlA encPm A w (.slice pp x.params.length pc) x.params ∧ SlA encN A w (.slice np x.names.length nc) x.names ∧ IsPs A w (.slice ap x.args.length ac) x.args ∧ IsP A w q x.result
theorem SgA.ad {d : Dice} {s : Nat} {w w' : World} {v : Value} {x : Sg} (h : SgA (awS d s) w v x) (hl : AD d w w') : SgA (awS d s) w' v x := by
  obtain ⟨pp, np, ap, pc, nc, ac, q, h1, h2, h3, h4, h5⟩ := h
  exact ⟨pp, np, ap, pc, nc, ac, q, h1, h2.adZ hl, h3.adZ hl, h4.ad hl, h5.ad hl⟩
theorem names_sl {d : Dice} {s b k : Nat} {w : World} (h : NmAt d s b w) (hk : k ≤ 3) : SlA encN (awS d s) w (.slice (some ⟨b, 0, none⟩) (names3.take k).length 3) (names3.take k) := by
  have hl : (names3.take k).length = k := by rw [List.length_take]; show min k 3 = k; omega
  have h3 : SlA encN (awS d s) w (.slice (some ⟨b, 0, none⟩) names3.length 3) names3 := ⟨_, _, rfl, Nat.le_refl _, by decide, fun _ => ⟨b, 0, rfl, h.ne, h.cells⟩⟩
  have := h3.takeN (n := k) hk
  rw [hl]
  exact this
set_option maxHeartbeats 4000000 in
theorem sg_store {w : World} {B : Nat} {u0 u1 u2 u3 u4 u5 u6 : Value} (h : w.heap[B]? = some (.cells #[u0, u1, u2, u3, u4, u5, u6] sgT (0, 0))) (v0 v1 v2 v3 v4 v5 v6 : Value) :
    (w.cell? ⟨B, 0, none⟩ = some u0 ∧ (w.setCell ⟨B, 0, none⟩ v0).cell? ⟨B, 1, none⟩ = some u1 ∧ ((w.setCell ⟨B, 0, none⟩ v0).setCell ⟨B, 1, none⟩ v1).cell? ⟨B, 2, none⟩ = some u2 ∧ (((w.setCell ⟨B, 0, none⟩ v0).setCell ⟨B, 1, none⟩ v1).setCell ⟨B, 2, none⟩ v2).cell? ⟨B, 3, none⟩ = some u3 ∧ ((((w.setCell ⟨B, 0, none⟩ v0).setCell ⟨B, 1, none⟩ v1).setCell ⟨B, 2, none⟩ v2).setCell ⟨B, 3, none⟩ v3).cell? ⟨B, 4, none⟩ = some u4 ∧ (((((w.setCell ⟨B, 0, none⟩ v0).setCell ⟨B, 1, none⟩ v1).setCell ⟨B, 2, none⟩ v2).setCell ⟨B, 3, none⟩ v3).setCell ⟨B, 4, none⟩ v4).cell? ⟨B, 5, none⟩ = some u5 ∧ ((((((w.setCell ⟨B, 0, none⟩ v0).setCell ⟨B, 1, none⟩ v1).setCell ⟨B, 2, none⟩ v2).setCell ⟨B, 3, none⟩ v3).setCell ⟨B, 4, none⟩ v4).setCell ⟨B, 5, none⟩ v5).cell? ⟨B, 6, none⟩ = some u6) ∧ (w.frozen? ⟨B, 0, none⟩ = false ∧ w.frozen? ⟨B, 1, none⟩ = false ∧ w.frozen? ⟨B, 2, none⟩ = false ∧ w.frozen? ⟨B, 3, none⟩ = false ∧ w.frozen? ⟨B, 4, none⟩ = false ∧ w.frozen? ⟨B, 5, none⟩ = false ∧ w.frozen? ⟨B, 6, none⟩ = false) ∧ (((((((w.setCell ⟨B, 0, none⟩ v0).setCell ⟨B, 1, none⟩ v1).setCell ⟨B, 2, none⟩ v2).setCell ⟨B, 3, none⟩ v3).setCell ⟨B, 4, none⟩ v4).setCell ⟨B, 5, none⟩ v5).setCell ⟨B, 6, none⟩ v6).heap[B]? = some (.cells #[v0, v1, v2, v3, v4, v5, v6] sgT (0, 0)) := by
  have e0 := heap_setCell_s w B 0 _ _ v0 h
  have e1 := heap_setCell_s (w.setCell ⟨B, 0, none⟩ v0) B 1 _ _ v1 e0
  have e2 := heap_setCell_s ((w.setCell ⟨B, 0, none⟩ v0).setCell ⟨B, 1, none⟩ v1) B 2 _ _ v2 e1
  have e3 := heap_setCell_s (((w.setCell ⟨B, 0, none⟩ v0).setCell ⟨B, 1, none⟩ v1).setCell ⟨B, 2, none⟩ v2) B 3 _ _ v3 e2
  have e4 := heap_setCell_s ((((w.setCell ⟨B, 0, none⟩ v0).setCell ⟨B, 1, none⟩ v1).setCell ⟨B, 2, none⟩ v2).setCell ⟨B, 3, none⟩ v3) B 4 _ _ v4 e3
  have e5 := heap_setCell_s (((((w.setCell ⟨B, 0, none⟩ v0).setCell ⟨B, 1, none⟩ v1).setCell ⟨B, 2, none⟩ v2).setCell ⟨B, 3, none⟩ v3).setCell ⟨B, 4, none⟩ v4) B 5 _ _ v5 e4
  have e6 := heap_setCell_s ((((((w.setCell ⟨B, 0, none⟩ v0).setCell ⟨B, 1, none⟩ v1).setCell ⟨B, 2, none⟩ v2).setCell ⟨B, 3, none⟩ v3).setCell ⟨B, 4, none⟩ v4).setCell ⟨B, 5, none⟩ v5) B 6 _ _ v6 e5
  refine ⟨⟨(by rw [Lib.cell_of_heap h]; rfl), (by rw [Lib.cell_of_heap e0]; rfl), (by rw [Lib.cell_of_heap e1]; rfl), (by rw [Lib.cell_of_heap e2]; rfl), (by rw [Lib.cell_of_heap e3]; rfl), (by rw [Lib.cell_of_heap e4]; rfl), (by rw [Lib.cell_of_heap e5]; rfl)⟩, ⟨Lib.frozen_of_heap h 0, Lib.frozen_of_heap h 1, Lib.frozen_of_heap h 2, Lib.frozen_of_heap h 3, Lib.frozen_of_heap h 4, Lib.frozen_of_heap h 5, Lib.frozen_of_heap h 6⟩, ?_⟩
  rw [e6]
  simp
theorem load_sg (w : World) (B : Nat) (k : Int) (p1 : Option Addr) (n1 c1 : Nat) (p2 : Option Addr) (n2 c2 : Nat) (p3 : Option Addr) (n3 c3 : Nat) (s4 : ByteArray) (p5 : Option Addr) (n5 c5 : Nat) (s6 : ByteArray) (h : w.heap[B]? = some (.cells #[.int .i64 k, .slice p1 n1 c1, .slice p2 n2 c2, .slice p3 n3 c3, .string s4, .slice p5 n5 c5, .string s6] sgT (0, 0))) :
    (loadVar sgT ⟨B, 0, none⟩).run Tryd.prog w = .ok (.agg #[.int .i64 k, .slice p1 n1 c1, .slice p2 n2 c2, .slice p3 n3 c3, .string s4, .slice p5 n5 c5, .string s6]) w := by
  have c0' : w.cell? ⟨B, 0, none⟩ = some (.int .i64 k) := by rw [Lib.cell_of_heap h]; rfl
  have c1' : w.cell? ⟨B, 1, none⟩ = some (.slice p1 n1 c1) := by rw [Lib.cell_of_heap h]; rfl
  have c2' : w.cell? ⟨B, 2, none⟩ = some (.slice p2 n2 c2) := by rw [Lib.cell_of_heap h]; rfl
  have c3' : w.cell? ⟨B, 3, none⟩ = some (.slice p3 n3 c3) := by rw [Lib.cell_of_heap h]; rfl
  have c4' : w.cell? ⟨B, 4, none⟩ = some (.string s4) := by rw [Lib.cell_of_heap h]; rfl
  have c5' : w.cell? ⟨B, 5, none⟩ = some (.slice p5 n5 c5) := by rw [Lib.cell_of_heap h]; rfl
  have c6' : w.cell? ⟨B, 6, none⟩ = some (.string s6) := by rw [Lib.cell_of_heap h]; rfl
  go_simp
theorem sg_but {w : World} {B : Nat} (v0 v1 v2 v3 v4 v5 v6 : Value) : But (fun a => a.block = B) w (((((((w.setCell ⟨B, 0, none⟩ v0).setCell ⟨B, 1, none⟩ v1).setCell ⟨B, 2, none⟩ v2).setCell ⟨B, 3, none⟩ v3).setCell ⟨B, 4, none⟩ v4).setCell ⟨B, 5, none⟩ v5).setCell ⟨B, 6, none⟩ v6) :=
  (((((((But.setCell (M := fun a => a.block = B) _ _ _ rfl).trans (But.setCell (M := fun a => a.block = B) _ _ _ rfl)).trans (But.setCell (M := fun a => a.block = B) _ _ _ rfl)).trans (But.setCell (M := fun a => a.block = B) _ _ _ rfl)).trans (But.setCell (M := fun a => a.block = B) _ _ _ rfl)).trans (But.setCell (M := fun a => a.block = B) _ _ _ rfl)).trans (But.setCell (M := fun a => a.block = B) _ _ _ rfl))
theorem sg_dr {d : Dice} {w : World} {B : Nat} (hlow : DcLow d B) (v0 v1 v2 v3 v4 v5 v6 : Value) : Dr d B w (((((((w.setCell ⟨B, 0, none⟩ v0).setCell ⟨B, 1, none⟩ v1).setCell ⟨B, 2, none⟩ v2).setCell ⟨B, 3, none⟩ v3).setCell ⟨B, 4, none⟩ v4).setCell ⟨B, 5, none⟩ v5).setCell ⟨B, 6, none⟩ v6) :=
  (((((((set_dr hlow (Nat.le_refl _)).trans (set_dr hlow (Nat.le_refl _))).trans (set_dr hlow (Nat.le_refl _))).trans (set_dr hlow (Nat.le_refl _))).trans (set_dr hlow (Nat.le_refl _))).trans (set_dr hlow (Nat.le_refl _))).trans (set_dr hlow (Nat.le_refl _)))
theorem SlA.but {α : Type} {E : Enc α} {A : Nat → Prop} {M : Addr → Prop} {w w' : World} {v : Value} {L : List α} (h : SlA E A w v L) (hb : But M w w') (hM : ∀ a, M a → ¬ A a.block) : SlA E A w' v L := h.keep (Kp.but hb (fun a ha hm => hM a hm ha))
theorem SgA.but {A : Nat → Prop} {M : Addr → Prop} {w w' : World} {v : Value} {x : Sg} (h : SgA A w v x) (hb : But M w w') (hM : ∀ a, M a → ¬ A a.block) : SgA A w' v x := by
  obtain ⟨pp, np, ap, pc, nc, ac, q, h1, h2, h3, h4, h5⟩ := h
  exact ⟨pp, np, ap, pc, nc, ac, q, h1, h2.but hb hM, h3.but hb hM, h4.but hb hM, h5.but hb hM⟩
theorem SgA.mono {A B : Nat → Prop} {w : World} {v : Value} {x : Sg} (h : SgA A w v x) (hm : ∀ k, A k → B k) : SgA B w v x := by
  obtain ⟨pp, np, ap, pc, nc, ac, q, h1, h2, h3, h4, h5⟩ := h
  exact ⟨pp, np, ap, pc, nc, ac, q, h1, h2.mono hm, h3.mono hm, h4.mono hm, h5.mono hm⟩

structure SlZ (d : Dice) (b : Nat) (w : World) : Prop where
  cells : CellsAt w b 0 [.string ⟨#[]⟩, .slice none 0 0]
  lt : b < w.heap.size
  ne : b ≠ d.D
theorem SlZ.ad {d : Dice} {b : Nat} {w w' : World} (h : SlZ d b w) (hl : AD d w w') : SlZ d b w' :=
  ⟨fun j v hv => by rw [World.cell?_of_block (w := w) (hl.block b h.lt h.ne)]; exact h.cells j v hv, Nat.lt_of_lt_of_le h.lt hl.size, h.ne⟩
def tySlZ (d : Dice) : Ty (AD d) := ⟨{b : Nat // True}, ⟨⟨0, trivial⟩⟩, fun b => .slice (some ⟨b.1, 0, none⟩) 1 1, fun b w => SlZ d b.1 w, fun _ _ _ hl h => h.ad hl⟩
theorem tySlZ_f (d : Dice) (b : Nat) (h : True) : (tySlZ d).f ⟨b, h⟩ = .slice (some ⟨b, 0, none⟩) 1 1 := rfl
abbrev Rsg := (Option Addr × Nat) × (Option Addr × Nat) × (Option Addr × Nat) × Rw × Sg
def sg0 : Sg := ⟨0, [], [], [], tpZ, ⟨#[]⟩⟩
theorem sg0_made : sg0.Made := ⟨⟨by decide, by decide⟩, ⟨by decide, fun x h => by cases h⟩, ⟨0, by decide, rfl⟩, ⟨by decide, fun x h => by cases h⟩, .inr rfl, by decide⟩
def Rsg.v (y : Rsg) : Value := .agg #[.int .i64 y.2.2.2.2.kind, .slice y.1.1 y.2.2.2.2.params.length y.1.2, .slice y.2.1.1 y.2.2.2.2.names.length y.2.1.2, .slice y.2.2.1.1 y.2.2.2.2.args.length y.2.2.1.2, .string y.2.2.2.1.name, .slice y.2.2.2.1.p y.2.2.2.1.n y.2.2.2.1.cap, .string y.2.2.2.2.trait]
def tySg (d : Dice) (s : Nat) : Ty (AD d) := ⟨{y : Rsg // y.2.2.2.2.Made}, ⟨⟨((none, 0), (none, 0), (none, 0), rw0, sg0), sg0_made⟩⟩, fun y => Rsg.v y.1, fun y w => SgA (awS d s) w (Rsg.v y.1) y.1.2.2.2.2, fun _ _ _ hl h => h.ad hl⟩
theorem tySg_f (d : Dice) (s : Nat) (pp : Option Addr) (pc : Nat) (np : Option Addr) (nc : Nat) (ap : Option Addr) (ac : Nat) (q : Rw) (x : Sg) (h : x.Made) : (tySg d s).f ⟨((pp, pc), (np, nc), (ap, ac), q, x), h⟩ = .agg #[.int .i64 x.kind, .slice pp x.params.length pc, .slice np x.names.length nc, .slice ap x.args.length ac, .string q.name, .slice q.p q.n q.cap, .string x.trait] := rfl
set_option maxHeartbeats 8000000 in
/-- signature -/
theorem signature_any (d : Dice) (w : World) (hd : DiceAt d w) :
    Calls Tryd.prog 17 #[.pointer (some ⟨d.D, 0, none⟩)] w fun e w' => ∃ (v : Value) (x : Sg), e = .returned v ∧ SgA (awS d w.heap.size) w' v x ∧ x.Made ∧ Thrown d w w' := by
  have HD := Lib.hid hd
  have HLW := Lib.hid (dcLow hd)
  have ht1 := thrown_allocD hd (.cells #[.int .i64 0, .slice none 0 0, .slice none 0 0, .slice none 0 0, .string ⟨#[]⟩, .slice none 0 0, .string ⟨#[]⟩] sgT)
  have hn1 := heap_alloc_new w (.cells #[.int .i64 0, .slice none 0 0, .slice none 0 0, .slice none 0 0, .string ⟨#[]⟩, .slice none 0 0, .string ⟨#[]⟩] sgT)
  obtain ⟨w1, hw1⟩ : ∃ y, w.alloc (.cells #[.int .i64 0, .slice none 0 0, .slice none 0 0, .slice none 0 0, .string ⟨#[]⟩, .slice none 0 0, .string ⟨#[]⟩] sgT) = y := ⟨_, rfl⟩
  rw [hw1] at ht1 hn1
  have HT1 := Lib.hid ht1
  have HN1 := Lib.hid hn1
  have HGW : Hid (DiceAt d w1.drew) := (Dr.of_below ((Below.refl _ w1).drew) (dcLow ht1.good)).good ht1.good
  clear hd ht1 hn1
  go_enter Tryd.func17, Tryd.ntmps17
  go_wp2_with fail
  apply wp_region_relT (AD.refl' d) (AD.trans' d) 21
  case hm => kernel_rfl
  case hB => kernel_rfl
  simp only [List.take_succ_cons, List.take_zero, List.drop_succ_cons, List.drop_zero]
  apply wpRel_cons (t := tyIs _ _)
  case h1 => (intro W hl hd2; clear hl hd2; unfold relAt; go_simp; exact rel_is (AD.refl' d))
  intro _
  rw [tyIs_f]
  go_simp
  apply wpRel_cons (t := tyNumA d 8 pos8)
  case h1 => (intro W hl hd2; have hg1 := hl.good HGW.out; have hsW : w1.heap.size ≤ W.heap.size := hl.size; clear hl hd2; unfold relAt; go_simp; exact rel_nextA hg1 pos8 (by omega))
  rintro ⟨k1, hk1⟩
  rw [tyNumA_f]
  go_simp
  apply wpRel_cons (t := tyIs _ _)
  case h1 => (intro W hl hd2; clear hl hd2; unfold relAt; go_simp; exact rel_is (AD.refl' d))
  intro _
  rw [tyIs_f]
  go_simp
  apply wpRel_cons (t := tyPms d w1.heap.size)
  case h1 => (intro W hl hd2; have hg1 := hl.good HGW.out; have hsW : w1.heap.size ≤ W.heap.size := hl.size; clear hl hd2; unfold relAt; go_simp; exact rel_params hg1 hsW)
  rintro ⟨⟨pp, pc, ps⟩, hps⟩
  rw [tyPms_f]
  go_simp
  apply wpRel_cons (t := tyNm3 d w1.heap.size)
  case h1 => (intro W hl hd2; have hg1 := hl.good HGW.out; have hsW : w1.heap.size ≤ W.heap.size := hl.size; clear hl hd2; unfold relAt; go_simp; exact ⟨Dr.of_below (below_box W _) (dcLow hg1), ⟨W.heap.size, trivial⟩, rfl, cellsAt_alloc W (encN.all names3) _, by rw [World.size_alloc]; exact Nat.lt_succ_self _, fun e => by have := (dcLow hg1).1; have e2 : W.heap.size = d.D := e; omega, hsW⟩)
  rintro ⟨nb, -⟩
  rw [tyNm3_f]
  go_simp
  apply wpRel_cons (t := tyIs _ _)
  case h1 => (intro W hl hd2; clear hl hd2; unfold relAt; go_simp; exact rel_is (AD.refl' d))
  intro _
  rw [tyIs_f]
  go_simp
  apply wpRel_cons (t := tyNumA d 4 pos4)
  case h1 => (intro W hl hd2; have hg1 := hl.good HGW.out; have hsW : w1.heap.size ≤ W.heap.size := hl.size; clear hl hd2; unfold relAt; go_simp; exact rel_nextA hg1 pos4 (by omega))
  rintro ⟨k6, hk6⟩
  rw [tyNumA_f]
  go_simp
  have hk6i : (k6 : Int) ≤ 3 := by omega
  apply wpRel_cons (t := tyNmS d w1.heap.size)
  case h1 => (intro W hl hd2; have hx := lean_ofR hd2 4 (by kernel_rfl); simp [upd, preAt] at hx; have hx1 : NmAt d w1.heap.size nb W := hx; clear hx; clear hl hd2; unfold relAt; go_simp; exact ⟨AD.refl' d W, ⟨(nb, k6), by omega⟩, rfl, hx1⟩)
  rintro ⟨⟨nb2, k7⟩, hk7⟩
  rw [tyNmS_f]
  go_simp
  apply wpRel_cons (t := tyIs _ _)
  case h1 => (intro W hl hd2; clear hl hd2; unfold relAt; go_simp; exact rel_is (AD.refl' d))
  intro _
  rw [tyIs_f]
  go_simp
  apply wpRel_cons (t := tyTps d w1.heap.size)
  case h1 => (intro W hl hd2; have hg1 := hl.good HGW.out; have hsW : w1.heap.size ≤ W.heap.size := hl.size; clear hl hd2; unfold relAt; go_simp; exact rel_types hg1 hsW)
  rintro ⟨⟨ap, ac, al⟩, hal⟩
  rw [tyTps_f]
  go_simp
  apply wpRel_cons (t := tyIs _ _)
  case h1 => (intro W hl hd2; clear hl hd2; unfold relAt; go_simp; exact rel_is (AD.refl' d))
  intro _
  rw [tyIs_f]
  go_simp
  apply wpRel_cons (t := tyTrow d w1.heap.size)
  case h1 => (intro W hl hd2; have hg1 := hl.good HGW.out; have hsW : w1.heap.size ≤ W.heap.size := hl.size; clear hl hd2; unfold relAt; go_simp; exact rel_row hg1 hsW)
  rintro ⟨⟨⟨rp, rn, rc⟩, rB, rR, rl⟩, hrB⟩
  rw [tyTrow_f]
  go_simp
  apply wpRel_cons (t := tyIs _ _)
  case h1 => (intro W hl hd2; clear hl hd2; unfold relAt; go_simp; exact rel_is (AD.refl' d))
  intro _
  rw [tyIs_f]
  go_simp
  apply wpRel_cons (t := tySlZ d)
  case h1 => (intro W hl hd2; have hg1 := hl.good HGW.out; have hsW : w1.heap.size ≤ W.heap.size := hl.size; clear hl hd2; unfold relAt; go_simp; exact ⟨Dr.of_below (below_box W _) (dcLow hg1), ⟨W.heap.size, trivial⟩, rfl, cellsAt_alloc W [.string ⟨#[]⟩, .slice none 0 0] _, by rw [World.size_alloc]; exact Nat.lt_succ_self _, fun e => by have := (dcLow hg1).1; have e2 : W.heap.size = d.D := e; omega⟩)
  rintro ⟨zb, -⟩
  rw [tySlZ_f]
  go_simp
  apply wpRel_cons (t := tyHd d w1.heap.size)
  case h1 => (
    intro W hl hd2
    have hx := lean_ofR hd2 11 (by kernel_rfl)
    have hy := lean_ofR hd2 13 (by kernel_rfl)
    simp [upd, preAt] at hx hy
    have hx1 : TpsOwn d rB W (.slice rp rn rc) rR rl := hx
    have hy1 : SlZ d zb W := hy
    obtain ⟨g, n', c', q, t, W', hr, had, hn, hok, hh⟩ := row_zero (s := w1.heap.size) (hl.good HGW.out) hx1 hy1.cells hrB 42
    clear hl hd2 hx hy
    exact relAt_appendZ rfl rfl rfl rfl hr ⟨had, ⟨((g, n', c'), q, t), hn, hok⟩, rfl, hh⟩)
  rintro ⟨⟨⟨hg, hn, hc⟩, hq, ht⟩, hnn, htk⟩
  rw [tyHd_f]
  go_simp
  have hnni : (0 : Int) < (hn : Int) := by have h := hnn; simp only at h; omega
  apply wpRel_cons (t := tyHp d w1.heap.size)
  case h1 => (intro W hl hd2; have hx := lean_ofR hd2 14 (by kernel_rfl); simp [upd, preAt] at hx; have hx1 : HdAt d w1.heap.size hg hq ht W := hx; clear hx; clear hl hd2; unfold relAt; go_simp; exact ⟨AD.refl' d W, ⟨(hg, hq, ht), htk⟩, rfl, hx1⟩)
  rintro ⟨⟨ig, iq, it⟩, htk2⟩
  rw [tyHp_f]
  go_simp
  apply wpRel_cons (t := tyRt d w1.heap.size)
  case h1 => (intro W hl hd2; have hx := lean_ofR hd2 15 (by kernel_rfl); simp [upd, preAt] at hx; have hx1 : HdAt d w1.heap.size ig iq it W := hx; have y0 : W.cell? ⟨ig, 0, none⟩ = some (.string iq.name) := hx1.cells 0 _ rfl; have y1 : W.cell? ⟨ig, 1, none⟩ = some (.slice iq.p iq.n iq.cap) := hx1.cells 1 _ rfl; clear hx; clear hl hd2; unfold relAt; go_simp; exact ⟨AD.refl' d W, ⟨(iq, it), htk2⟩, rfl, hx1.is⟩)
  rintro ⟨⟨jq, jt⟩, htk3⟩
  rw [tyRt_f]
  go_simp
  apply wpRel_cons (t := tyIs _ _)
  case h1 => (intro W hl hd2; clear hl hd2; unfold relAt; go_simp; exact rel_is (AD.refl' d))
  intro _
  rw [tyIs_f]
  go_simp
  apply wpRel_cons (t := tyTw d)
  case h1 => (intro W hl hd2; have hg1 := hl.good HGW.out; have hsW : w1.heap.size ≤ W.heap.size := hl.size; clear hl hd2; unfold relAt; go_simp; exact ⟨Dr.of_below (below_box W _) (dcLow hg1), ⟨W.heap.size, trivial⟩, rfl, shorts_alloc W [⟨#[]⟩, ⟨#[97, 58, 58, 83, 104, 111, 119]⟩] 7 _ twoSh, by rw [World.size_alloc]; exact Nat.lt_succ_self _, fun e => by have := (dcLow hg1).1; have e2 : W.heap.size = d.D := e; omega⟩)
  rintro ⟨tb, -⟩
  rw [tyTw_f]
  go_simp
  apply wpRel_cons (t := tyS7 d)
  case h1 => (intro W hl hd2; have hg1 := hl.good HGW.out; have hsW : w1.heap.size ≤ W.heap.size := hl.size; have hx := lean_ofR hd2 18 (by kernel_rfl); simp [upd, preAt] at hx; have hx1 : TwAt d tb W := hx; clear hx; clear hl hd2; unfold relAt; go_simp; exact rel_of hg1 hx1)
  rintro ⟨ts, hts⟩
  rw [tyS7_f]
  go_simp
  apply wpRel_cons (t := tySg d w1.heap.size)
  case h1 => (
    intro W hl hd2
    have h3 := lean_ofR hd2 3 (by kernel_rfl)
    have h7 := lean_ofR hd2 7 (by kernel_rfl)
    have h9 := lean_ofR hd2 9 (by kernel_rfl)
    have h16 := lean_ofR hd2 16 (by kernel_rfl)
    simp [upd, preAt] at h3 h7 h9 h16
    have g3 : SlA encPm (awS d w1.heap.size) W (.slice pp ps.length pc) ps := h3
    have g7 : NmAt d w1.heap.size nb2 W := h7
    have g9 : IsPs (awS d w1.heap.size) W (.slice ap al.length ac) al := h9
    have g16 : IsP (awS d w1.heap.size) W jq jt := h16
    have gn := names_sl g7 hk7
    have hnl : (names3.take k7).length = k7 := by rw [List.length_take]; show min k7 3 = k7; have := hk7; simp only at this; omega
    clear hl hd2 h3 h7 h9 h16
    unfold relAt
    go_simp
    refine ⟨AD.refl' d W, ⟨((pp, pc), (some ⟨nb2, 0, none⟩, 3), (ap, ac), jq, ⟨(k1 : Int), ps, names3.take k7, al, jt, ts⟩), ⟨by show (0 : Int) ≤ k1; omega, by show (k1 : Int) < 8; omega⟩, hps, ⟨k7, hk7, rfl⟩, hal, htk3, hts⟩, ?_, ?_⟩
    · show _ = Rsg.v _
      unfold Rsg.v
      simp only [hnl]
    · exact ⟨pp, some ⟨nb2, 0, none⟩, ap, pc, 3, ac, jq, rfl, g3, gn, g9, g16⟩)
  rintro ⟨⟨⟨pp, pc⟩, ⟨np, nc⟩, ⟨ap, ac⟩, q, x⟩, hx⟩
  rw [tySg_f]
  go_simp
  apply wpRel_nil (Ts := [])
  intro w9 hl hF
  have hfin := hF 20
  simp [upd, preAt] at hfin
  have hfin2 : SgA (awS d w1.heap.size) w9 (.agg #[.int .i64 x.kind, .slice pp x.params.length pc, .slice np x.names.length nc, .slice ap x.args.length ac, .string q.name, .slice q.p q.n q.cap, .string x.trait]) x := hfin
  have hs1 : w1.heap.size = w.heap.size + 1 := by rw [← hw1, World.size_alloc]
  have hn9 := (hl.block w.heap.size (by show w.heap.size < w1.heap.size; omega) (by have := HLW.out.1; omega)).trans HN1.out
  obtain ⟨⟨c0, c1, c2, c3, c4, c5, c6⟩, ⟨g0, g1, g2, g3, g4, g5, g6⟩, hst⟩ := sg_store hn9 (.int .i64 x.kind) (.slice pp x.params.length pc) (.slice np x.names.length nc) (.slice ap x.args.length ac) (.string q.name) (.slice q.p q.n q.cap) (.string x.trait)
  have HLD := Lib.hid (load_sg _ _ _ _ _ _ _ _ _ _ _ _ _ _ _ _ _ hst)
  have HB9 := Lib.hid (sg_but (w := w9) (B := w.heap.size) (.int .i64 x.kind) (.slice pp x.params.length pc) (.slice np x.names.length nc) (.slice ap x.args.length ac) (.string q.name) (.slice q.p q.n q.cap) (.string x.trait))
  have HSG : Hid (SgA (awS d w.heap.size) _ (.agg #[.int .i64 x.kind, .slice pp x.params.length pc, .slice np x.names.length nc, .slice ap x.args.length ac, .string q.name, .slice q.p q.n q.cap, .string x.trait]) x) := (hfin2.but HB9.out (fun a e k => by have e' : a.block = w.heap.size := e; have := k.2; omega)).mono (fun k hk => ⟨hk.1, by have := hk.2; omega⟩)
  have HTF : Hid (Thrown d w _) := (((((Dr.of_thrown HT1.out HLW.out.1).trans (Dr.of_below ((Below.refl _ w1).drew) (HLW.out))).trans (Dr.mono hl (by show w.heap.size ≤ w1.heap.size; omega))).trans (sg_dr (w := w9) HLW.out (.int .i64 x.kind) (.slice pp x.params.length pc) (.slice np x.names.length nc) (.slice ap x.args.length ac) (.string q.name) (.slice q.p q.n q.cap) (.string x.trait)))).thrown HD.out
  have HX := Lib.hid hx
  clear hF hl hfin hfin2 hs1 hn9 hst hw1
  go_wp2_with fail
  exact bodyPost_ret (results_cell1 rfl _ _ _ ⟨w.heap.size, 0, none⟩ _ rfl HLD.out) rfl ⟨_, rfl, x, HSG.out, HX.out, HTF.out⟩
end Go.Proofs.YthikdkeanndidaaDoor
