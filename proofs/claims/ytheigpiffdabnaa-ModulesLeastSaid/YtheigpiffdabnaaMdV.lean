/-
  LAWS: modules' maps, all of them; what spreading turns; lists of offers.
-/
import Derived.Test.YtheigpiffdabnaaMdU
namespace Go.Proofs.Ytheigpiffdabnaa.Mds
open Go Go.RowKit Go.Maps
set_option linter.unusedVariables false
set_option linter.unusedSimpArgs false
set_option maxRecDepth 1000000

/-- what was there is as it was, but for the blocks of S -/
structure Tn (S : Nat → Prop) (w w' : World) : Prop where
  os : w'.os = w.os
  tape : w'.tape = w.tape
  output : w'.output = w.output
  size : w.heap.size ≤ w'.heap.size
  block : ∀ k, k < w.heap.size → ¬ S k → w'.heap[k]? = w.heap[k]?
theorem Tn.of_below {S : Nat → Prop} {w w' : World} (h : Below w.heap.size w w') : Tn S w w' := ⟨h.os, h.tape, h.output, h.size, fun k hk _ => h.block k hk⟩
theorem Tn.trans {S : Nat → Prop} {a b c : World} (h : Tn S a b) (k : Tn S b c) : Tn S a c :=
  ⟨k.os.trans h.os, k.tape.trans h.tape, k.output.trans h.output, Nat.le_trans h.size k.size, fun x hx hs => (k.block x (Nat.lt_of_lt_of_le hx h.size) hs).trans (h.block x hx hs)⟩
theorem Tn.of_grown {S : Nat → Prop} {w w' : World} {b : Nat} (h : w.grownBy w' (some b)) (hs : S b) : Tn S w w' :=
  ⟨h.os, h.tape, h.output, h.size, fun k hk hn => h.block k hk (fun e => by injection e with e; subst e; exact hn hs)⟩
/-- a store into blocks that are new -/
theorem Tn.new {S : Nat → Prop} {w w1 w2 : World} (h : Tn S w w1) (k : Below w.heap.size w1 w2) : Tn S w w2 :=
  ⟨k.os.trans h.os, k.tape.trans h.tape, k.output.trans h.output, Nat.le_trans h.size k.size, fun x hx hs => (k.block x hx).trans (h.block x hx hs)⟩
theorem Tn.below {S : Nat → Prop} {w w' : World} {B : Nat} (h : Tn S w w') (hB : B ≤ w.heap.size) (hs : ∀ k, S k → B ≤ k) : Below B w w' :=
  ⟨h.os, h.tape, h.output, h.size, fun k hk => h.block k (by omega) (fun q => by have := hs k q; omega)⟩
/-- a map's block -/
def IsMapB (w : World) (b : Nat) : Prop := ∃ es c, w.heap[b]? = some (.map es c)
theorem MapAt.isMap {P : Program} {k : TypeId} {α β : Type} [DecidableEq α] {K : KeyT P k α} {val : β → Value} {w : World} {b cnt : Nat} {f : α → Option β} (h : MapAt K val w b cnt f) : IsMapB w b := by
  obtain ⟨D, ⟨es, c, hb, _⟩, _⟩ := h
  exact ⟨es, c, hb⟩
theorem cell_no_map {w : World} {a : Addr} {v : Value} (h : w.cell? a = some v) {b : Nat} (hm : IsMapB w b) : a.block ≠ b := by
  intro e
  subst e
  obtain ⟨es, c, hb⟩ := hm
  simp [World.cell?, hb] at h
/-- slices outlive what becomes of maps -/
theorem sl_turned {α : Type} {E : Enc α} {S : Nat → Prop} {w w' : World} {v : Value} {L : List α} (h : SlIs E w v L) (ht : Tn S w w') (hS : ∀ k, S k → IsMapB w k) : SlIs E w' v L := by
  obtain ⟨p, cap, e, h1, h2, h3⟩ := h
  refine ⟨p, cap, e, h1, h2, fun h0 => ?_⟩
  obtain ⟨b, off, rfl, hc⟩ := h3 h0
  refine ⟨b, off, rfl, fun j u hu => ?_⟩
  have := hc j u hu
  rw [World.cell?_of_block (w := w) (ht.block b (World.block_lt_of_cell? w _ this) (fun q => cell_no_map this (hS b q) rfl))]
  exact this
theorem own_turned {e : TypeId} {S : Nat → Prop} {w w' : World} {B size k : Nat} {v : Value} {xs : List Value} (h : w.ownsRow B e size v k xs) (ht : Tn S w w') (hS : ∀ k, S k → IsMapB w k) : w'.ownsRow B e size v k xs := by
  refine ⟨h.1, ?_⟩
  rcases h.2 with hn | ⟨g, cap, cur, hv, hb, hg, r⟩
  · exact .inl hn
  · refine .inr ⟨g, cap, cur, hv, hb, ?_, r⟩
    rw [ht.block g (heap_lt hg) (fun q => by obtain ⟨es, c, hm⟩ := hS g q; rw [hg] at hm; cases hm)]
    exact hg
theorem map_row {e : TypeId} {w : World} {B size k : Nat} {v : Value} {xs : List Value} (h : w.ownsRow B e size v k xs) {b : Nat} (hm : IsMapB w b) : some b ≠ v.ownBlock := by
  rcases h.2 with ⟨rfl, _⟩ | ⟨g, cap, cur, rfl, hb, hg, r⟩
  · intro q; cases q
  · intro q
    injection q with q
    subst q
    obtain ⟨es, c, hm⟩ := hm
    rw [hg] at hm; cases hm

/-- all modules' maps -/
structure GvAll (wr : World) (n : Nat) (go gb : Nat → Nat) (ow : Nat → List ByteArray) (G : Nat → List Bd) : Prop where
  gv : ∀ i, i < n → GvAt wr (go i) (gb i) (ow i) (G i)
  dif : ∀ i j, i < n → j < n → i ≠ j → gb i ≠ gb j
  far : ∀ i j, i < n → j < n → go i ≠ gb j
def gbS (n : Nat) (gb : Nat → Nat) : Nat → Prop := fun k => ∃ i, i < n ∧ gb i = k
theorem GvAll.maps {wr : World} {n : Nat} {go gb : Nat → Nat} {ow : Nat → List ByteArray} {G : Nat → List Bd} (h : GvAll wr n go gb ow G) : ∀ k, gbS n gb k → IsMapB wr k := fun k ⟨i, hi, e⟩ => by
  subst e
  exact MapAt.isMap (h.gv i hi).bs
theorem GvAll.below {wr wx : World} {n : Nat} {go gb : Nat → Nat} {ow : Nat → List ByteArray} {G : Nat → List Bd} (h : GvAll wr n go gb ow G) (hb : Below wr.heap.size wr wx) : GvAll wx n go gb ow G :=
  ⟨fun i hi => (h.gv i hi).below hb (h.gv i hi).own.lt (h.gv i hi).bs.lt, h.dif, h.far⟩
theorem GvAll.kept {wr wx : World} {n : Nat} {go gb : Nat → Nat} {ow : Nat → List ByteArray} {G : Nat → List Bd} {row : Option Nat} (h : GvAll wr n go gb ow G) (hg : wr.grownBy wx row) (h1 : ∀ b, IsMapB wr b → some b ≠ row) : GvAll wx n go gb ow G :=
  ⟨fun i hi => ⟨(h.gv i hi).own.kept hg (h1 _ (MapAt.isMap (h.gv i hi).own)), (h.gv i hi).bs.kept hg (h1 _ (MapAt.isMap (h.gv i hi).bs))⟩, h.dif, h.far⟩
theorem GvAll.take {wr wx : World} {n : Nat} {go gb : Nat → Nat} {ow : Nat → List ByteArray} {G : Nat → List Bd} {j : Nat} {b : Bd} (h : GvAll wr n go gb ow G) (hj : j < n) (hg : wr.grownBy wx (some (gb j))) (hm : MapAt bdKeys tt wx (gb j) (G j ++ [b]).length (setF (G j ++ [b]))) : GvAll wx n go gb ow (putG G j b) := by
  refine ⟨fun i hi => ⟨(h.gv i hi).own.kept hg (by simpa using h.far i j hi hj), ?_⟩, h.dif, h.far⟩
  unfold putG
  by_cases e : i = j
  · subst e; rw [if_pos rfl]; exact hm
  · rw [if_neg e]; exact (h.gv i hi).bs.kept hg (by simpa using h.dif i j hi hj e)
/-- how many a map holds -/
def lenB (P : Program) (w : World) (b : Nat) : Nat := match (Builtin.len_ #[81] 3 #[.map (some b)]).run P w with | .ok (.int _ k) _ => k.toNat | _ => 0
theorem lenB_eq {w : World} {b cnt : Nat} {f : Bd → Option Unit} (h : MapAt bdKeys tt w b cnt f) : lenB Try.prog w b = cnt := by
  unfold lenB
  rw [h.len Try.underlying81]
  simp
def sumL (P : Program) (w : World) (gb : Nat → Nat) : Nat → Nat
  | 0 => 0
  | k + 1 => sumL P w gb k + lenB P w (gb k)
theorem GvAll.sum {wr : World} {n : Nat} {go gb : Nat → Nat} {ow : Nat → List ByteArray} {G : Nat → List Bd} (h : GvAll wr n go gb ow G) : ∀ k, k ≤ n → sumL Try.prog wr gb k = sumG G k
  | 0, _ => rfl
  | k + 1, hk => by
    unfold sumL sumG
    rw [h.sum k (by omega), lenB_eq (h.gv k (by omega)).bs]

/-! ### offers -/
abbrev ofT : TypeId := 103
theorem infoO : (Try.prog.info? ofT).map (fun i => (i.zero, i.size, i.bytes)) = some (some (.agg #[.int .i64 0, .string ⟨#[]⟩, .string ⟨#[]⟩]), 3, 40) := by kernel_rfl
theorem ofAt {w : World} {b off : Nat} {O : List (Nat × Bd)} (h : CellsAt w b off (encOf.all O)) (i : Nat) (hi : i < O.length) (o : Nat × Bd) (ho : O[i]? = some o) :
    w.cell? ⟨b, off + i * 3, none⟩ = some (.int .i64 o.1) ∧ w.cell? ⟨b, off + i * 3 + 1, none⟩ = some (.string o.2.1) ∧ w.cell? ⟨b, off + i * 3 + 2, none⟩ = some (.string o.2.2) := by
  have e3 : encOf.size = 3 := rfl
  have hO : O[i] = o := by rw [List.getElem?_eq_getElem hi] at ho; exact Option.some.inj ho
  have c0 := h.elem i hi 0 (by decide) _ rfl
  have c1 := h.elem i hi 1 (by decide) _ rfl
  have c2 := h.elem i hi 2 (by decide) _ rfl
  rw [e3, hO] at c0 c1 c2
  exact ⟨by simpa using c0, c1, c2⟩
theorem own_pop {w : World} {B g k cap : Nat} {O : List (Nat × Bd)} {o : Nat × Bd} (h : OwnL encOf ofT w B (.slice (some ⟨g, 0, none⟩) k cap) (O ++ [o])) : OwnL encOf ofT w B (.slice (some ⟨g, 0, none⟩) O.length cap) O := by
  have e3 : encOf.size = 3 := rfl
  unfold OwnL at h ⊢
  rcases h.2 with ⟨e, -⟩ | ⟨g', cap', cur, e, hb, hg, h1, h2, h3, h4⟩
  · cases e
  · injection e with e1 e2 e3'
    injection e1 with e1
    injection e1 with e1 _ _
    subst e1; subst e3'
    refine ⟨by rw [encOf.all_length], .inr ⟨g, cap, cur, rfl, hb, hg, by simp at h1; omega, h2, h3, ?_⟩⟩
    have hl : (O ++ [o]).length * encOf.size = O.length * encOf.size + 3 := by rw [e3]; simp; omega
    rw [hl, encOf.all_append] at h4
    have h5 := congrArg (List.take (O.length * encOf.size)) h4
    rw [List.take_take, Nat.min_eq_left (by omega), List.take_left' (by rw [encOf.all_length])] at h5
    exact h5
/-- a slice of one's own, written out -/
theorem own_ofs {w : World} {B : Nat} {v : Value} {O : List (Nat × Bd)} (h : OwnL encOf ofT w B v O) : ∃ pv cv, v = .slice pv O.length cv ∧ (0 < O.length → ∃ g, pv = some ⟨g, 0, none⟩ ∧ CellsAt w g 0 (encOf.all O) ∧ B ≤ g) := by
  rcases h.2 with ⟨rfl, h0⟩ | ⟨g, cap, cur, rfl, hb, hg, r⟩
  · exact ⟨none, 0, by rw [h0], fun h => by omega⟩
  · refine ⟨_, cap, rfl, fun h0 => ⟨g, rfl, ?_, hb⟩⟩
    obtain ⟨-, -, -, h4⟩ := h.sl.lies
    obtain ⟨b', off, e, hc⟩ := h4 h0
    injection e with e; injection e with e1 e2 _
    subst e1; subst e2
    exact hc
theorem TkAt.turned {B : Nat} {S : Nat → Prop} {w wx : World} {ob n : Nat} {rows : Nat → Sv} {tk : Nat → List Nat} (h : TkAt B w ob n rows tk) (ht : Tn S w wx) (hS : ∀ k, S k → IsMapB w k) : TkAt B wx ob n rows tk :=
  ⟨own_turned h.out ht hS, fun i hi => own_turned (h.own i hi) ht hS, h.dif⟩
theorem cells_turned {S : Nat → Prop} {w wx : World} {b off : Nat} {cs : List Value} (h : CellsAt w b off cs) (ht : Tn S w wx) (hS : ∀ k, S k → IsMapB w k) : CellsAt wx b off cs := by
  intro j v hv
  have := h j v hv
  rw [World.cell?_of_block (w := w) (ht.block b (World.block_lt_of_cell? w _ this) (fun q => cell_no_map this (hS b q) rfl))]
  exact this
def slen (v : Value) : Nat := match v with | .slice _ k _ => k | _ => 0
/-- spreading under way -/
structure Sp3 (l : List Fc) (n : Nat) (tk : Nat → List Nat) (go gb : Nat → Nat) (ow : Nat → List ByteArray) (w wx : World) (v : Value) (O : List (Nat × Bd)) (G : Nat → List Bd) (Ex : Nat → Bd → Nat → Prop) (M : Nat) : Prop where
  spr : Spr l tk G O Ex
  own : OwnL encOf ofT wx w.heap.size v O
  gv : GvAll wx n go gb ow G
  tn : Tn (gbS n gb) w wx
  m : 2 * (n * 10000 - sumG G n) + O.length ≤ M
theorem Sp3.below {l : List Fc} {n : Nat} {tk : Nat → List Nat} {go gb : Nat → Nat} {ow : Nat → List ByteArray} {w wx wy : World} {v : Value} {O : List (Nat × Bd)} {G : Nat → List Bd} {Ex : Nat → Bd → Nat → Prop} {M : Nat} (h : Sp3 l n tk go gb ow w wx v O G Ex M) (hb : Below wx.heap.size wx wy) : Sp3 l n tk go gb ow w wy v O G Ex M :=
  ⟨h.spr, h.own.below hb, h.gv.below hb, h.tn.trans (Tn.of_below hb), h.m⟩
theorem Sp3.sumle {l : List Fc} {n : Nat} {tk : Nat → List Nat} {go gb : Nat → Nat} {ow : Nat → List ByteArray} {w wx : World} {v : Value} {O : List (Nat × Bd)} {G : Nat → List Bd} {Ex : Nat → Bd → Nat → Prop} {M : Nat} (h : Sp3 l n tk go gb ow w wx v O G Ex M) (hu : (univ l).length ≤ 10000) : sumG G n ≤ n * 10000 := by
  exact sumG_le (u := 10000) (fun i => Nat.le_trans (h.spr.few i) hu) n
/-- a face does not take it -/
theorem Sp3.skip {l : List Fc} {n : Nat} {tk : Nat → List Nat} {go gb : Nat → Nat} {ow : Nat → List ByteArray} {w wx : World} {v : Value} {O : List (Nat × Bd)} {G : Nat → List Bd} {f : Nat} {b : Bd} {j : Nat} {r : List Nat} {M : Nat} (h : Sp3 l n tk go gb ow w wx v O G (fun i c k => i = f ∧ c = b ∧ k ∈ j :: r) M)
    (how : ∀ (i : Nat) (f : Fc), l[i]? = some f → ∀ x, x ∈ ow i ↔ x ∈ visL f.own) (hx : b.1 ∈ ow j ∨ b ∈ G j) : Sp3 l n tk go gb ow w wx v O G (fun i c k => i = f ∧ c = b ∧ k ∈ r) M :=
  ⟨h.spr.skip (fun g hg => hx.imp (fun q => (hides_iff g b.1).2 ((how j g hg _).1 q)) id), h.own, h.gv, h.tn, h.m⟩
/-- a face takes it: the map -/
theorem Sp3.take {l : List Fc} {n : Nat} {tk : Nat → List Nat} {go gb : Nat → Nat} {ow : Nat → List ByteArray} {w wx wy : World} {v v' : Value} {O : List (Nat × Bd)} {G : Nat → List Bd} {f : Nat} {b : Bd} {j : Nat} {r : List Nat} {M : Nat} (h : Sp3 l n tk go gb ow w wx v O G (fun i c k => i = f ∧ c = b ∧ k ∈ j :: r) M) (hu : (univ l).length ≤ 10000)
    (how : ∀ (i : Nat) (f : Fc), l[i]? = some f → ∀ x, x ∈ ow i ↔ x ∈ visL f.own) (htk : Takers l tk) (hj : j < n) (hn : n = l.length) (hjt : j ∈ tk f) (hb : b ∈ G f) (h1 : b.1 ∉ ow j) (h2 : b ∉ G j)
    (hgv : GvAll wy n go gb ow (putG G j b)) (htn : Tn (gbS n gb) w wy) (ho : OwnL encOf ofT wy w.heap.size v' (O ++ [(j, b)])) : Sp3 l n tk go gb ow w wy v' (O ++ [(j, b)]) (putG G j b) (fun i c k => i = f ∧ c = b ∧ k ∈ r) M := by
  have hl : l[j]? = some (l.getD j fc0) := by simp [List.getD, List.getElem?_eq_getElem (show j < l.length by omega)]
  obtain ⟨g, m, hg, hm, hf⟩ := (htk f j).1 hjt
  have hgv' : Giv l j b := .took (h.spr.snd f b hb) hg hm hf (by
    cases e : hides g b.1 with
    | false => rfl
    | true => exact absurd ((how j g hg _).2 ((hides_iff g b.1).1 e)) h1)
  have hs := h.spr.take hgv' h2
  have hle : sumG (putG G j b) n ≤ n * 10000 := sumG_le (u := 10000) (fun i => Nat.le_trans (hs.few i) hu) n
  have hput := sumG_put (G := G) (j := j) (b := b) n
  rw [if_pos hj] at hput
  have hm' := h.m
  refine ⟨hs, ho, hgv, htn, ?_⟩
  rw [List.length_append, List.length_singleton]
  omega
end Go.Proofs.Ytheigpiffdabnaa.Mds
