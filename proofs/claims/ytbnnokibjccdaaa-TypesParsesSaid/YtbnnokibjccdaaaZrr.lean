/-
  CONTRACT: the reference's read of a type: its frame.
-/
import Derived.Test.YtbnnokibjccdaaaTpNd
import Derived.Test.YtbnnokibjccdaaaZpv
namespace Go.Proofs.Ytbnnokibjccdaaa
open Go Go.RowKit Go.Maps
set_option linter.unusedVariables false
set_option linter.unusedSimpArgs false
set_option maxRecDepth 100000

/-- the frame of a call of read: the result's box at the heap's end, the box yb of the type so far -/
structure Nf (w wr : World) (yb : Nat) (nm : ByteArray) (v : Value) (R : List Rw) (l : List Tp) : Prop where
  be : Below w.heap.size w wr
  res : wr.heap[w.heap.size]? = some (.cells #[.string ⟨#[]⟩, .slice none 0 0] tpT (0, 0))
  box : wr.heap[yb]? = some (.cells #[.string nm, v] tpT (0, 0))
  row : TRk wr (yb + 1) (fun j => yb + 1 ≤ j) v R l
  yx : w.heap.size < yb
theorem Nf.later {w wr w2 : World} {yb : Nat} {nm : ByteArray} {v : Value} {R : List Rw} {l : List Tp} (h : Nf w wr yb nm v R l) (hb : Below wr.heap.size wr w2) : Nf w w2 yb nm v R l :=
  ⟨bnext h.be hb, (hb.block _ (heap_lt_of h.res)).trans h.res, (hb.block _ (heap_lt_of h.box)).trans h.box, h.row.below hb, h.yx⟩
theorem Nf.start (w : World) (nm : ByteArray) :
    Nf w ((w.alloc (.cells #[.string ⟨#[]⟩, .slice none 0 0] tpT)).alloc (.cells #[.string nm, .slice none 0 0] tpT)) (w.heap.size + 1) nm (.slice none 0 0) [] [] := by
  have hb1 := below_box w (.cells #[.string ⟨#[]⟩, .slice none 0 0] tpT)
  have hb2 := below_box (w.alloc (.cells #[.string ⟨#[]⟩, .slice none 0 0] tpT)) (.cells #[.string nm, .slice none 0 0] tpT)
  have hs1 : (w.alloc (.cells #[.string ⟨#[]⟩, .slice none 0 0] tpT)).heap.size = w.heap.size + 1 := World.size_alloc _ _
  have hx := heap_alloc_new w (.cells #[.string ⟨#[]⟩, .slice none 0 0] tpT)
  have hy := heap_alloc_new (w.alloc (.cells #[.string ⟨#[]⟩, .slice none 0 0] tpT)) (.cells #[.string nm, .slice none 0 0] tpT)
  rw [hs1] at hy
  exact ⟨bnext hb1 hb2, (hb2.block _ (by omega)).trans hx, hy, TRk.isNil _ _ _, Nat.lt_succ_self _⟩
theorem Nf.appBox {w wx w2 : World} {yb : Nat} {nm : ByteArray} {v : Value} {R : List Rw} {l : List Tp} (h : Nf w wx yb nm v R l) (hg : wx.grownBy w2 v.ownBlock) : w2.heap[yb]? = some (.cells #[.string nm, v] tpT (0, 0)) := by
  rw [hg.block yb (heap_lt_of h.box) (fun e => by have := (World.ownsRow.lt h.row.own yb e.symm).1; omega)]
  exact h.box
theorem Nf.app {w wx w2 : World} {yb : Nat} {nm : ByteArray} {v v' : Value} {R : List Rw} {l : List Tp} {q : Rw} {t : Tp} (h : Nf w wx yb nm v R l) (hg : wx.grownBy w2 v.ownBlock) (hr : TRk w2 (yb + 1) (fun j => yb + 1 ≤ j) v' (R ++ [q]) (l ++ [t])) :
    Nf w (w2.setCell ⟨yb, 1, none⟩ v') yb nm v' (R ++ [q]) (l ++ [t]) := by
  have h1 := h.yx
  have hx := heap_lt_of h.box
  have hbl : Below (yb + 1) wx w2 := (Below.refl _ _).grown hg (by omega) (fun j e => (World.ownsRow.lt h.row.own j e).1)
  have hk : ∀ j, j < yb → (w2.setCell ⟨yb, 1, none⟩ v').heap[j]? = wx.heap[j]? := fun j hj => (Below.heap_setCell _ _ _ _ (by show j ≠ yb; omega)).trans (hbl.block j (by omega))
  have hb2 : w2.heap[yb]? = some (.cells #[.string nm, v] tpT (0, 0)) := (hbl.block yb (Nat.lt_succ_self _)).trans h.box
  have hbut : ∀ j, j ≠ yb → (w2.setCell ⟨yb, 1, none⟩ v').heap[j]? = w2.heap[j]? := fun j hj => Below.heap_setCell _ _ _ _ hj
  have hyr : some yb ≠ v'.ownBlock := fun e => by have := (World.ownsRow.lt hr.own yb e.symm).1; omega
  have hbelow : Below yb wx (w2.setCell ⟨yb, 1, none⟩ v') := (hbl.mono (Nat.le_succ _)).setCell (p := ⟨yb, 1, none⟩) (Nat.le_refl _) v'
  refine ⟨h.be.trans (hbelow.mono (Nat.le_of_lt h1)), ?_, heap_setCell_same _ _ 1 _ _ v' hb2, ?_, h1⟩
  · rw [hk _ h1]; exact h.res
  · exact ⟨World.ownsRow.kept hr.own ⟨rfl, rfl, rfl, by simp [World.setCell], fun j hj hn => hbut j (fun e => hn (by rw [e]))⟩ (.inr (fun e => hyr e.symm) : v'.ownBlock = none ∨ v'.ownBlock ≠ some yb), hr.len, fun i h1 h2 => (hr.at_ i h1 h2).keepB (fun j hj _ => hbut j (by have := hj.1; omega))⟩
structure NfF (w wf : World) (nm : ByteArray) (p : Option Addr) (n c : Nat) (l : List Tp) : Prop where
  be : Below w.heap.size w wf
  isP : IsP (fun j => w.heap.size ≤ j) wf ⟨nm, p, n, c⟩ (.mk nm l)
  load : (loadVar tpT ⟨w.heap.size, 0, none⟩).run Try.prog wf = .ok (.agg #[.string nm, .slice p n c]) wf
theorem Nf.fin {w wr : World} {yb : Nat} {nm : ByteArray} {p : Option Addr} {n c : Nat} {R : List Rw} {l : List Tp} (h : Nf w wr yb nm (.slice p n c) R l) :
    NfF w ((wr.setCell ⟨w.heap.size, 0, none⟩ (.string nm)).setCell ⟨w.heap.size, 1, none⟩ (.slice p n c)) nm p n c l := by
  have h1 := h.yx
  obtain ⟨p', c', e, hp⟩ := h.row.fin (fun j hj => hj)
  injection e with e1 e2 e3
  subst e1; subst e2; subst e3
  have hbut : But (fun a => a.block = w.heap.size) wr ((wr.setCell ⟨w.heap.size, 0, none⟩ (.string nm)).setCell ⟨w.heap.size, 1, none⟩ (.slice p l.length c)) := (But.setCell (M := fun a => a.block = w.heap.size) _ ⟨w.heap.size, 0, none⟩ _ rfl).trans (But.setCell (M := fun a => a.block = w.heap.size) _ ⟨w.heap.size, 1, none⟩ _ rfl)
  refine ⟨(h.be.setCell (p := ⟨w.heap.size, 0, none⟩) (Nat.le_refl _) _).setCell (p := ⟨w.heap.size, 1, none⟩) (Nat.le_refl _) _, ?_, load_tp _ _ _ _ _ _ (box_store h.res nm p l.length c)⟩
  exact IsP.node nm ((hp.but hbut (fun a e k => by have e' : a.block = w.heap.size := e; omega)).mono (fun j hj => by omega))
theorem results_cell3T {fn : Func} {t u x : Tmp} {ty : TypeId} (h : fn.results = #[.cell t ty, .tmp u, .tmp x]) (tmps : Array Value) (P : Program) (w : World) (a : Addr) (v : Value) (ht : tmps.getD t undef = .pointer (some a)) (hl : (loadVar ty a).run P w = .ok v w) :
    (results fn tmps).run P w = .ok (.tuple #[v, tmps.getD u undef, tmps.getD x undef]) w := by
  have ht' : tmps[t]?.getD undef = .pointer (some a) := by simpa using ht
  simp [results, h, ht', asAddr, hl, Result.andThen]
/-- what is left of a text -/
def dr (s : ByteArray) (i : Nat) : List UInt8 := s.data.toList.drop i
theorem dr_len (s : ByteArray) (i : Nat) : (dr s i).length = s.size - i := by unfold dr; rw [List.length_drop, data_len]
theorem dr_cons (s : ByteArray) (i : Nat) (h : i < s.size) : dr s i = s[i] :: dr s (i + 1) := by
  unfold dr
  rw [List.drop_eq_getElem_cons (i := i) (by rw [data_len]; exact h)]
  simp [ByteArray.getElem_eq_getElem_data]
theorem dr_end (s : ByteArray) (i : Nat) (h : s.size ≤ i) : dr s i = [] := List.drop_eq_nil_of_le (by rw [data_len]; exact h)
/-- where the name that begins at a place ends -/
def endN (s : ByteArray) (i : Nat) : Nat := i + ((dr s i).takeWhile plb).length
theorem endN_le (s : ByteArray) (i : Nat) (h : i ≤ s.size) : i ≤ endN s i ∧ endN s i ≤ s.size := by
  have h1 := len_take_drop (dr s i)
  rw [dr_len] at h1
  unfold endN
  omega
theorem endN_name (s : ByteArray) (i : Nat) (h : i ≤ s.size) : (s.extract i (endN s i)).data.toList = (dr s i).takeWhile plb := by
  rw [extract_dataT]
  unfold endN
  rw [show i + ((dr s i).takeWhile plb).length - i = ((dr s i).takeWhile plb).length by omega]
  exact (take_span _).1
theorem endN_rest (s : ByteArray) (i : Nat) : dr s (endN s i) = (dr s i).dropWhile plb := by
  unfold endN
  show s.data.toList.drop _ = _
  rw [← List.drop_drop]
  exact (take_span (dr s i)).2
theorem take_get : ∀ (l : List UInt8) (m : Nat), m < (l.takeWhile plb).length → ∀ (h : m < l.length), plb l[m] = true
  | [], m, h, h2 => absurd h2 (Nat.not_lt_zero _)
  | c :: l, m, h, h2 => by
    cases hc : plb c with
    | false => simp [List.takeWhile_cons, hc] at h
    | true =>
      cases m with
      | zero => exact hc
      | succ m =>
        have e : ((c :: l).takeWhile plb).length = (l.takeWhile plb).length + 1 := by simp [List.takeWhile_cons, hc]
        exact take_get l m (by omega) (by simpa using h2)
theorem dr_get (s : ByteArray) (i m : Nat) (h : i + m < s.size) (h2 : m < (dr s i).length) : (dr s i)[m] = s[i + m] := by
  have e : (s.data.toList.drop i)[m]'h2 = s.data.toList[i + m]'(by rw [data_len]; exact h) := List.getElem_drop ..
  refine Eq.trans (b := (s.data.toList.drop i)[m]'h2) rfl (e.trans ?_)
  simp [ByteArray.getElem_eq_getElem_data]
theorem endN_in (s : ByteArray) (i j : Nat) (h1 : i ≤ j) (h2 : j < endN s i) (h3 : j < s.size) : plb s[j] = true := by
  obtain ⟨m, rfl⟩ : ∃ m, j = i + m := ⟨j - i, by omega⟩
  have h5 : m < ((dr s i).takeWhile plb).length := by unfold endN at h2; omega
  have h6 : m < (dr s i).length := by rw [dr_len]; omega
  have := take_get (dr s i) m h5 h6
  rwa [dr_get s i m h3 h6] at this
theorem endN_out (s : ByteArray) (i : Nat) (h3 : endN s i < s.size) : plb (s[endN s i]'h3) = false := by
  have h1 := endN_rest s i
  rw [dr_cons s _ h3] at h1
  have := List.head?_dropWhile_not plb (dr s i)
  rw [← h1] at this
  simpa using this
end Go.Proofs.Ytbnnokibjccdaaa

/-
  CONTRACT: the reference's read of a type.
-/
namespace Go.Proofs.Ytbnnokibjccdaaa
open Go Go.RowKit Go.Maps
set_option linter.unusedVariables false
set_option linter.unusedSimpArgs false
set_option maxRecDepth 100000

/-- what read gives -/
def ReadRet (f : Nat) (s : ByteArray) (i : Nat) (w : World) (e : Ending) (w' : World) : Prop :=
  (∃ (q : Rw) (t : Tp) (j : Nat), e = .returned (.tuple #[.agg #[.string q.name, .slice q.p q.n q.cap], .int .i64 (j : Int), .bool true]) ∧ parT f (dr s i) = some (t, dr s j) ∧ i < j ∧ j ≤ s.size ∧ IsP (fun k => w.heap.size ≤ k) w' q t ∧ Below w.heap.size w w') ∨
  (∃ (q : Rw), e = .returned (.tuple #[.agg #[.string q.name, .slice q.p q.n q.cap], .int .i64 0, .bool false]) ∧ parT f (dr s i) = none ∧ Below w.heap.size w w')
def ReadC (f : Nat) : Prop := ∀ (s : ByteArray) (i : Nat) (w : World), s.size ≤ 1000000000 → i ≤ s.size → s.size - i < f →
  Calls Try.prog 44 #[.string s, .int .i64 (i : Int)] w (ReadRet f s i w)
theorem Way.none {P : List UInt8 → Option (Tp × List UInt8)} {q r : List UInt8} {l : List Tp} (h : Way P q l r) (hn : P r = Option.none) : parL P (q.length + 1) q = Option.none := by
  obtain ⟨g, hg, e⟩ := h
  cases g with
  | zero => omega
  | succ g =>
    rw [e, parL_succ, hn]
    rfl
theorem NfF.no {f i : Nat} {s nm : ByteArray} {p : Option Addr} {n c : Nat} {l : List Tp} {w wf : World} (h : NfF w wf nm p n c l) (hn : parT f (dr s i) = none) :
    ReadRet f s i w (.returned (.tuple #[.agg #[.string nm, .slice p n c], .int .i64 0, .bool false])) wf := .inr ⟨⟨nm, p, n, c⟩, rfl, hn, h.be⟩
theorem NfF.yes {f i j : Nat} {s nm : ByteArray} {p : Option Addr} {n c : Nat} {l : List Tp} {w wf : World} (h : NfF w wf nm p n c l) (ht : parT f (dr s i) = some (.mk nm l, dr s j)) (hij : i < j) (hj : j ≤ s.size) :
    ReadRet f s i w (.returned (.tuple #[.agg #[.string nm, .slice p n c], .int .i64 (j : Int), .bool true])) wf := .inl ⟨⟨nm, p, n, c⟩, .mk nm l, j, rfl, ht, hij, hj, h.isP, h.be⟩
theorem mark_of {c : UInt8} (h : plb c = false) : c = 60 ∨ c = 62 ∨ c = 44 := by
  by_cases h1 : c = 60
  · exact .inl h1
  · by_cases h2 : c = 62
    · exact .inr (.inl h2)
    · by_cases h3 : c = 44
      · exact .inr (.inr h3)
      · unfold plb at h
        simp [h1, h2, h3, bne] at h
theorem plain_of {c : UInt8} (h : plb c = true) : ((c.toNat : Int) != 60) = true ∧ ((c.toNat : Int) != 62) = true ∧ ((c.toNat : Int) != 44) = true := by
  have key : ∀ d : UInt8, plb d = false → ((c.toNat : Int) != (d.toNat : Int)) = true := fun d hd => by
    rw [bne_iff_ne]
    intro e
    have e2 : c.toNat = d.toNat := by omega
    rw [UInt8.toNat_inj.1 e2, hd] at h
    cases h
  exact ⟨key 60 rfl, key 62 rfl, key 44 rfl⟩
theorem byte_ne {c d : UInt8} (h : c ≠ d) : ((c.toNat : Int) != (d.toNat : Int)) = true := by
  rw [bne_iff_ne]
  intro e
  exact h (UInt8.toNat_inj.1 (by omega))
set_option maxHeartbeats 8000000 in
theorem read_step (f : Nat) (hR : ReadC f) : ReadC (f + 1) := by
  intro s i w hs hi hf
  have hps := parT_succ f (dr s i)
  obtain ⟨he1, he2⟩ := endN_le s i hi
  have hnm := endN_name s i hi
  have hin := endN_in s i
  have hout := endN_out s i
  rw [← endN_rest, ← hnm] at hps
  rw [show (⟨(s.extract i (endN s i)).data.toList.toArray⟩ : ByteArray) = s.extract i (endN s i) from bytes_eq rfl] at hps
  have hz0 : (s.extract i (endN s i)).data.toList.length = endN s i - i := by rw [data_len, ByteArray.size_extract]; omega
  generalize endN s i = e at he1 he2 hnm hin hout hps hz0
  have hb1 := below_box w (.cells #[.string ⟨#[]⟩, .slice none 0 0] tpT)
  have hnf := Nf.start w (s.extract i e)
  have hs1 : (w.alloc (.cells #[.string ⟨#[]⟩, .slice none 0 0] tpT)).heap.size = w.heap.size + 1 := World.size_alloc _ _
  obtain ⟨w1, hw1⟩ : ∃ y, w.alloc (.cells #[.string ⟨#[]⟩, .slice none 0 0] tpT) = y := ⟨_, rfl⟩
  obtain ⟨xb, hxb⟩ : ∃ xb, w.heap.size = xb := ⟨_, rfl⟩
  rw [hw1] at hnf hs1
  obtain ⟨yb, hyb⟩ : ∃ y, w1.heap.size = y := ⟨_, rfl⟩
  rw [← hs1, hyb] at hnf
  have HNF := Lib.hid hnf
  have HIN := Lib.hid hin
  have HPS := Lib.hid hps
  have HOUT := Lib.hid hout
  have HZ0 := Lib.hid hz0
  clear hnm hin hps hout hz0 hb1 hnf hs1
  go_enter Try.func44, Try.ntmps44
  go_wp2_with fail
  go_loopw [7] (fun x wr => ∃ j : Nat, i ≤ j ∧ j ≤ e ∧ x = .int .i64 (j : Int) ∧ wr = w1) (fun x _ => e - (intOf x).toNat)
  case atStart => exact ⟨i, Nat.le_refl _, he1, rfl, by trivial⟩
  case round =>
    obtain ⟨j, hij, hje, rfl, rfl⟩ := hrel
    clear hw1
    by_cases hlt : j < e
    · have hjs : j < s.size := by omega
      have hjsi : (j : Int) < (s.size : Int) := by omega
      obtain ⟨x, hx⟩ : ∃ x : UInt8, s[j]'hjs = x := ⟨_, rfl⟩
      have hpx := HIN.out j hij hlt hjs
      rw [hx] at hpx
      obtain ⟨x1, x2, x3⟩ := plain_of hpx
      clear hpx
      go_wp2_with fail
      go_roundw
      case rel => exact ⟨j + 1, by omega, by omega, by go_num, trivial⟩
      case measure => simp [intOf]; omega
    · obtain rfl : j = e := by omega
      clear HIN
      have hsl : i ≤ j ∧ j ≤ s.size := ⟨he1, he2⟩
      have HW1 := Lib.hid (show i ≤ j ∧ j ≤ s.size from ⟨he1, he2⟩)
      clear hlt
      by_cases hie : j = i
      · have HNO : Hid (parT (f + 1) (dr s i) = none) := by
          show _ = _
          rw [HPS.out, if_pos (List.eq_nil_of_length_eq_zero (by rw [HZ0.out]; omega))]
        have hiei : ((j : Int) == (i : Int)) = true := by rw [beq_iff_eq]; omega
        clear hie HPS HZ0
        by_cases hes : j = s.size
        · have hesi : ¬ ((j : Int) < (s.size : Int)) := by omega
          clear hes
          have y0 : (wr.alloc (.cells #[.string (s.extract i j), .slice none 0 0] tpT)).cell? ⟨yb, 0, none⟩ = some (.string (s.extract i j)) := by rw [Lib.cell_of_heap HNF.out.box]; rfl
          have y1 : (wr.alloc (.cells #[.string (s.extract i j), .slice none 0 0] tpT)).cell? ⟨yb, 1, none⟩ = some (.slice none 0 0) := by rw [Lib.cell_of_heap HNF.out.box]; rfl
          obtain ⟨g0, g1, g2, g3, g4, g5⟩ := box_facts HNF.out.res (s.extract i j) none 0 0
          have HFN := Lib.hid (Nf.fin HNF.out)
          have hl := HFN.out.load
          have hr := HFN.out.no (i := i) HNO.out
          rw [hxb] at hl hr g0 g1 g2 g3 g4 g5
          have HL := Lib.hid hl
          have HR := Lib.hid hr
          clear HFN hl hr
          go_wp2_with fail
          try simp only [Exit.inBlock, Exit.then]
          refine bodyPost_ret (results_cell3T rfl _ _ _ ⟨xb, 0, none⟩ _ rfl HL.out) rfl ?_
          exact HR.out
        · have hjs : j < s.size := by omega
          have hjsi : (j : Int) < (s.size : Int) := by omega
          obtain ⟨x, hx⟩ : ∃ x : UInt8, s[j]'hjs = x := ⟨_, rfl⟩
          have hm := HOUT.out hjs
          rw [hx] at hm
          rcases mark_of hm with rfl | rfl | rfl
          · clear hm
            have y0 : (wr.alloc (.cells #[.string (s.extract i j), .slice none 0 0] tpT)).cell? ⟨yb, 0, none⟩ = some (.string (s.extract i j)) := by rw [Lib.cell_of_heap HNF.out.box]; rfl
            have y1 : (wr.alloc (.cells #[.string (s.extract i j), .slice none 0 0] tpT)).cell? ⟨yb, 1, none⟩ = some (.slice none 0 0) := by rw [Lib.cell_of_heap HNF.out.box]; rfl
            obtain ⟨g0, g1, g2, g3, g4, g5⟩ := box_facts HNF.out.res (s.extract i j) none 0 0
            have HFN := Lib.hid (Nf.fin HNF.out)
            have hl := HFN.out.load
            have hr := HFN.out.no (i := i) HNO.out
            rw [hxb] at hl hr g0 g1 g2 g3 g4 g5
            have HL := Lib.hid hl
            have HR := Lib.hid hr
            clear HFN hl hr
            go_wp2_with fail
            try simp only [Exit.inBlock, Exit.then]
            refine bodyPost_ret (results_cell3T rfl _ _ _ ⟨xb, 0, none⟩ _ rfl HL.out) rfl ?_
            exact HR.out
          · clear hm
            have y0 : (wr.alloc (.cells #[.string (s.extract i j), .slice none 0 0] tpT)).cell? ⟨yb, 0, none⟩ = some (.string (s.extract i j)) := by rw [Lib.cell_of_heap HNF.out.box]; rfl
            have y1 : (wr.alloc (.cells #[.string (s.extract i j), .slice none 0 0] tpT)).cell? ⟨yb, 1, none⟩ = some (.slice none 0 0) := by rw [Lib.cell_of_heap HNF.out.box]; rfl
            obtain ⟨g0, g1, g2, g3, g4, g5⟩ := box_facts HNF.out.res (s.extract i j) none 0 0
            have HFN := Lib.hid (Nf.fin HNF.out)
            have hl := HFN.out.load
            have hr := HFN.out.no (i := i) HNO.out
            rw [hxb] at hl hr g0 g1 g2 g3 g4 g5
            have HL := Lib.hid hl
            have HR := Lib.hid hr
            clear HFN hl hr
            go_wp2_with fail
            try simp only [Exit.inBlock, Exit.then]
            refine bodyPost_ret (results_cell3T rfl _ _ _ ⟨xb, 0, none⟩ _ rfl HL.out) rfl ?_
            exact HR.out
          · clear hm
            have y0 : (wr.alloc (.cells #[.string (s.extract i j), .slice none 0 0] tpT)).cell? ⟨yb, 0, none⟩ = some (.string (s.extract i j)) := by rw [Lib.cell_of_heap HNF.out.box]; rfl
            have y1 : (wr.alloc (.cells #[.string (s.extract i j), .slice none 0 0] tpT)).cell? ⟨yb, 1, none⟩ = some (.slice none 0 0) := by rw [Lib.cell_of_heap HNF.out.box]; rfl
            obtain ⟨g0, g1, g2, g3, g4, g5⟩ := box_facts HNF.out.res (s.extract i j) none 0 0
            have HFN := Lib.hid (Nf.fin HNF.out)
            have hl := HFN.out.load
            have hr := HFN.out.no (i := i) HNO.out
            rw [hxb] at hl hr g0 g1 g2 g3 g4 g5
            have HL := Lib.hid hl
            have HR := Lib.hid hr
            clear HFN hl hr
            go_wp2_with fail
            try simp only [Exit.inBlock, Exit.then]
            refine bodyPost_ret (results_cell3T rfl _ _ _ ⟨xb, 0, none⟩ _ rfl HL.out) rfl ?_
            exact HR.out
      · have hie2 : i < j := by omega
        have hiei : ((j : Int) == (i : Int)) = false := by rw [beq_eq_false_iff_ne]; omega
        have hne : (s.extract i j).data.toList ≠ [] := fun h0 => by
          have := HZ0.out
          rw [h0] at this
          simp at this
          omega
        have HPS2 := Lib.hid (HPS.out.trans (if_neg hne))
        clear hne HPS hie
        by_cases hes : j = s.size
        · have hesi : ¬ ((j : Int) < (s.size : Int)) := by omega
          have hese : ((j : Int) == (s.size : Int)) = true := by rw [beq_iff_eq]; omega
          have HT : Hid (parT (f + 1) (dr s i) = some (.mk (s.extract i j) [], dr s j)) := by
            show _ = _
            rw [HPS2.out, dr_end s j (by omega)]
          clear HPS2 hes
          have y0 : (wr.alloc (.cells #[.string (s.extract i j), .slice none 0 0] tpT)).cell? ⟨yb, 0, none⟩ = some (.string (s.extract i j)) := by rw [Lib.cell_of_heap HNF.out.box]; rfl
          have y1 : (wr.alloc (.cells #[.string (s.extract i j), .slice none 0 0] tpT)).cell? ⟨yb, 1, none⟩ = some (.slice none 0 0) := by rw [Lib.cell_of_heap HNF.out.box]; rfl
          obtain ⟨g0, g1, g2, g3, g4, g5⟩ := box_facts HNF.out.res (s.extract i j) none 0 0
          have HFN := Lib.hid (Nf.fin HNF.out)
          have hl := HFN.out.load
          have hr := HFN.out.yes (i := i) HT.out hie2 HW1.out.2
          rw [hxb] at hl hr g0 g1 g2 g3 g4 g5
          have HL := Lib.hid hl
          have HR := Lib.hid hr
          clear HFN hl hr
          go_wp2_with fail
          try simp only [Exit.inBlock, Exit.then]
          refine bodyPost_ret (results_cell3T rfl _ _ _ ⟨xb, 0, none⟩ _ rfl HL.out) rfl ?_
          exact HR.out
        · have hjs : j < s.size := by omega
          have hjsi : (j : Int) < (s.size : Int) := by omega
          have hese : ((j : Int) == (s.size : Int)) = false := by rw [beq_eq_false_iff_ne]; omega
          obtain ⟨x, hx⟩ : ∃ x : UInt8, s[j]'hjs = x := ⟨_, rfl⟩
          have hm := HOUT.out hjs
          rw [hx] at hm
          have hd := dr_cons s j hjs
          rw [hx] at hd
          rcases mark_of hm with rfl | rfl | rfl
          · clear hm
            have HT : Hid (parT (f + 1) (dr s i) = (parL (parT f) ((dr s (j + 1)).length + 1) (dr s (j + 1))).map (fun x => (.mk (s.extract i j) x.1, x.2))) := by
              show _ = _
              rw [HPS2.out, hd]
              rfl
            clear HPS2 hd
            go_wp2_with fail
            clear hx hjsi hiei hese hsl
            obtain ⟨w3, hw3⟩ : ∃ y, wr.alloc (.cells #[.string (s.extract i j), .slice none 0 0] tpT) = y := ⟨_, rfl⟩
            rw [hw3] at HNF ⊢
            clear hw3
            go_loopw [7] (fun x wy => ∃ (j2 : Nat) (v : Value) (R : List Rw) (l : List Tp), x = .int .i64 (j2 : Int) ∧ j2 < s.size ∧ i < j2 ∧ Hid (Nf w wy yb (s.extract i j) v R l) ∧ Hid (Way (parT f) (dr s (j + 1)) l (dr s (j2 + 1))) ∧ Hid (l.length ≤ j2)) (fun x _ => s.size - (intOf x).toNat)
            case atStart => exact ⟨j, _, _, _, rfl, hjs, hie2, HNF, Way.start _ _, Nat.zero_le _⟩
            case round =>
              clear HNF
              obtain ⟨j2, v, R, l, rfl, hj2, hij2, HND, HW, HLN⟩ := hrel
              obtain ⟨wx, rfl⟩ : ∃ x, x = wr := ⟨wr, rfl⟩
              obtain ⟨pz, nz, cz, rfl⟩ := HND.out.row.slice
              have hc := hR s (j2 + 1) wx hs (by omega) (by omega)
              rw [show ((j2 + 1 : Nat) : Int) = (j2 : Int) + 1 from by push_cast; rfl] at hc
              have HC := Lib.hid hc
              have HLL : Hid (l.length ≤ 1000000000) := by have := HLN.out; show _ ≤ _; omega
              clear hc
              go_wp2_with fail
              refine HC.out.mono ?_
              clear HC
              rintro e w6 (⟨⟨sq, pq, nq, cq⟩, t, j3, rfl, hp, hij3, hjz3, hip, hb6⟩ | ⟨⟨sq, pq, nq, cq⟩, rfl, hno, hb6⟩)
              · have HP := Lib.hid hp
                have hb7 := below_box w6 (.cells #[.string sq, .slice pq nq cq] tpT)
                have HND6 := Lib.hid ((HND.out.later hb6).later hb7)
                have HIP := Lib.hid (show IsP (offK (fun j => yb + 1 ≤ j) (Value.slice pz nz cz).ownBlock) w6 ⟨sq, pq, nq, cq⟩ t from hip.mono (fun j hj => ⟨by have := heap_lt_of HND.out.box; omega, fun e => by have := (World.ownsRow.lt HND.out.row.own j e.symm).2; omega⟩))
                clear hp hip hb6 hb7 HND
                by_cases h3 : j3 = s.size
                · have h3e : ((j3 : Int) == (s.size : Int)) = true := by rw [beq_iff_eq]; omega
                  have HNO : Hid (parT (f + 1) (dr s i) = none) := by
                    show _ = _
                    have hq := HP.out
                    rw [dr_end s j3 (by omega)] at hq
                    rw [HT.out, HW.out.bad hq (by simp) (by simp)]
                    rfl
                  clear h3
                  have y0 : (w6.alloc (.cells #[.string sq, .slice pq nq cq] tpT)).cell? ⟨yb, 0, none⟩ = some (.string (s.extract i j)) := by rw [Lib.cell_of_heap HND6.out.box]; rfl
                  have y1 : (w6.alloc (.cells #[.string sq, .slice pq nq cq] tpT)).cell? ⟨yb, 1, none⟩ = some (.slice pz nz cz) := by rw [Lib.cell_of_heap HND6.out.box]; rfl
                  obtain ⟨g0, g1, g2, g3, g4, g5⟩ := box_facts HND6.out.res (s.extract i j) pz nz cz
                  have HFN := Lib.hid (Nf.fin HND6.out)
                  have hl := HFN.out.load
                  have hr := HFN.out.no (i := i) HNO.out
                  rw [hxb] at hl hr g0 g1 g2 g3 g4 g5
                  have HL := Lib.hid hl
                  have HR := Lib.hid hr
                  clear HFN hl hr
                  go_wp2_with fail
                  try simp only [Exit.inBlock, Exit.then]
                  refine bodyPost_ret (results_cell3T rfl _ _ _ ⟨xb, 0, none⟩ _ rfl HL.out) rfl ?_
                  exact HR.out
                · have h3s : j3 < s.size := by omega
                  have h3i : (j3 : Int) < (s.size : Int) := by omega
                  have h3e : ((j3 : Int) == (s.size : Int)) = false := by rw [beq_eq_false_iff_ne]; omega
                  obtain ⟨y, hy⟩ : ∃ y : UInt8, s[j3]'h3s = y := ⟨_, rfl⟩
                  have hdy := dr_cons s j3 h3s
                  rw [hy] at hdy
                  by_cases h44 : y = 44
                  · subst h44
                    have HW2 := Lib.hid (HW.out.next (by rw [HP.out, hdy]) (by rw [dr_len, dr_len]; omega))
                    clear hdy h3
                    have hb7 := below_box w6 (.cells #[.string sq, .slice pq nq cq] tpT)
                    have hn7 := heap_alloc_new w6 (.cells #[.string sq, .slice pq nq cq] tpT)
                    have HIP7 := Lib.hid (HIP.out.later hb7)
                    have k0 : (w6.alloc (.cells #[.string sq, .slice pq nq cq] tpT)).cell? ⟨w6.heap.size, 0, none⟩ = some (.string sq) := by rw [Lib.cell_of_heap hn7]; rfl
                    have k1 : (w6.alloc (.cells #[.string sq, .slice pq nq cq] tpT)).cell? ⟨w6.heap.size, 1, none⟩ = some (.slice pq nq cq) := by rw [Lib.cell_of_heap hn7]; rfl
                    have y1 : (w6.alloc (.cells #[.string sq, .slice pq nq cq] tpT)).cell? ⟨yb, 1, none⟩ = some (.slice pz nz cz) := by rw [Lib.cell_of_heap HND6.out.box]; rfl
                    have hb8 := below_box (w6.alloc (.cells #[.string sq, .slice pq nq cq] tpT)) (.cells #[.string sq, .slice pq nq cq] tpT)
                    have hc8 := cellsAt_alloc (w6.alloc (.cells #[.string sq, .slice pq nq cq] tpT)) (Rw.cells ⟨sq, pq, nq, cq⟩) tpT
                    rw [World.size_alloc] at hc8
                    have HND8 := Lib.hid (HND6.out.later hb8)
                    have HIP8 := Lib.hid (HIP7.out.later hb8)
                    have HC8 : Hid (CellsAt ((w6.alloc (.cells #[.string sq, .slice pq nq cq] tpT)).alloc (.cells #[.string sq, .slice pq nq cq] tpT)) (w6.heap.size + 1) 0 (Rw.cells ⟨sq, pq, nq, cq⟩)) := hc8
                    have HBS : Hid (yb + 1 ≤ ((w6.alloc (.cells #[.string sq, .slice pq nq cq] tpT)).alloc (.cells #[.string sq, .slice pq nq cq] tpT)).heap.size) := heap_lt_of HND8.out.box
                    clear hb7 hn7 hb8 hc8 HIP HIP7 HND6
                    go_wp2_with (at_builtin; refine wpList_appTp rfl (.tmp 88) (.tmp 90) rfl (yb + 1) (fun j => yb + 1 ≤ j) (.slice pz nz cz) R l rfl HND8.out.row _ ⟨sq, pq, nq, cq⟩ t rfl HC8.out HIP8.out HLL HBS.out ?_)
                    intro v9 w9 hr9 hg9
                    obtain ⟨p9, n9, c9, rfl⟩ := hr9.slice
                    have hbx := HND8.out.appBox hg9
                    have y9 : w9.cell? ⟨yb, 1, none⟩ = some (.slice pz nz cz) := by rw [Lib.cell_of_heap hbx]; rfl
                    have f9 : w9.frozen? ⟨yb, 1, none⟩ = false := Lib.frozen_of_heap hbx 1
                    have hnd10 := HND8.out.app hg9 hr9
                    have d0 : (w9.setCell ⟨yb, 1, none⟩ (.slice p9 n9 c9)).cell? ⟨yb, 0, none⟩ = some (.string (s.extract i j)) := by rw [Lib.cell_of_heap hnd10.box]; rfl
                    have d1 : (w9.setCell ⟨yb, 1, none⟩ (.slice p9 n9 c9)).cell? ⟨yb, 1, none⟩ = some (.slice p9 n9 c9) := by rw [Lib.cell_of_heap hnd10.box]; rfl
                    have HND10 := Lib.hid hnd10
                    clear hr9 hg9 hbx k0 k1 y1 HND8 HIP8 HC8 HBS hnd10
                    go_wp2_with fail
                    clear y9 f9 d0 d1
                    generalize hw10 : w9.setCell ⟨yb, 1, none⟩ (.slice p9 n9 c9) = w10 at HND10 ⊢
                    clear hw10
                    go_wp2_with fail
                    go_roundw
                    case rel => exact ⟨j3, _, _, _, rfl, h3s, by omega, HND10, HW2, by have := HLN.out; show _ ≤ _; rw [List.length_append, List.length_singleton]; omega⟩
                    case measure => simp [intOf]; omega
                  · by_cases h62 : y = 62
                    · subst h62
                      have HT2 : Hid (parT (f + 1) (dr s i) = some (.mk (s.extract i j) (l ++ [t]), dr s (j3 + 1))) := by
                        show _ = _
                        rw [HT.out, HW.out.fin (by rw [HP.out, hdy])]
                        rfl
                      clear hdy h3
                      have hb7 := below_box w6 (.cells #[.string sq, .slice pq nq cq] tpT)
                      have hn7 := heap_alloc_new w6 (.cells #[.string sq, .slice pq nq cq] tpT)
                      have HIP7 := Lib.hid (HIP.out.later hb7)
                      have k0 : (w6.alloc (.cells #[.string sq, .slice pq nq cq] tpT)).cell? ⟨w6.heap.size, 0, none⟩ = some (.string sq) := by rw [Lib.cell_of_heap hn7]; rfl
                      have k1 : (w6.alloc (.cells #[.string sq, .slice pq nq cq] tpT)).cell? ⟨w6.heap.size, 1, none⟩ = some (.slice pq nq cq) := by rw [Lib.cell_of_heap hn7]; rfl
                      have y1 : (w6.alloc (.cells #[.string sq, .slice pq nq cq] tpT)).cell? ⟨yb, 1, none⟩ = some (.slice pz nz cz) := by rw [Lib.cell_of_heap HND6.out.box]; rfl
                      have hb8 := below_box (w6.alloc (.cells #[.string sq, .slice pq nq cq] tpT)) (.cells #[.string sq, .slice pq nq cq] tpT)
                      have hc8 := cellsAt_alloc (w6.alloc (.cells #[.string sq, .slice pq nq cq] tpT)) (Rw.cells ⟨sq, pq, nq, cq⟩) tpT
                      rw [World.size_alloc] at hc8
                      have HND8 := Lib.hid (HND6.out.later hb8)
                      have HIP8 := Lib.hid (HIP7.out.later hb8)
                      have HC8 : Hid (CellsAt ((w6.alloc (.cells #[.string sq, .slice pq nq cq] tpT)).alloc (.cells #[.string sq, .slice pq nq cq] tpT)) (w6.heap.size + 1) 0 (Rw.cells ⟨sq, pq, nq, cq⟩)) := hc8
                      have HBS : Hid (yb + 1 ≤ ((w6.alloc (.cells #[.string sq, .slice pq nq cq] tpT)).alloc (.cells #[.string sq, .slice pq nq cq] tpT)).heap.size) := heap_lt_of HND8.out.box
                      clear hb7 hn7 hb8 hc8 HIP HIP7 HND6
                      go_wp2_with (at_builtin; refine wpList_appTp rfl (.tmp 88) (.tmp 90) rfl (yb + 1) (fun j => yb + 1 ≤ j) (.slice pz nz cz) R l rfl HND8.out.row _ ⟨sq, pq, nq, cq⟩ t rfl HC8.out HIP8.out HLL HBS.out ?_)
                      intro v9 w9 hr9 hg9
                      obtain ⟨p9, n9, c9, rfl⟩ := hr9.slice
                      have hbx := HND8.out.appBox hg9
                      have y9 : w9.cell? ⟨yb, 1, none⟩ = some (.slice pz nz cz) := by rw [Lib.cell_of_heap hbx]; rfl
                      have f9 : w9.frozen? ⟨yb, 1, none⟩ = false := Lib.frozen_of_heap hbx 1
                      have hnd10 := HND8.out.app hg9 hr9
                      have d0 : (w9.setCell ⟨yb, 1, none⟩ (.slice p9 n9 c9)).cell? ⟨yb, 0, none⟩ = some (.string (s.extract i j)) := by rw [Lib.cell_of_heap hnd10.box]; rfl
                      have d1 : (w9.setCell ⟨yb, 1, none⟩ (.slice p9 n9 c9)).cell? ⟨yb, 1, none⟩ = some (.slice p9 n9 c9) := by rw [Lib.cell_of_heap hnd10.box]; rfl
                      have HND10 := Lib.hid hnd10
                      clear hr9 hg9 hbx k0 k1 y1 HND8 HIP8 HC8 HBS hnd10
                      have h3w : IntKind.i64.wrap ((j3 : Int) + 1) = (j3 : Int) + 1 := IntWalk.i64_in _ (by omega)
                      obtain ⟨g0, g1, g2, g3, g4, g5⟩ := box_facts HND10.out.res (s.extract i j) p9 n9 c9
                      have hl := HND10.out.fin.load
                      have hr := HND10.out.fin.yes (i := i) HT2.out (by omega) (by omega)
                      rw [hxb] at hl hr g0 g1 g2 g3 g4 g5
                      rw [show ((j3 + 1 : Nat) : Int) = (j3 : Int) + 1 from by push_cast; rfl] at hr
                      have HL := Lib.hid hl
                      have HR := Lib.hid hr
                      clear hl hr
                      go_wp2_with fail
                      try simp only [Exit.inBlock, Exit.then]
                      refine bodyPost_ret (results_cell3T rfl _ _ _ ⟨xb, 0, none⟩ _ rfl HL.out) rfl ?_
                      exact HR.out
                    · have HNO : Hid (parT (f + 1) (dr s i) = none) := by
                        show _ = _
                        rw [HT.out, HW.out.bad HP.out (by rw [hdy]; intro h; exact h44 (Option.some.inj h)) (by rw [hdy]; intro h; exact h62 (Option.some.inj h))]
                        rfl
                      have c44 : ((y.toNat : Int) != 44) = true := byte_ne h44
                      have c62 : ((y.toNat : Int) != 62) = true := byte_ne h62
                      clear h44 h62 hdy h3
                      have y0 : (w6.alloc (.cells #[.string sq, .slice pq nq cq] tpT)).cell? ⟨yb, 0, none⟩ = some (.string (s.extract i j)) := by rw [Lib.cell_of_heap HND6.out.box]; rfl
                      have y1 : (w6.alloc (.cells #[.string sq, .slice pq nq cq] tpT)).cell? ⟨yb, 1, none⟩ = some (.slice pz nz cz) := by rw [Lib.cell_of_heap HND6.out.box]; rfl
                      obtain ⟨g0, g1, g2, g3, g4, g5⟩ := box_facts HND6.out.res (s.extract i j) pz nz cz
                      have HFN := Lib.hid (Nf.fin HND6.out)
                      have hl := HFN.out.load
                      have hr := HFN.out.no (i := i) HNO.out
                      rw [hxb] at hl hr g0 g1 g2 g3 g4 g5
                      have HL := Lib.hid hl
                      have HR := Lib.hid hr
                      clear HFN hl hr
                      go_wp2_with fail
                      try simp only [Exit.inBlock, Exit.then]
                      refine bodyPost_ret (results_cell3T rfl _ _ _ ⟨xb, 0, none⟩ _ rfl HL.out) rfl ?_
                      exact HR.out
              · have HNO : Hid (parT (f + 1) (dr s i) = none) := by
                  show _ = _
                  rw [HT.out, HW.out.none hno]
                  rfl
                have HND6 := Lib.hid ((HND.out.later hb6).later (below_box w6 (.cells #[.string sq, .slice pq nq cq] tpT)))
                clear hno hb6 HND
                have y0 : (w6.alloc (.cells #[.string sq, .slice pq nq cq] tpT)).cell? ⟨yb, 0, none⟩ = some (.string (s.extract i j)) := by rw [Lib.cell_of_heap HND6.out.box]; rfl
                have y1 : (w6.alloc (.cells #[.string sq, .slice pq nq cq] tpT)).cell? ⟨yb, 1, none⟩ = some (.slice pz nz cz) := by rw [Lib.cell_of_heap HND6.out.box]; rfl
                obtain ⟨g0, g1, g2, g3, g4, g5⟩ := box_facts HND6.out.res (s.extract i j) pz nz cz
                have HFN := Lib.hid (Nf.fin HND6.out)
                have hl := HFN.out.load
                have hr := HFN.out.no (i := i) HNO.out
                rw [hxb] at hl hr g0 g1 g2 g3 g4 g5
                have HL := Lib.hid hl
                have HR := Lib.hid hr
                clear HFN hl hr
                go_wp2_with fail
                try simp only [Exit.inBlock, Exit.then]
                refine bodyPost_ret (results_cell3T rfl _ _ _ ⟨xb, 0, none⟩ _ rfl HL.out) rfl ?_
                exact HR.out
          · clear hm
            have HT : Hid (parT (f + 1) (dr s i) = some (.mk (s.extract i j) [], dr s j)) := by
              show _ = _
              rw [HPS2.out, hd]
              rfl
            clear HPS2 hd
            have y0 : (wr.alloc (.cells #[.string (s.extract i j), .slice none 0 0] tpT)).cell? ⟨yb, 0, none⟩ = some (.string (s.extract i j)) := by rw [Lib.cell_of_heap HNF.out.box]; rfl
            have y1 : (wr.alloc (.cells #[.string (s.extract i j), .slice none 0 0] tpT)).cell? ⟨yb, 1, none⟩ = some (.slice none 0 0) := by rw [Lib.cell_of_heap HNF.out.box]; rfl
            obtain ⟨g0, g1, g2, g3, g4, g5⟩ := box_facts HNF.out.res (s.extract i j) none 0 0
            have HFN := Lib.hid (Nf.fin HNF.out)
            have hl := HFN.out.load
            have hr := HFN.out.yes (i := i) HT.out hie2 HW1.out.2
            rw [hxb] at hl hr g0 g1 g2 g3 g4 g5
            have HL := Lib.hid hl
            have HR := Lib.hid hr
            clear HFN hl hr
            go_wp2_with fail
            try simp only [Exit.inBlock, Exit.then]
            refine bodyPost_ret (results_cell3T rfl _ _ _ ⟨xb, 0, none⟩ _ rfl HL.out) rfl ?_
            exact HR.out
          · clear hm
            have HT : Hid (parT (f + 1) (dr s i) = some (.mk (s.extract i j) [], dr s j)) := by
              show _ = _
              rw [HPS2.out, hd]
              rfl
            clear HPS2 hd
            have y0 : (wr.alloc (.cells #[.string (s.extract i j), .slice none 0 0] tpT)).cell? ⟨yb, 0, none⟩ = some (.string (s.extract i j)) := by rw [Lib.cell_of_heap HNF.out.box]; rfl
            have y1 : (wr.alloc (.cells #[.string (s.extract i j), .slice none 0 0] tpT)).cell? ⟨yb, 1, none⟩ = some (.slice none 0 0) := by rw [Lib.cell_of_heap HNF.out.box]; rfl
            obtain ⟨g0, g1, g2, g3, g4, g5⟩ := box_facts HNF.out.res (s.extract i j) none 0 0
            have HFN := Lib.hid (Nf.fin HNF.out)
            have hl := HFN.out.load
            have hr := HFN.out.yes (i := i) HT.out hie2 HW1.out.2
            rw [hxb] at hl hr g0 g1 g2 g3 g4 g5
            have HL := Lib.hid hl
            have HR := Lib.hid hr
            clear HFN hl hr
            go_wp2_with fail
            try simp only [Exit.inBlock, Exit.then]
            refine bodyPost_ret (results_cell3T rfl _ _ _ ⟨xb, 0, none⟩ _ rfl HL.out) rfl ?_
            exact HR.out
end Go.Proofs.Ytbnnokibjccdaaa

/-
  CONTRACT: the reference's Parse of any text.
-/
namespace Go.Proofs.Ytbnnokibjccdaaa
open Go Go.RowKit Go.Maps
set_option linter.unusedVariables false
set_option linter.unusedSimpArgs false
set_option maxRecDepth 100000

theorem read_any : ∀ f, ReadC f
  | 0 => fun s i w hs hi hf => absurd hf (Nat.not_lt_zero _)
  | f + 1 => read_step f (read_any f)
theorem dr0 (s : ByteArray) : dr s 0 = s.data.toList := List.drop_zero ..
set_option maxHeartbeats 4000000 in
theorem rparse_any (s : ByteArray) (w : World) (hs : s.size ≤ 1000000000) : Calls Try.prog 21 #[.string s] w (ParseRet s w) := by
  have hb1 := below_box w (.cells #[.string ⟨#[]⟩, .slice none 0 0] tpT)
  have hn1 := heap_alloc_new w (.cells #[.string ⟨#[]⟩, .slice none 0 0] tpT)
  have hs1 : (w.alloc (.cells #[.string ⟨#[]⟩, .slice none 0 0] tpT)).heap.size = w.heap.size + 1 := World.size_alloc _ _
  obtain ⟨w2, hw2⟩ : ∃ y, w.alloc (.cells #[.string ⟨#[]⟩, .slice none 0 0] tpT) = y := ⟨_, rfl⟩
  rw [hw2] at hb1 hn1 hs1
  have HC := Lib.hid (read_any (s.size + 1) s 0 w2 hs (Nat.zero_le _) (by omega))
  have HX2 := Lib.hid hn1
  have HB2 := Lib.hid hb1
  have HS2 := Lib.hid hs1
  clear hb1 hn1 hs1
  go_enter Try.func21, Try.ntmps21
  go_wp2_with fail
  clear hw2
  refine HC.out.mono ?_
  clear HC
  have key : ∀ {w3 : World}, Below w2.heap.size w2 w3 → Below w.heap.size w w3 ∧ w3.heap[w.heap.size]? = some (.cells #[.string ⟨#[]⟩, .slice none 0 0] tpT (0, 0)) ∧ w.heap.size < w3.heap.size := fun {w3} hb => by
    have h1 := hb.size
    have h2 := HS2.out
    exact ⟨HB2.out.trans (hb.mono (by omega)), (hb.block w.heap.size (by omega)).trans HX2.out, by omega⟩
  rintro e w3 (⟨⟨sq, pq, nq, cq⟩, t, j, rfl, hp, hij, hjz, hip, hb6⟩ | ⟨⟨sq, pq, nq, cq⟩, rfl, hno, hb6⟩)
  · rw [dr0] at hp
    have hsz := parT_size _ _ _ _ hp
    rw [data_len] at hsz
    obtain ⟨hB3, hx3, hl3⟩ := key hb6
    have hb4 := below_box w3 (.cells #[.string sq, .slice pq nq cq] tpT)
    have hn4 := heap_alloc_new w3 (.cells #[.string sq, .slice pq nq cq] tpT)
    have hx4 := (hb4.block _ hl3).trans hx3
    have hB4 := hB3.trans (hb4.mono (Nat.le_of_lt hl3))
    have hip4 := hip.later hb4
    have k0 : (w3.alloc (.cells #[.string sq, .slice pq nq cq] tpT)).cell? ⟨w3.heap.size, 0, none⟩ = some (.string sq) := by rw [Lib.cell_of_heap hn4]; rfl
    have k1 : (w3.alloc (.cells #[.string sq, .slice pq nq cq] tpT)).cell? ⟨w3.heap.size, 1, none⟩ = some (.slice pq nq cq) := by rw [Lib.cell_of_heap hn4]; rfl
    by_cases h0 : j = s.size
    · have hq : ((j : Int) != (s.size : Int)) = false := by rw [h0]; simp
      have hde : dr s j = [] := dr_end s j (by omega)
      rw [hde] at hp
      have HRS := Lib.hid (rsize_any t ⟨sq, pq, nq, cq⟩ _ hip4 (by omega))
      have HX4 := Lib.hid hx4
      have HN4 := Lib.hid hn4
      have HB4 := Lib.hid hB4
      have HL4 : Hid (w3.heap.size < (w3.alloc (.cells #[.string sq, .slice pq nq cq] tpT)).heap.size) := heap_lt_of hn4
      have HL5 : Hid (w.heap.size < (w3.alloc (.cells #[.string sq, .slice pq nq cq] tpT)).heap.size) := heap_lt_of hx4
      have HIP := Lib.hid hip4
      have HPP := Lib.hid hp
      have HSZ := Lib.hid hsz
      clear hB3 hx3 hl3 hb4 hn4 hx4 hB4 hip4 hp hij hjz hip hb6 key HX2 hde hsz h0
      go_wp2_with fail
      obtain ⟨w4, hw4⟩ : ∃ y, w3.alloc (.cells #[.string sq, .slice pq nq cq] tpT) = y := ⟨_, rfl⟩
      rw [hw4] at HRS HX4 HN4 HB4 HL4 HL5 HIP k0 k1 ⊢
      clear hw4 k0 k1
      refine HRS.out.mono ?_
      rintro e w5 ⟨rfl, hb5⟩
      have hn5 := (hb5.block _ HL4.out).trans HN4.out
      have hx5 := (hb5.block _ HL5.out).trans HX4.out
      have hB5 := HB4.out.trans (hb5.mono (Nat.le_of_lt HL5.out))
      have hip5 := HIP.out.later hb5
      have k0 : w5.cell? ⟨w3.heap.size, 0, none⟩ = some (.string sq) := by rw [Lib.cell_of_heap hn5]; rfl
      have k1 : w5.cell? ⟨w3.heap.size, 1, none⟩ = some (.slice pq nq cq) := by rw [Lib.cell_of_heap hn5]; rfl
      by_cases hg : sizeP t ≤ 20000
      · have hgi : ¬ (20000 : Int) < (sizeP t : Int) := by omega
        obtain ⟨g0, g1, g2, g3, g4, g5⟩ := box_facts hx5 sq pq nq cq
        have HL := Lib.hid (load_tp _ _ _ _ _ _ (box_store hx5 sq pq nq cq))
        have HV : Hid (parseV s = some t) := parseV_nil HPP.out hg
        have HBF : Hid (Below w.heap.size w ((w5.setCell ⟨w.heap.size, 0, none⟩ (.string sq)).setCell ⟨w.heap.size, 1, none⟩ (.slice pq nq cq))) := (hB5.setCell (p := ⟨w.heap.size, 0, none⟩) (Nat.le_refl _) _).setCell (p := ⟨w.heap.size, 1, none⟩) (Nat.le_refl _) _
        have hbut : But (fun a => a.block = w.heap.size) w5 ((w5.setCell ⟨w.heap.size, 0, none⟩ (.string sq)).setCell ⟨w.heap.size, 1, none⟩ (.slice pq nq cq)) := (But.setCell (M := fun a => a.block = w.heap.size) _ ⟨w.heap.size, 0, none⟩ _ rfl).trans (But.setCell (M := fun a => a.block = w.heap.size) _ ⟨w.heap.size, 1, none⟩ _ rfl)
        have HIF := Lib.hid ((hip5.but hbut (fun a e k => by have e' : a.block = w.heap.size := e; have := HS2.out; omega)).mono (A' := fun j => w.heap.size ≤ j) (fun j hj => by have := HS2.out; omega))
        clear hb5 hn5 hx5 hB5 hip5 hbut
        go_wp2_with fail
        try simp only [Exit.inBlock, Exit.then]
        refine bodyPost_ret (results_cell2T rfl _ _ _ ⟨w.heap.size, 0, none⟩ _ rfl HL.out) rfl ?_
        exact .inl ⟨⟨sq, pq, nq, cq⟩, t, rfl, HV.out, HIF.out, HBF.out⟩
      · have hgi : (20000 : Int) < (sizeP t : Int) := by omega
        obtain ⟨g0, g1, g2, g3, g4, g5⟩ := box_facts hx5 ⟨#[]⟩ none 0 0
        have HL := Lib.hid (load_tp _ _ _ _ _ _ (box_store hx5 ⟨#[]⟩ none 0 0))
        have HV : Hid (parseV s = none) := parseV_big HPP.out hg
        have HBF : Hid (Below w.heap.size w ((w5.setCell ⟨w.heap.size, 0, none⟩ (.string ⟨#[]⟩)).setCell ⟨w.heap.size, 1, none⟩ (.slice none 0 0))) := (hB5.setCell (p := ⟨w.heap.size, 0, none⟩) (Nat.le_refl _) _).setCell (p := ⟨w.heap.size, 1, none⟩) (Nat.le_refl _) _
        clear hb5 hn5 hx5 hB5 hip5
        go_wp2_with fail
        try simp only [Exit.inBlock, Exit.then]
        refine bodyPost_ret (results_cell2T rfl _ _ _ ⟨w.heap.size, 0, none⟩ _ rfl HL.out) rfl ?_
        exact .inr ⟨rfl, HV.out, HBF.out⟩
    · have hq : ((j : Int) != (s.size : Int)) = true := by rw [bne_iff_ne]; omega
      obtain ⟨g0, g1, g2, g3, g4, g5⟩ := box_facts hx4 ⟨#[]⟩ none 0 0
      have HL := Lib.hid (load_tp _ _ _ _ _ _ (box_store hx4 ⟨#[]⟩ none 0 0))
      have HV : Hid (parseV s = none) := parseV_more hp (by intro h; have := dr_len s j; rw [h] at this; simp at this; omega)
      have HBF : Hid (Below w.heap.size w (((w3.alloc (.cells #[.string sq, .slice pq nq cq] tpT)).setCell ⟨w.heap.size, 0, none⟩ (.string ⟨#[]⟩)).setCell ⟨w.heap.size, 1, none⟩ (.slice none 0 0))) := (hB4.setCell (p := ⟨w.heap.size, 0, none⟩) (Nat.le_refl _) _).setCell (p := ⟨w.heap.size, 1, none⟩) (Nat.le_refl _) _
      clear hB3 hx3 hl3 hb4 hn4 hx4 hB4 hip4 hp hij hjz hip hb6 h0 key HX2 hsz
      go_wp2_with fail
      try simp only [Exit.inBlock, Exit.then]
      refine bodyPost_ret (results_cell2T rfl _ _ _ ⟨w.heap.size, 0, none⟩ _ rfl HL.out) rfl ?_
      exact .inr ⟨rfl, HV.out, HBF.out⟩
  · obtain ⟨hB3, hx3, hl3⟩ := key hb6
    have hb4 := below_box w3 (.cells #[.string sq, .slice pq nq cq] tpT)
    have hx4 := (hb4.block _ hl3).trans hx3
    have hB4 := hB3.trans (hb4.mono (Nat.le_of_lt hl3))
    rw [dr0] at hno
    obtain ⟨g0, g1, g2, g3, g4, g5⟩ := box_facts hx4 ⟨#[]⟩ none 0 0
    have HL := Lib.hid (load_tp _ _ _ _ _ _ (box_store hx4 ⟨#[]⟩ none 0 0))
    have HV := Lib.hid (parseV_no (fun t r h => by rw [hno] at h; cases h) : parseV s = none)
    have HBF : Hid (Below w.heap.size w (((w3.alloc (.cells #[.string sq, .slice pq nq cq] tpT)).setCell ⟨w.heap.size, 0, none⟩ (.string ⟨#[]⟩)).setCell ⟨w.heap.size, 1, none⟩ (.slice none 0 0))) := (hB4.setCell (p := ⟨w.heap.size, 0, none⟩) (Nat.le_refl _) _).setCell (p := ⟨w.heap.size, 1, none⟩) (Nat.le_refl _) _
    clear hB3 hx3 hl3 hb4 hx4 hB4 hno hb6 key HX2
    go_wp2_with fail
    try simp only [Exit.inBlock, Exit.then]
    refine bodyPost_ret (results_cell2T rfl _ _ _ ⟨w.heap.size, 0, none⟩ _ rfl HL.out) rfl ?_
    exact .inr ⟨rfl, HV.out, HBF.out⟩
end Go.Proofs.Ytbnnokibjccdaaa
