/-
  CONTRACT: (*Dice).Type: the types that statements make.
-/
import Derived.Test.YtbnnokibjccdaaaTpG
import Derived.Test.YtbnnokibjccdaaaTpC0
namespace Go.Proofs.Ytbnnokibjccdaaa
open Go Go.RowKit Go.Maps
set_option linter.unusedVariables false
set_option linter.unusedSimpArgs false
set_option maxRecDepth 1000000

def Strs (φ : ByteArray → Prop) (w : World) (p : Option Addr) (m : Nat) : Prop :=
  ∀ i, i < m → ∃ b o, ∃ s : ByteArray, p = some ⟨b, o, none⟩ ∧ w.cell? ⟨b, o + i, none⟩ = some (.string s) ∧ φ s
theorem Strs.keep {φ : ByteArray → Prop} {M : Addr → Prop} {w w' : World} {p : Option Addr} {n : Nat} (h : Strs φ w p n) (hb : But M w w') (hm : ∀ b o i, p = some ⟨b, o, none⟩ → ¬ M ⟨b, i, none⟩) : Strs φ w' p n := by
  intro i hi
  obtain ⟨b, o, s, hp, hc, hs⟩ := h i hi
  exact ⟨b, o, s, hp, hb.keep hc (hm b o _ hp), hs⟩
theorem Strs.thrown {φ : ByteArray → Prop} {d : Dice} {w w' : World} {p : Option Addr} {n : Nat} (h : Strs φ w p n) (ht : Thrown d w w') (hp : ∀ b o, p = some ⟨b, o, none⟩ → b ≠ d.D) : Strs φ w' p n :=
  h.keep ht.but (fun b o i e q => by unfold isAt at q; injection q with q1 _ _; exact hp b o e q1)
theorem Strs.mono {φ ψ : ByteArray → Prop} {w : World} {p : Option Addr} {n : Nat} (h : Strs φ w p n) (hm : ∀ s, φ s → ψ s) : Strs ψ w p n := by
  intro i hi
  obtain ⟨b, o, s, hp, hc, hs⟩ := h i hi
  exact ⟨b, o, s, hp, hc, hm s hs⟩
/-- (*Dice).Of, of strings with φ -/
theorem ofS_any (φ : ByteArray → Prop) (d : Dice) (m cap b o : Nat) (w : World) (hd : DiceAt d w) (h1 : 1 ≤ m) (h2 : m ≤ 1000000) (hs : Strs φ w (some ⟨b, o, none⟩) m) (hb : b ≠ d.D) :
    Calls Try.prog 39 #[.pointer (some ⟨d.D, 0, none⟩), .slice (some ⟨b, o, none⟩) m cap] w fun e w' => ∃ s : ByteArray, φ s ∧ e = .returned (.string s) ∧ Thrown d w w' := by
  have HD := Lib.hid hd
  have HS := Lib.hid hs
  clear hd hs
  go_enter Try.func39, Try.ntmps39
  go_wp2_with (go_at_call 40; refine (next_any d m _ HD.out h1 (by omega)).mono ?_; rintro e w1 ⟨k, hk, rfl, ht, -⟩; obtain ⟨b', o', s, hp, hc, hn⟩ := (HS.out.thrown ht (fun x y e => by injection e with e; injection e with e _ _; omega)) k hk; injection hp with hp; injection hp with hp1 hp2 _; subst hp1; subst hp2; have HT := Lib.hid ht; have HN := Lib.hid hn; clear ht hn)
  go_ret
  exact ⟨s, HN.out, rfl, HT.out⟩


def namesT : List ByteArray := [⟨#[105, 110, 116]⟩, ⟨#[98, 111, 111, 108]⟩, ⟨#[97, 58, 58, 80]⟩, ⟨#[36, 84]⟩, ⟨#[36, 85]⟩, ⟨#[63, 48]⟩, ⟨#[63, 49]⟩, ⟨#[63, 50]⟩, ⟨#[63, 51]⟩, ⟨#[101, 114, 114, 111, 114]⟩, ⟨#[97, 58, 58, 66, 111, 120]⟩, ⟨#[117, 110, 105, 116]⟩]
/-- a type that dice make, of at most k levels of args -/
inductive MadeT : Nat → Tp → Prop
  | mk (k : Nat) (s : ByteArray) (l : List Tp) : s ∈ namesT → l.length ≤ 2 → (k = 0 → l = []) → (∀ t, t ∈ l → MadeT (k - 1) t) → MadeT k (.mk s l)
def tp0 : Tp := .mk ⟨#[105, 110, 116]⟩ []
theorem madeT0 (k : Nat) : MadeT k tp0 := .mk k _ [] (List.Mem.head _) (Nat.zero_le _) (fun _ => rfl) (fun t h => by cases h)
def awayT (d : Dice) (row : Option Nat) (B : Nat) : Nat → Prop := fun k => (B ≤ k ∧ some k ≠ row) ∧ k ≠ d.D
theorem tp_fresh {d : Dice} {row : Option Nat} {B : Nat} {W w : World} {q : Rw} {t : Tp} (h : IsP (fun k => W.heap.size ≤ k) w q t) (hB : B ≤ W.heap.size) (hD : d.D < W.heap.size) (hr : ∀ j, row = some j → j < W.heap.size) : IsP (awayT d row B) w q t :=
  h.mono fun k hk => ⟨⟨by omega, fun e => by have := hr k e.symm; omega⟩, by omega⟩
/-- a type that was drawn -/
def tvTp (d : Dice) (row : Option Nat) (B dep : Nat) : TyV := ⟨{x : Rw × Tp // MadeT dep x.2}, ⟨⟨(default, tp0), madeT0 _⟩⟩, fun x => .agg #[.string x.1.1.name, .slice x.1.1.p x.1.1.n x.1.1.cap], fun x w => IsP (awayT d row B) w x.1.1 x.1.2⟩
theorem tvTp_good (d : Dice) (row : Option Nat) (B dep c k : Nat) : Good (AD d) (fun x y => x.grownBy y row) c k (tvTp d row B dep) :=
  ⟨fun x w w' hl h => IsP.keepB h (fun k hk hlt => hl.block k hlt hk.2), fun _ x w w' hl h => IsP.keepB h (fun k hk hlt => hl.block k hlt hk.1.2)⟩
theorem tvTp_f (d : Dice) (row : Option Nat) (B dep : Nat) (q : Rw) (t : Tp) (h : MadeT dep t) : (tvTp d row B dep).f ⟨(q, t), h⟩ = .agg #[.string q.name, .slice q.p q.n q.cap] := rfl
/-- one type in a slice that was just laid -/
def tvOneT (d : Dice) (row : Option Nat) (B dep : Nat) : TyV := ⟨{x : Nat × Rw × Tp // MadeT dep x.2.2}, ⟨⟨(0, default, tp0), madeT0 _⟩⟩, fun x => .slice (some ⟨x.1.1, 0, none⟩) 1 1, fun x w => CellsAt w x.1.1 0 (Rw.cells x.1.2.1) ∧ some x.1.1 ≠ row ∧ x.1.1 < w.heap.size ∧ x.1.1 ≠ d.D ∧ IsP (awayT d row B) w x.1.2.1 x.1.2.2⟩
theorem cells_sameT {w w' : World} {b off : Nat} {cs : List Value} (h : CellsAt w b off cs) (e : w'.heap[b]? = w.heap[b]?) : CellsAt w' b off cs := fun j v hv => by
  rw [World.cell?_of_block (w := w) e]; exact h j v hv
theorem tvOneT_good (d : Dice) (row : Option Nat) (B dep c k : Nat) : Good (AD d) (fun x y => x.grownBy y row) c k (tvOneT d row B dep) :=
  ⟨fun x w w' hl h => ⟨cells_sameT h.1 (hl.block x.1.1 h.2.2.1 h.2.2.2.1), h.2.1, Nat.lt_of_lt_of_le h.2.2.1 hl.size, h.2.2.2.1, IsP.keepB h.2.2.2.2 (fun k hk hlt => hl.block k hlt hk.2)⟩,
   fun _ x w w' hl h => ⟨cells_sameT h.1 (hl.block x.1.1 h.2.2.1 h.2.1), h.2.1, Nat.lt_of_lt_of_le h.2.2.1 hl.size, h.2.2.2.1, IsP.keepB h.2.2.2.2 (fun k hk hlt => hl.block k hlt hk.1.2)⟩⟩
theorem tvOneT_f (d : Dice) (row : Option Nat) (B dep b : Nat) (q : Rw) (t : Tp) (h : MadeT dep t) : (tvOneT d row B dep).f ⟨(b, q, t), h⟩ = .slice (some ⟨b, 0, none⟩) 1 1 := rfl
theorem tvOneT_mk {d : Dice} {row : Option Nat} {B dep : Nat} {q : Rw} {t : Tp} {w : World} {c k : Nat} {P : Program} {Pn : Ending → World → Prop} (hm : MadeT dep t) (hq : IsP (awayT d row B) w q t) (hlow : DcLow d w.heap.size) (hr : ∀ j, row = some j → j < w.heap.size) (h : k ≠ c) :
    oneUpon P (sel (AD d) (fun x y => x.grownBy y row) c k) Pn (tvOneT d row B dep) w (.ok (.value (.slice (some ⟨w.heap.size, 0, none⟩) 1 1)) (w.alloc (.cells #[.string q.name, .slice q.p q.n q.cap] tpT))) := by
  refine ⟨?_, ⟨(w.heap.size, q, t), hm⟩, rfl, cellsAt_alloc w (Rw.cells q) tpT, fun e => ?_, by simp, fun e => ?_, hq.later (below_box w _)⟩
  · unfold sel; rw [if_neg h]; exact Dr.of_below (below_box w _) hlow
  · have := hr _ e.symm; simp only at this; omega
  · have := hlow.1; simp only at e; omega
/-- the list with one more -/
def tvAppT (base : Nat) (R : List Rw) (l : List Tp) (dep : Nat) : TyV := ⟨{x : Value × Rw × Tp // MadeT dep x.2.2}, ⟨⟨(undef, default, tp0), madeT0 _⟩⟩, fun x => x.1.1, fun x w => TRow w base x.1.1 (R ++ [x.1.2.1]) (l ++ [x.1.2.2])⟩
theorem tvAppT_good (d : Dice) (row : Option Nat) (base : Nat) (R : List Rw) (l : List Tp) (dep c : Nat) (hD : d.D < base) : Good (AD d) (fun x y => x.grownBy y row) c c (tvAppT base R l dep) :=
  ⟨fun x w w' hl h => TRow.dr h hl hD (Nat.le_refl _), fun hk => absurd rfl hk⟩
theorem tvAppT_f (base : Nat) (R : List Rw) (l : List Tp) (dep : Nat) (v : Value) (q : Rw) (t : Tp) (h : MadeT dep t) : (tvAppT base R l dep).f ⟨(v, q, t), h⟩ = v := rfl
theorem tvAppT_mk {d : Dice} {row : Option Nat} {base c sb dep : Nat} {R : List Rw} {l : List Tp} {q : Rw} {t : Tp} {v : Value} {w : World} {Pn : Ending → World → Prop} (hm : MadeT dep t) (hv : TRow w base v R l) (hrow : row = v.ownBlock) (hx : CellsAt w sb 0 (Rw.cells q)) (hq : IsP (awayT d row base) w q t) (hl : l.length ≤ 100) (hb : base ≤ w.heap.size) (ty : TypeId) :
    ∃ v' w', (Builtin.append_ #[22, 22] ty #[v, .slice (some ⟨sb, 0, none⟩) 1 1]).run Try.prog w = .ok v' w' ∧ oneUpon Try.prog (sel (AD d) (fun x y => x.grownBy y row) c c) Pn (tvAppT base R l dep) w (.ok (.value v') w') := by
  obtain ⟨i0, hi0, hz0, hz1, hz2⟩ := info_parts infoTp
  have hRl := hv.len
  obtain ⟨v', w', hr, h2, h3, _, h5⟩ := run_append_own_at (P := Try.prog) w base 22 ty tpT i0 (.agg #[.string ⟨#[]⟩, .slice none 0 0]) 2 40 Try.underlying22 hi0 hz0 hz1 hz2 rfl (by decide) v R.length (rwEnc.all R) hv.own ⟨sb, 0, none⟩ 1 1 (Rw.cells q) rfl (fun j u hj => by rw [add_lit]; exact hx j u hj) (fun u hu => rwEnc.one q u hu) (by unfold maxLen; omega) (by omega) hb
  refine ⟨v', w', hr, ?_, ⟨(v', q, t), hm⟩, rfl, ?_⟩
  · unfold sel; rw [if_pos rfl, hrow]; exact h3
  · refine hv.push h3 ?_ h5 (hq.mono (fun k hk => ⟨hk.1.1, by rw [← hrow]; exact hk.1.2⟩)) (fun A q t h => h.here)
    unfold OwnL
    rw [List.length_append, rwEnc.all_append, show rwEnc.all [q] = Rw.cells q by simp [Enc.all, rwEnc]]
    exact h2
/-- the Args of a type under way -/
theorem Dr.arg {d : Dice} {yb : Nat} {wx W : World} {s : ByteArray} {v : Value} (h : Dr d (yb + 1) wx.drew W) (hb : wx.heap[yb]? = some (.cells #[.string s, v] tpT (0, 0))) (hD : yb ≠ d.D) (_h : True) : W.cell? ⟨yb, 1, none⟩ = some v := by
  have := h.block yb (Nat.lt_succ_self _) hD
  rw [Lib.cell_of_heap (this.trans hb)]
  rfl
/-- a type under way -/
structure Tb (d : Dice) (w wr : World) (yb : Nat) (s : ByteArray) (v : Value) (R : List Rw) (l : List Tp) : Prop where
  start_good : DiceAt d w
  thrown : Thrown d w wr
  up : w.heap.size < yb
  box : wr.heap[yb]? = some (.cells #[.string s, v] tpT (0, 0))
  res : wr.heap[w.heap.size]? = some (.cells #[.string ⟨#[]⟩, .slice none 0 0] tpT (0, 0))
  row : TRow wr (yb + 1) v R l

theorem strs_lit (w : World) (o : Obj) : Strs (fun s => s ∈ namesT) ((w.alloc o).alloc (.cells #[.string ⟨#[105, 110, 116]⟩, .string ⟨#[98, 111, 111, 108]⟩, .string ⟨#[97, 58, 58, 80]⟩, .string ⟨#[36, 84]⟩, .string ⟨#[36, 85]⟩, .string ⟨#[63, 48]⟩, .string ⟨#[63, 49]⟩, .string ⟨#[63, 50]⟩, .string ⟨#[63, 51]⟩, .string ⟨#[101, 114, 114, 111, 114]⟩, .string ⟨#[97, 58, 58, 66, 111, 120]⟩, .string ⟨#[117, 110, 105, 116]⟩] 9)) (some ⟨w.heap.size + 1, 0, none⟩) 12 := by
  intro i hi
  have hi' : i < namesT.length := hi
  refine ⟨w.heap.size + 1, 0, namesT[i], rfl, ?_, List.getElem_mem hi'⟩
  have h := cellsAt_alloc (w.alloc o) (namesT.map Value.string) 9 i (.string namesT[i]) (by simp [hi'])
  rw [World.size_alloc] at h
  exact h

theorem Tb.start {d : Dice} {w w3 : World} {s : ByteArray} {wA : World} (hd : DiceAt d w) (hta : Thrown d w wA) (hA : wA.heap[w.heap.size]? = some (.cells #[.string ⟨#[]⟩, .slice none 0 0] tpT (0, 0))) (hsz : w.heap.size < wA.heap.size) (hD : d.D < w.heap.size) (ht : Thrown d wA w3) :
    Tb d w (w3.alloc (.cells #[.string s, .slice none 0 0] tpT)) w3.heap.size s (.slice none 0 0) [] [] := by
  have h1 := hta.trans ht
  have h2 := ht.but.size
  have hD3 : d.D < wA.heap.size := by omega
  have hdr := Dr.of_thrown ht hD3
  refine ⟨hd, h1.trans (thrown_allocD h1.good _), by omega, heap_alloc_new w3 _, ?_, TRow.isNil _ _⟩
  have hb := below_box w3 (.cells #[.string s, .slice none 0 0] tpT)
  rw [hb.block _ (by omega), hdr.block _ hsz (by omega)]
  exact hA
theorem Tb.dice {d : Dice} {w wr w5 : World} {yb : Nat} {s : ByteArray} {v : Value} {R : List Rw} {l : List Tp} (h : Tb d w wr yb s v R l) (ht : Thrown d wr w5) (hD : d.D < w.heap.size) : Tb d w w5 yb s v R l := by
  have hs := h.thrown.but.size
  have hup := h.up
  have hd := Dr.of_thrown ht (by omega)
  have hy := heap_lt h.box
  exact ⟨h.start_good, h.thrown.trans ht, hup, box_dr h.box hd (by omega) hy, box_dr h.res hd (by omega) (by omega), h.row.dr hd (by omega) (Nat.le_refl _)⟩
/-- the row with one more is stored into the box -/
theorem Tb.put {d : Dice} {w wx w2 : World} {yb : Nat} {s : ByteArray} {v v' : Value} {R : List Rw} {l : List Tp} {q : Rw} {t : Tp} (h : Tb d w wx yb s v R l) (hlow : DcLow d w.heap.size) (hI : Dr d (yb + 1) wx.drew w2) (hr : TRow w2 (yb + 1) v' (R ++ [q]) (l ++ [t])) :
    Tb d w (w2.setCell ⟨yb, 1, none⟩ v') yb s v' (R ++ [q]) (l ++ [t]) := by
  have hup := h.up
  have hD := hlow.1
  have hb0 : w2.heap[yb]? = some (.cells #[.string s, v] tpT (0, 0)) := (hI.block yb (Nat.lt_succ_self _) (by omega)).trans h.box
  have hr0 : w2.heap[w.heap.size]? = some (.cells #[.string ⟨#[]⟩, .slice none 0 0] tpT (0, 0)) := (hI.block _ (by omega) (by omega)).trans h.res
  have hlow2 : DcLow d (yb + 1) := hlow.mono (by omega)
  have hset := set_dr (d := d) (s0 := yb) (yb := yb) (i := 1) (w := w2) (v := v') (hlow.mono (by omega)) (Nat.le_refl _)
  have h0 : Dr d w.heap.size w wx := Dr.of_thrown h.thrown hD
  have h1 : Dr d w.heap.size wx wx.drew := Dr.of_below ((Below.refl _ _).drew) hlow
  have hall := ((h0.trans h1).trans (hI.mono (by omega))).trans (hset.mono (by omega))
  have hbut : ∀ k, k ≠ yb → (w2.setCell ⟨yb, 1, none⟩ v').heap[k]? = w2.heap[k]? := fun k hk => Below.heap_setCell _ _ _ _ hk
  refine ⟨h.start_good, hall.thrown h.start_good, hup, heap_setCell_same _ _ 1 _ _ v' hb0, (hbut _ (by omega)).trans hr0, ?_⟩
  have hown := hr.own
  have hyr : some yb ≠ v'.ownBlock := fun e => by have := (World.ownsRow.lt hown yb e.symm).1; omega
  refine ⟨World.ownsRow.kept hown ⟨rfl, rfl, rfl, by simp [World.setCell], fun k hk hn => hbut k (fun e => hn (by rw [e]))⟩ (.inr (fun e => hyr e.symm) : v'.ownBlock = none ∨ v'.ownBlock ≠ some yb), hr.len, fun i a b => (hr.at_ i a b).keepB (fun k hk _ => hbut k (by have := hk.1; omega))⟩
theorem TRow.slice {w : World} {base : Nat} {v : Value} {R : List Rw} {l : List Tp} (h : TRow w base v R l) : ∃ p n c, v = .slice p n c := by
  rcases h.own.2 with ⟨rfl, _⟩ | ⟨g, cap, cur, rfl, _⟩
  · exact ⟨_, _, _, rfl⟩
  · exact ⟨_, _, _, rfl⟩
theorem Tb.fin {d : Dice} {w wx : World} {yb : Nat} {s : ByteArray} {p : Option Addr} {n c : Nat} {R : List Rw} {l : List Tp} (h : Tb d w wx yb s (.slice p n c) R l) (hlow : DcLow d w.heap.size) (dep : Nat) (hs : s ∈ namesT) (hl : l.length ≤ 2) (hz : dep = 0 → l = []) (hm : ∀ t ∈ l, MadeT (dep - 1) t) :
    ∃ (q : Rw) (t : Tp), Ending.returned (.agg #[.string s, .slice p n c]) = .returned (.agg #[.string q.name, .slice q.p q.n q.cap]) ∧ IsP (fun k => w.heap.size ≤ k) ((wx.setCell ⟨w.heap.size, 0, none⟩ (.string s)).setCell ⟨w.heap.size, 1, none⟩ (.slice p n c)) q t ∧ MadeT dep t ∧ Thrown d w ((wx.setCell ⟨w.heap.size, 0, none⟩ (.string s)).setCell ⟨w.heap.size, 1, none⟩ (.slice p n c)) := by
  obtain ⟨p', c', e, hp⟩ := h.row.fin
  have hup := h.up
  have h0 : Dr d w.heap.size w wx := Dr.of_thrown h.thrown hlow.1
  have h1 := set_dr (d := d) (s0 := w.heap.size) (yb := w.heap.size) (i := 0) (w := wx) (v := .string s) hlow (Nat.le_refl _)
  have h2 := set_dr (d := d) (s0 := w.heap.size) (yb := w.heap.size) (i := 1) (w := wx.setCell ⟨w.heap.size, 0, none⟩ (.string s)) (v := .slice p n c) hlow (Nat.le_refl _)
  have key : ∀ (W : World) (k : Nat) (v : Value), But (fun a => a.block = w.heap.size) W (W.setCell ⟨w.heap.size, k, none⟩ v) := fun W k v => But.setCell W _ v rfl
  have hbut : But (fun a => a.block = w.heap.size) wx ((wx.setCell ⟨w.heap.size, 0, none⟩ (.string s)).setCell ⟨w.heap.size, 1, none⟩ (.slice p n c)) := (key _ _ _).trans (key _ _ _)
  have hp2 := (hp.but hbut (fun a e k => by have e' : a.block = w.heap.size := e; omega)).mono (A' := fun k => w.heap.size ≤ k) (fun k hk => by omega)
  exact ⟨⟨s, p, n, c⟩, .mk s l, rfl, IsP.node s hp2, .mk dep s l hs hl hz hm, ((h0.trans h1).trans h2).thrown h.start_good⟩

set_option maxHeartbeats 8000000 in
theorem dtype_step (d : Dice) (dep : Nat) (hdep : dep ≤ 100) (w : World) (hd : DiceAt d w)
    (hrec : 0 < dep → ∀ w, DiceAt d w → Calls Try.prog 15 #[.pointer (some ⟨d.D, 0, none⟩), .int .i64 ((dep - 1 : Nat) : Int)] w fun e w' => ∃ (q : Rw) (t : Tp), e = .returned (.agg #[.string q.name, .slice q.p q.n q.cap]) ∧ IsP (fun k => w.heap.size ≤ k) w' q t ∧ MadeT (dep - 1) t ∧ Thrown d w w') :
    Calls Try.prog 15 #[.pointer (some ⟨d.D, 0, none⟩), .int .i64 (dep : Int)] w fun e w' => ∃ (q : Rw) (t : Tp), e = .returned (.agg #[.string q.name, .slice q.p q.n q.cap]) ∧ IsP (fun k => w.heap.size ≤ k) w' q t ∧ MadeT dep t ∧ Thrown d w w' := by
  have HLW := Lib.hid (dcLow hd)
  have hta := thrown_allocD (thrown_allocD hd (.cells #[.string ⟨#[]⟩, .slice none 0 0] tpT)).good (.cells #[.string ⟨#[105, 110, 116]⟩, .string ⟨#[98, 111, 111, 108]⟩, .string ⟨#[97, 58, 58, 80]⟩, .string ⟨#[36, 84]⟩, .string ⟨#[36, 85]⟩, .string ⟨#[63, 48]⟩, .string ⟨#[63, 49]⟩, .string ⟨#[63, 50]⟩, .string ⟨#[63, 51]⟩, .string ⟨#[101, 114, 114, 111, 114]⟩, .string ⟨#[97, 58, 58, 66, 111, 120]⟩, .string ⟨#[117, 110, 105, 116]⟩] 9)
  have HTA := Lib.hid ((thrown_allocD hd (.cells #[.string ⟨#[]⟩, .slice none 0 0] tpT)).trans hta)
  have hst : Strs (fun s => s ∈ namesT) ((w.alloc (.cells #[.string ⟨#[]⟩, .slice none 0 0] tpT)).alloc (.cells #[.string ⟨#[105, 110, 116]⟩, .string ⟨#[98, 111, 111, 108]⟩, .string ⟨#[97, 58, 58, 80]⟩, .string ⟨#[36, 84]⟩, .string ⟨#[36, 85]⟩, .string ⟨#[63, 48]⟩, .string ⟨#[63, 49]⟩, .string ⟨#[63, 50]⟩, .string ⟨#[63, 51]⟩, .string ⟨#[101, 114, 114, 111, 114]⟩, .string ⟨#[97, 58, 58, 66, 111, 120]⟩, .string ⟨#[117, 110, 105, 116]⟩] 9)) (some ⟨w.heap.size + 1, 0, none⟩) 12 := strs_lit _ _
  have HOF := Lib.hid (ofS_any (fun s => s ∈ namesT) d 12 12 (w.heap.size + 1) 0 _ HTA.out.good (by omega) (by omega) hst (by have := HLW.out.1; omega))
  have HREC := Lib.hid hrec
  have HD := Lib.hid hd
  clear hd hta hst hrec
  go_enter Try.func15, Try.ntmps15
  go_wp2_with fail
  refine HOF.out.mono ?_
  rintro e w3 ⟨s, hs, rfl, ht3⟩
  have hA0 : ((w.alloc (.cells #[.string ⟨#[]⟩, .slice none 0 0] tpT)).alloc (.cells #[.string ⟨#[105, 110, 116]⟩, .string ⟨#[98, 111, 111, 108]⟩, .string ⟨#[97, 58, 58, 80]⟩, .string ⟨#[36, 84]⟩, .string ⟨#[36, 85]⟩, .string ⟨#[63, 48]⟩, .string ⟨#[63, 49]⟩, .string ⟨#[63, 50]⟩, .string ⟨#[63, 51]⟩, .string ⟨#[101, 114, 114, 111, 114]⟩, .string ⟨#[97, 58, 58, 66, 111, 120]⟩, .string ⟨#[117, 110, 105, 116]⟩] 9)).heap[w.heap.size]? = some (.cells #[.string ⟨#[]⟩, .slice none 0 0] tpT (0, 0)) := by
    rw [(below_box (w.alloc (.cells #[.string ⟨#[]⟩, .slice none 0 0] tpT)) (.cells #[.string ⟨#[105, 110, 116]⟩, .string ⟨#[98, 111, 111, 108]⟩, .string ⟨#[97, 58, 58, 80]⟩, .string ⟨#[36, 84]⟩, .string ⟨#[36, 85]⟩, .string ⟨#[63, 48]⟩, .string ⟨#[63, 49]⟩, .string ⟨#[63, 50]⟩, .string ⟨#[63, 51]⟩, .string ⟨#[101, 114, 114, 111, 114]⟩, .string ⟨#[97, 58, 58, 66, 111, 120]⟩, .string ⟨#[117, 110, 105, 116]⟩] 9)).block w.heap.size (by rw [World.size_alloc]; omega)]
    exact heap_alloc_new w _
  have HT0 := Lib.hid (Tb.start (s := s) HD.out HTA.out hA0 (by rw [World.size_alloc, World.size_alloc]; omega) HLW.out.1 ht3)
  have HS := Lib.hid hs
  clear hA0 hs ht3 HOF HTA
  go_wp2_with fail
  refine (next_any d 3 _ HT0.out.thrown.good (by omega) (by omega)).mono ?_
  rintro e w5 ⟨k0, hk0, rfl, ht5, -⟩
  have HT5 := Lib.hid (HT0.out.dice ht5 HLW.out.1)
  clear ht5 HT0
  go_wp2_with fail
  generalize hyb : w3.heap.size = yb at *
  clear hyb
  go_loopw [6] (fun i wr => ∃ (k : Nat) (v : Value) (R : List Rw) (l : List Tp), i = .int .i64 k ∧ k + l.length ≤ 2 ∧ Hid (Tb d w wr yb s v R l) ∧ Hid (∀ t ∈ l, MadeT (dep - 1) t) ∧ Hid (dep = 0 → l = [])) (fun i _ => (intOf i).toNat)
  case atStart => exact ⟨k0, _, [], [], rfl, by simp; omega, HT5, (fun t h => by cases h), fun _ => rfl⟩
  case round =>
    clear HT5
    obtain ⟨k, v, R, l, rfl, hkl, HT, HM, HZ⟩ := hrel
    obtain ⟨wx, rfl⟩ : ∃ x, x = wr := ⟨wr, rfl⟩
    by_cases hgo : 0 < k ∧ 0 < dep
    · have hki : (0 : Int) < (k : Int) := by omega
      have hdi : (0 : Int) < (dep : Int) := by omega
      have ew : IntKind.i64.wrap ((dep : Int) - 1) = ((dep - 1 : Nat) : Int) := by rw [IntWalk.i64_in _ (by omega)]; omega
      obtain ⟨pz, nz, cz, rfl⟩ := HT.out.row.slice
      have HLOW : Hid (DcLow d (yb + 1)) := HLW.out.mono (by have := HT.out.up; omega)
      have HGD : Hid (DiceAt d wx.drew) := (Dr.of_below ((Below.refl _ _).drew) HLOW.out).good HT.out.thrown.good
      have HSW : Hid (yb + 1 ≤ wx.drew.heap.size) := heap_lt HT.out.box
      have HYB : Hid (yb ≠ d.D) := by have h1 := HLW.out.1; have h2 := HT.out.up; unfold Hid; omega
      have HBX := Lib.hid HT.out.box
      have HLW2 : Hid True := trivial
      obtain ⟨row, hrow⟩ : ∃ row, row = (Value.slice pz nz cz).ownBlock := ⟨_, rfl⟩
      have HRE := Lib.hid hrow
      clear hrow
      have HP0 : Hid (TRow wx.drew (yb + 1) (.slice pz nz cz) R l) := HT.out.row.below (Below.refl _ _).drew
      have HRW : Hid (∀ j, row = some j → yb + 1 ≤ j ∧ j < wx.drew.heap.size) := fun j e => World.ownsRow.lt HP0.out.own j (by rw [← e]; exact HRE.out.symm)
      have HZL : Hid (l.length ≤ 100) := by unfold Hid; omega
      replace HREC := Lib.hid (HREC.out hgo.2)
      have HGO := Lib.hid hgo
      clear hgo
      go_wp2_with fail
      apply wp_region_one 7 9 (AD d) (fun x y => x.grownBy y row) (fun W => Dr d (yb + 1) wx.drew W) (fun W => TRow W (yb + 1) (.slice pz nz cz) R l) (fun _ _ => False)
      case hIA => (intro x y hl h; exact h.trans (hl.mono (Nat.le_trans HSW.out h.size)))
      case hIC => (intro x y hl h; exact h.trans (Dr.of_below ((Below.refl _ _).grown hl (Nat.le_trans HSW.out h.size) (fun k e => (HRW.out k e).1)) HLOW.out))
      case hPA => (intro x y hl h; exact h.dr hl HLOW.out.1 (Nat.le_refl _))
      case hm => kernel_rfl
      case hB => kernel_rfl
      case h0 => exact Dr.refl _ _ _
      case h1 => exact HP0.out
      case hP => (rintro k a' W hf hd; exact hf.elim)
      simp only [List.take_succ_cons, List.take_zero, List.drop_succ_cons, List.drop_zero]
      apply wpOne_cons (t := tvIs _) (tvIs_good _ _)
      case h1 => (intro W hI hl; clear hI hl; unfold oneAt; go_simp; exact one_isD (by decide))
      intro _
      rw [tvIs_f]
      go_simp
      apply wpOne_cons (t := tvIs _) (tvIs_good _ _)
      case h1 => (intro W hI hl; have y1 := hI.arg HBX.out HYB.out HLW2.out; clear hI hl; unfold oneAt; go_simp; exact one_isD (by decide))
      intro _
      rw [tvIs_f]
      go_simp
      apply wpOne_cons (t := tvIs _) (tvIs_good _ _)
      case h1 => (intro W hI hl; clear hI hl; unfold oneAt; go_simp; exact one_isD (by decide))
      intro _
      rw [tvIs_f]
      go_simp
      apply wpOne_cons (t := tvIs _) (tvIs_good _ _)
      case h1 => (intro W hI hl; clear hI hl; unfold oneAt; go_simp; exact one_isD (by decide))
      intro _
      rw [tvIs_f]
      go_simp
      apply wpOne_cons (t := tvIs _) (tvIs_good _ _)
      case h1 => (intro W hI hl; clear hI hl; unfold oneAt; go_simp; exact one_isD (by decide))
      intro _
      rw [tvIs_f]
      go_simp
      apply wpOne_cons (t := tvTp d row (yb + 1) (dep - 1)) (tvTp_good _ _ _ _ _ _)
      case h1 => (intro W hI hl; have hgd := hI.good HGD.out; have hWs : yb + 1 ≤ W.heap.size := Nat.le_trans HSW.out hI.size; have hDW : d.D < W.heap.size := Nat.lt_of_lt_of_le HLOW.out.1 hWs; have hrW : ∀ j, row = some j → j < W.heap.size := (fun j e => Nat.lt_of_lt_of_le (HRW.out j e).2 hI.size); clear hI hl; unfold oneAt; go_simp; refine (HREC.out W hgd).mono ?_; rintro e w'' ⟨q, t, rfl, hq, hm, ht⟩; exact .inl ⟨⟨(q, t), hm⟩, rfl, by unfold sel; rw [if_neg (by decide)]; exact Dr.of_thrown ht hDW, tp_fresh hq hWs hDW hrW⟩)
      rintro ⟨⟨q1, t1⟩, hm1⟩
      rw [tvTp_f]
      go_simp
      apply wpOne_cons (t := tvOneT d row (yb + 1) (dep - 1)) (tvOneT_good _ _ _ _ _ _)
      case h1 => (intro W hI hl; have hx := lean_ofD hl 5 (by kernel_rfl); simp [upd, preAt] at hx; have hx1 : IsP (awayT d row (yb + 1)) W q1 t1 := hx; have hWs : yb + 1 ≤ W.heap.size := Nat.le_trans HSW.out hI.size; have hlo := HLOW.out.mono hWs; have hrW : ∀ j, row = some j → j < W.heap.size := (fun j e => Nat.lt_of_lt_of_le (HRW.out j e).2 hI.size); clear hI hl hx; unfold oneAt; go_simp; exact tvOneT_mk (c := 7) (k := 6) hm1 hx1 hlo hrW (by decide))
      rintro ⟨⟨sb, q2, t2⟩, hm2⟩
      rw [tvOneT_f]
      go_simp
      apply wpOne_cons (t := tvAppT (yb + 1) R l (dep - 1)) (tvAppT_good _ _ _ _ _ _ _ HLOW.out.1)
      case h1 => (
        intro W hI hl
        have hP : TRow W (yb + 1) (.slice pz nz cz) R l := hl.1 rfl
        have hc := lean_ofD hl 6 (by kernel_rfl)
        simp [upd, preAt] at hc
        obtain ⟨v', w', hr, ho⟩ := tvAppT_mk (d := d) (c := 7) (Pn := fun _ _ => False) hm2 hP HRE.out hc.1 hc.2.2.2.2 HZL.out (Nat.le_trans HSW.out hI.size) 22
        clear hI hl hP hc
        exact oneAt_appendS rfl rfl rfl rfl hr ho)
      rintro ⟨⟨v', q3, t3⟩, hm3⟩
      rw [tvAppT_f]
      go_simp
      apply wpOne_cons (t := tvIs _) (tvIs_good _ _)
      case h1 => (intro W hI hl; clear hI hl; unfold oneAt; go_simp; exact one_isD (by decide))
      intro _
      rw [tvIs_f]
      go_simp
      apply wpOne_nil (Ts := [])
      intro w2 hI hF
      have hfin := hF 7
      simp [upd, preAt] at hfin
      have hfin2 : TRow w2 (yb + 1) v' (R ++ [q3]) (l ++ [t3]) := hfin
      clear hfin hF
      have hput := HT.out.put HLW.out hI hfin2
      obtain ⟨pn, nn, cn, rfl⟩ := TRow.slice hfin2
      have HPUT := Lib.hid hput
      have y1 := hI.arg HBX.out HYB.out HLW2.out
      have f1 : w2.frozen? ⟨yb, 1, none⟩ = false := Lib.frozen_of_heap ((hI.block yb (Nat.lt_succ_self _) HYB.out).trans HBX.out) 1
      have HM3 : Hid (MadeT (dep - 1) t3) := hm3
      clear hput hfin2 hI HP0 HRW HT ew
      go_wp2_with fail
      go_roundw
      case rel => exact ⟨k - 1, _, R ++ [q3], l ++ [t3], by go_num, by have := HGO.out.1; simp; omega, HPUT, (fun t ht => by
        rcases List.mem_append.1 ht with h | h
        · exact HM.out t h
        · rw [List.mem_singleton] at h; rw [h]; exact HM3.out), fun e => by have := HGO.out.2; omega⟩
      case measure => have := HGO.out.1; simp [intOf]; omega
    · by_cases hk0 : 0 < k
      · have hki : (0 : Int) < (k : Int) := by omega
        obtain rfl : dep = 0 := by omega
        clear hgo hk0
        obtain ⟨pz, nz, cz, rfl⟩ := HT.out.row.slice
        have hcell := box_store HT.out.res s pz nz cz
        obtain ⟨z0, z1, f0, f1, _, _⟩ := box_facts HT.out.res s pz nz cz
        have y0 : wx.cell? ⟨yb, 0, none⟩ = some (.string s) := by rw [Lib.cell_of_heap HT.out.box]; rfl
        have y1 : wx.cell? ⟨yb, 1, none⟩ = some (.slice pz nz cz) := by rw [Lib.cell_of_heap HT.out.box]; rfl
        have HFIN := Lib.hid (HT.out.fin HLW.out _ HS.out (by omega) HZ.out HM.out)
        clear HT HM HZ
        go_wp2_with fail
        exact bodyPost_ret (results_cellP rfl _ _ _ ⟨w.heap.size, 0, none⟩ _ rfl (load_tp _ _ _ _ _ _ hcell)) rfl HFIN.out
      · obtain rfl : k = 0 := by omega
        clear hgo hk0
        obtain ⟨pz, nz, cz, rfl⟩ := HT.out.row.slice
        have hcell := box_store HT.out.res s pz nz cz
        obtain ⟨z0, z1, f0, f1, _, _⟩ := box_facts HT.out.res s pz nz cz
        have y0 : wx.cell? ⟨yb, 0, none⟩ = some (.string s) := by rw [Lib.cell_of_heap HT.out.box]; rfl
        have y1 : wx.cell? ⟨yb, 1, none⟩ = some (.slice pz nz cz) := by rw [Lib.cell_of_heap HT.out.box]; rfl
        have HFIN := Lib.hid (HT.out.fin HLW.out _ HS.out (by omega) HZ.out HM.out)
        clear HT HM HZ
        go_wp2_with fail
        exact bodyPost_ret (results_cellP rfl _ _ _ ⟨w.heap.size, 0, none⟩ _ rfl (load_tp _ _ _ _ _ _ hcell)) rfl HFIN.out
theorem dtype_any (d : Dice) : ∀ (dep : Nat), dep ≤ 100 → ∀ w, DiceAt d w → Calls Try.prog 15 #[.pointer (some ⟨d.D, 0, none⟩), .int .i64 (dep : Int)] w fun e w' => ∃ (q : Rw) (t : Tp), e = .returned (.agg #[.string q.name, .slice q.p q.n q.cap]) ∧ IsP (fun k => w.heap.size ≤ k) w' q t ∧ MadeT dep t ∧ Thrown d w w'
  | 0, h, w, hd => dtype_step d 0 h w hd (fun e => absurd e (Nat.lt_irrefl 0))
  | dep + 1, h, w, hd => dtype_step d (dep + 1) h w hd (fun _ w hd => dtype_any d dep (by omega) w hd)
end Go.Proofs.Ytbnnokibjccdaaa
