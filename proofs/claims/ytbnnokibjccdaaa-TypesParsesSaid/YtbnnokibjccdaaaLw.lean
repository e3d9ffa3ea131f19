/-
  LAWS: worlds that grow: nothing old has turned.
-/
import Derived.Test.YtbnnokibjccdaaaRelT
import Derived.Test.YtbnnokibjccdaaaBase
import Derived.Maps.OwnSet
namespace Go.Proofs.Ytbnnokibjccdaaa
open Go Go.RowKit
set_option linter.unusedVariables false

def LeW (w w' : World) : Prop := Below w.heap.size w w'
theorem LeW.refl (w : World) : LeW w w := Below.refl _ _
theorem LeW.trans (w1 w2 w3 : World) (a : LeW w1 w2) (b : LeW w2 w3) : LeW w1 w3 := bnext a b
theorem tyIs_f (Le : World → World → Prop) (v : Value) (x : (tyIs Le v).α) : (tyIs Le v).f x = v := rfl
theorem rel_is {P : Program} {Le : World → World → Prop} (hr : ∀ w, Le w w) {v : Value} {w : World} : relUpon P Le (tyIs Le v) w (.ok (.value v) w) := ⟨hr w, (), rfl, trivial⟩
theorem rel_skip {P : Program} {Le : World → World → Prop} (hr : ∀ w, Le w w) {w : World} : relUpon P Le (tyIs Le undef) w (.ok .skip w) := ⟨hr w, (), rfl, trivial⟩
/-- a value that was drawn before: a box that lies there -/
def tyBoxC (cs : List Value) : Ty LeW := ⟨{b : Nat // True}, ⟨⟨0, trivial⟩⟩, fun b => .pointer (some ⟨b.1, 0, none⟩), fun b w => CellsAt w b.1 0 cs, fun x w w' hl h => h.below hl⟩
/-- a slice of one element that has been laid -/
def tySl1 (cs : List Value) : Ty LeW := ⟨{b : Nat // True}, ⟨⟨0, trivial⟩⟩, fun b => .slice (some ⟨b.1, 0, none⟩) 1 1, fun b w => CellsAt w b.1 0 cs, fun x w w' hl h => h.below hl⟩
theorem tySl1_f (cs : List Value) (b : Nat) (h : True) : (tySl1 cs).f ⟨b, h⟩ = .slice (some ⟨b, 0, none⟩) 1 1 := rfl
theorem tySl1_p (cs : List Value) (b : Nat) (h : True) (w : World) : (tySl1 cs).φ ⟨b, h⟩ w = CellsAt w b 0 cs := rfl
theorem cellsAt_alloc (w : World) (cs : List Value) (T : TypeId) : CellsAt (w.alloc (.cells cs.toArray T)) w.heap.size 0 cs := by
  intro j v hv
  rw [Nat.zero_add]
  simp [go_sem, hv]
theorem CellsAt.drew1 {w : World} {b off : Nat} {cs : List Value} (h : CellsAt w b off cs) : CellsAt w.drew b off cs := h.below ((Below.refl _ w).drew)
theorem fact_lw {md : Region.Mode} {o : Oper} {F : Facts} {w : World} (h : leans md o F w) {j : Nat} (hj : (o.after.any fun e => Region.binds md e && (e.on == j)) = true) : F j w := by
  obtain ⟨e, he, h2⟩ := Array.any_eq_true'.1 hj
  simp only [Bool.and_eq_true, beq_iff_eq] at h2
  rw [← h2.2]
  exact h e he h2.1
theorem bytes_ne {a b : ByteArray} (h : a ≠ b) : ¬ a.toList = b.toList := by
  intro e
  rw [ByteArray.toList_eq, ByteArray.toList_eq] at e
  apply h
  cases a
  cases b
  simpa using e
theorem mapTurned_below {w w' : World} {b B : Nat} (h : w.mapTurned w' b) (hB : B ≤ b) (hw : b < w.heap.size) : Below B w w' :=
  (Below.refl B w).grown h.grown (by omega) (fun k hk => by cases hk; exact hB)
theorem results_cellE {fn : Func} {t : Tmp} {ty : TypeId} (h : fn.results = #[.cell t ty]) (tmps : Array Value) (P : Program) (w : World) (a : Addr) (v : Value) (ht : tmps.getD t undef = .pointer (some a)) (hl : (loadVar ty a).run P w = .ok v w) :
    (results fn tmps).run P w = .ok v w := by
  have ht' : tmps[t]?.getD undef = .pointer (some a) := by simpa using ht
  simp [results, h, ht', asAddr, hl]
end Go.Proofs.Ytbnnokibjccdaaa
