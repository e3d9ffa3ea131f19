/-
  CONTRACT: readNumber, in a world whose library variables are as their initialisers lay them.
-/
import Derived.Test.YthikdkeanndidaaDoorFaC
import Derived.Lib.SmallJoins
import Derived.Lib.LaidTab
import Derived.Sort.Grow
namespace Go.Proofs.YthikdkeanndidaaDoor
open Go Go.RowKit
set_option linter.unusedVariables false
set_option linter.unusedSimpArgs false
set_option maxRecDepth 100000

theorem var_keeps {w w' : World} {n : String} {cs : Array Value} (h : w.var? Tryd.prog n = some cs) (hb : Below w.heap.size w w') : w'.var? Tryd.prog n = some cs := by
  cases hg : Tryd.prog.globalNamed n with
  | none => unfold World.var? at h; rw [hg] at h; cases h
  | some g => exact Joins.var_stays hg h hb (Nat.le_refl _)
/-- the library's variables that numbers are written and read by -/
structure LaidW (w : World) : Prop where
  tab : Lib.TabIs Tryd.prog w "internal/strconv.uint64pow10" .u64 Lib.pow10Tab
  syn : ∃ tp p, w.var? Tryd.prog "strconv.ErrSyntax" = some #[.iface tp p]
  rng : ∃ tp p, w.var? Tryd.prog "strconv.ErrRange" = some #[.iface tp p]
theorem LaidW.below {w w' : World} (h : LaidW w) (hb : Below w.heap.size w w') : LaidW w' :=
  ⟨var_keeps h.tab hb, let ⟨tp, p, e⟩ := h.syn; ⟨tp, p, var_keeps e hb⟩, let ⟨tp, p, e⟩ := h.rng; ⟨tp, p, var_keeps e hb⟩⟩

theorem grow_below (w : World) (k : Nat) (os : Array Obj) : Below w.heap.size w (Sort.grow (w.drewN k) os) := by
  refine ⟨rfl, rfl, rfl, ?_, ?_⟩
  · show w.heap.size ≤ (w.heap ++ os).size
    simp
  · intro b hb
    show (w.heap ++ os)[b]? = w.heap[b]?
    exact Array.getElem?_append_left hb
/-- strconv.Itoa -/
theorem itoa_any (n : Int) (h0 : -9223372036854775808 ≤ n) (h1 : n ≤ 9223372036854775807) (w : World) (hw : LaidW w) :
    Calls Tryd.prog 25 #[.int .i64 n] w fun e w' => e = .returned (.string (itS n)) ∧ Below w.heap.size w w' := by
  refine (Tryd.strconv_Itoa n h0 h1 w hw.tab).mono ?_
  rintro e w' ⟨rfl, k, os, rfl⟩
  exact ⟨rfl, grow_below w k os⟩

/-- what reading a number has returned -/
theorem number_any (s : ByteArray) (w : World) (hs : s.size ≤ 1000000000) (hw : LaidW w) :
    Calls Tryd.prog 31 #[.string s] w fun e w' => (∃ n : Int, e = .returned (.tuple #[.int .i64 n, .bool (Fa.numOf s.data.toList).isSome]) ∧ ∀ v, Fa.numOf s.data.toList = some v → n = v) ∧ Below w.heap.size w w' := by
  obtain ⟨o, ho⟩ : ∃ o, o = Fa.numOf s.data.toList := ⟨_, rfl⟩
  rw [← ho]
  cases hat : Lib.atoiAll s.data.toList with
  | ok v =>
    obtain ⟨b0, b1⟩ := Lib.atoiAll_bounds hat
    have HA := Lib.hid (fun w => Tryd.strconv_Atoi_ok s (by omega) v hat w)
    have HI := Lib.hid (fun w hw => itoa_any v b0 b1 w hw)
    have HW := Lib.hid hw
    by_cases he : itS v = s
    · have hq : ((itS v).toList == s.toList) = true := by rw [he]; simp
      have hob : o = some v := by rw [ho]; exact Fa.numOf_ok hat (by rw [← he, itS_data])
      have HOB := Lib.hid hob
      clear ho hat he hw hob
      generalize itS v = sv at *
      go_enter Tryd.func31, Tryd.ntmps31
      go_wp2_with fail
      refine (HA.out _).mono ?_
      rintro e w1 ⟨rfl, hw1⟩
      have hb1 : Below w.heap.size w w1 := by
        rcases hw1 with rfl | ⟨t, rfl⟩
        · exact Below.refl _ _
        · exact Lib.bytesWorld_below _ _ _
      have HB1 := Lib.hid hb1
      clear hw1 hb1
      go_wp2_with fail
      refine (HI.out _ (HW.out.below HB1.out)).mono ?_
      rintro e w2 ⟨rfl, hb2⟩
      have HB2 := Lib.hid (bnext HB1.out hb2)
      clear hb2
      go_wp2_with fail
      go_ret2
      exact ⟨⟨v, by rw [HOB.out]; rfl, fun u hu => by rw [HOB.out] at hu; injection hu⟩, HB2.out⟩
    · have hq : ((itS v).toList == s.toList) = false := bytes_ne3 he
      have hob : o = none := by rw [ho]; exact Fa.numOf_bad hat (fun e => he (ByteArray.ext (Array.toList_inj.1 (by rw [itS_data]; exact e))))
      have HOB := Lib.hid hob
      clear ho hat he hw hob
      generalize itS v = sv at *
      go_enter Tryd.func31, Tryd.ntmps31
      go_wp2_with fail
      refine (HA.out _).mono ?_
      rintro e w1 ⟨rfl, hw1⟩
      have hb1 : Below w.heap.size w w1 := by
        rcases hw1 with rfl | ⟨t, rfl⟩
        · exact Below.refl _ _
        · exact Lib.bytesWorld_below _ _ _
      have HB1 := Lib.hid hb1
      clear hw1 hb1
      go_wp2_with fail
      refine (HI.out _ (HW.out.below HB1.out)).mono ?_
      rintro e w2 ⟨rfl, hb2⟩
      have HB2 := Lib.hid (bnext HB1.out hb2)
      clear hb2
      go_wp2_with fail
      go_ret2
      exact ⟨⟨0, by rw [HOB.out]; rfl, fun u hu => by rw [HOB.out] at hu; cases hu⟩, HB2.out⟩
  | range =>
    obtain ⟨tp, p, hv⟩ := hw.rng
    have HA := Lib.hid (Tryd.strconv_Atoi_range_var s (by omega) hat tp p w hv)
    have hob : o = none := by rw [ho]; exact Fa.numOf_not (fun v e => by rw [hat] at e; cases e)
    have HOB := Lib.hid hob
    clear ho hat hw hob hv
    go_enter Tryd.func31, Tryd.ntmps31
    go_wp2_with fail
    refine HA.out.mono ?_
    rintro e w1 ⟨N, rfl, -, -, hb1⟩
    have HB1 := Lib.hid hb1
    clear hb1
    go_wp2_with fail
    go_ret2
    exact ⟨⟨0, by rw [HOB.out]; rfl, fun u hu => by rw [HOB.out] at hu; cases hu⟩, HB1.out⟩
  | _ =>
    obtain ⟨tp, p, hv⟩ := hw.syn
    have HA : Hid (Calls Tryd.prog 60 #[.string s] w fun e w' => ∃ N, e = .returned (.tuple #[.int .i64 0, .iface 133 (.pointer (some ⟨N, 0, none⟩))]) ∧ w.heap.size ≤ N ∧ w'.heap[N]? = some (.cells #[.string ⟨#[65, 116, 111, 105]⟩, .string s, .iface tp p] 146 (0, 0)) ∧ Below w.heap.size w w') := Any.strconv_Atoi_syntax_var Tryd.laysC172 s (by omega) hat tp p w hv
    have hob : o = none := by rw [ho]; exact Fa.numOf_not (fun v e => by rw [hat] at e; cases e)
    have HOB := Lib.hid hob
    clear ho hat hw hob hv
    go_enter Tryd.func31, Tryd.ntmps31
    go_wp2_with fail
    refine HA.out.mono ?_
    rintro e w1 ⟨N, rfl, -, -, hb1⟩
    have HB1 := Lib.hid hb1
    clear hb1
    go_wp2_with fail
    go_ret2
    exact ⟨⟨0, by rw [HOB.out]; rfl, fun u hu => by rw [HOB.out] at hu; cases hu⟩, HB1.out⟩
end Go.Proofs.YthikdkeanndidaaDoor
