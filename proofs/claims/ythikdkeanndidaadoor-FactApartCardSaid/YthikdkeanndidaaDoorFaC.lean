/-
  CONTRACT: strings.Cut at a colon.
-/
import Derived.Test.YthikdkeanndidaaDoorFaU
import Derived.Test.YthikdkeanndidaaDoorShelf
import Derived.Lib.IndexLaws
import Derived.BigQuiet
namespace Go.Proofs.YthikdkeanndidaaDoor
open Go Go.RowKit
set_option linter.unusedVariables false
set_option linter.unusedSimpArgs false
set_option maxRecDepth 100000

/-- where the first colon is -/
theorem colon_at (s : ByteArray) : (∃ j : Nat, ∃ hj : j < s.size, s[j]'hj = 58 ∧ (58 : UInt8) ∉ s.data.toList.take j ∧ Lib.indexByte s.data.toList 58 = (j : Int)) ∨ ((58 : UInt8) ∉ s.data.toList ∧ Lib.indexByte s.data.toList 58 = -1) := by
  have h1 := Lib.indexByte_ge s.data.toList 58
  by_cases h : Lib.indexByte s.data.toList 58 = -1
  · refine .inr ⟨fun hm => ?_, h⟩
    obtain ⟨k, hk, e⟩ := List.getElem_of_mem hm
    exact Lib.indexByte_none h k (by rw [List.getElem?_eq_getElem hk, e])
  · obtain ⟨o, ho⟩ : ∃ o : Nat, Lib.indexByte s.data.toList 58 = (o : Int) := ⟨(Lib.indexByte s.data.toList 58).toNat, by omega⟩
    obtain ⟨e, hn⟩ := Lib.indexByte_some ho
    obtain ⟨hl, e2⟩ := List.getElem?_eq_some_iff.1 e
    refine .inl ⟨o, by rw [← Fa.len_data]; exact hl, e2, fun hm => ?_, ho⟩
    obtain ⟨k, hk, e3⟩ := List.getElem_of_mem hm
    rw [List.length_take] at hk
    rw [List.getElem_take] at e3
    exact hn k (by omega) (by rw [List.getElem?_eq_getElem (by omega), e3])

theorem index_any (s : ByteArray) (w : World) (hs : s.size ≤ 1000000000) :
    Calls Tryd.prog 76 #[.string s, .string ⟨#[58]⟩] w fun e w' => e = .returned (.int .i64 (Lib.indexByte s.data.toList 58)) ∧ w' = w := by
  by_cases hse : s = ⟨#[58]⟩
  · subst hse
    have he : Lib.indexByte [58] 58 = 0 := by decide +kernel
    have hq : ((⟨#[58]⟩ : ByteArray).toList == (⟨#[58]⟩ : ByteArray).toList) = true := beq_self_eq_true _
    have HE := Lib.hid he
    clear he
    go_enter Tryd.func76, Tryd.ntmps76
    go_wp2_with fail
    go_ret
    exact ⟨by show _ = Ending.returned (.int .i64 (Lib.indexByte [58] 58)); rw [HE.out]; rfl, rfl⟩
  · have hq : (([58] : List UInt8) == s.toList) = false := by
      have e1 : (⟨#[58]⟩ : ByteArray).toList = [58] := by rw [ByteArray.toList_eq]
      rw [← e1]
      exact bytes_ne3 (fun e => hse e.symm)
    have HI := Lib.hid (fun w => Tryd.stringslite_IndexByte s 58 w)
    have e5 : (58 : Int).toNat.toUInt8 = 58 := rfl
    rw [e5] at HI
    generalize Lib.indexByte s.data.toList 58 = k at *
    clear hse e5
    go_enter Tryd.func76, Tryd.ntmps76
    go_wp2_with fail
    refine (HI.out _).mono ?_
    rintro e w1 ⟨rfl, rfl⟩
    go_wp2_with fail
    go_ret
    exact ⟨rfl, rfl⟩

/-- a text before a colon, and the text behind it; or there is no colon -/
def CutRet (s : ByteArray) (e : Ending) : Prop :=
  (∃ (j : Nat) (d b : ByteArray), s.data.toList = d.data.toList ++ 58 :: b.data.toList ∧ (58 : UInt8) ∉ d.data.toList ∧ e = .returned (.tuple #[.string d, .string b, .bool true])) ∨ ((58 : UInt8) ∉ s.data.toList ∧ e = .returned (.tuple #[.string s, .string ⟨#[]⟩, .bool false]))
theorem cut_in (s : ByteArray) (w : World) (hs : s.size ≤ 1000000000) :
    Calls Tryd.prog 70 #[.string s, .string ⟨#[58]⟩] w fun e w' => CutRet s e ∧ Below w.heap.size w w' := by
  have HI := Lib.hid (fun w => index_any s w hs)
  rcases colon_at s with ⟨j, hj, hc, hn, he⟩ | ⟨hn, he⟩
  · rw [he] at HI
    obtain ⟨d, hd⟩ : ∃ d, d = s.extract 0 j := ⟨_, rfl⟩
    obtain ⟨b, hb⟩ : ∃ b, b = s.extract (j + 1) s.size := ⟨_, rfl⟩
    have hsp := colon_split hj hc
    have hdd : d.data.toList = s.data.toList.take j := by rw [hd, extract_data]; simp
    have hbd : b.data.toList = s.data.toList.drop (j + 1) := by rw [hb, extract_data, List.take_of_length_le (by rw [List.length_drop, Fa.len_data]; omega)]
    have HC : Hid (CutRet s (.returned (.tuple #[.string (s.extract 0 j), .string (s.extract (j + 1) s.size), .bool true]))) :=
      .inl ⟨j, d, b, by rw [hdd, hbd]; exact hsp, by rw [hdd]; exact hn, by rw [hd, hb]⟩
    have hj1 : (0 : Int) ≤ (j : Int) := by omega
    have hj2 : (j : Int) ≤ (s.size : Int) := by omega
    have hj3 : (j : Int) + 1 ≤ (s.size : Int) := by omega
    have ej1 : IntKind.i64.wrap ((j : Int) + 1) = (j : Int) + 1 := IntWalk.i64_in _ (by omega)
    clear hd hb hsp hdd hbd hc hn he
    go_enter Tryd.func70, Tryd.ntmps70
    go_wp2_with fail
    refine (HI.out _).mono ?_
    rintro e w1 ⟨rfl, rfl⟩
    go_wp2_with fail
    go_quiet (fail)
    go_wp2_with fail
    go_ret3
    exact ⟨HC.out, drew_below _⟩
  · rw [he] at HI
    have HC : Hid (CutRet s (.returned (.tuple #[.string s, .string ⟨#[]⟩, .bool false]))) := .inr ⟨hn, rfl⟩
    clear hn he
    go_enter Tryd.func70, Tryd.ntmps70
    go_wp2_with fail
    refine (HI.out _).mono ?_
    rintro e w1 ⟨rfl, rfl⟩
    go_wp2_with fail
    go_ret3
    exact ⟨HC.out, Below.refl _ _⟩
/-- strings.Cut -/
theorem cut_any (s : ByteArray) (w : World) (hs : s.size ≤ 1000000000) :
    Calls Tryd.prog 54 #[.string s, .string ⟨#[58]⟩] w fun e w' => CutRet s e ∧ Below w.heap.size w w' := by
  have HI := Lib.hid (fun w => cut_in s w hs)
  go_enter Tryd.func54, Tryd.ntmps54
  go_wp2_with fail
  refine (HI.out _).mono ?_
  rintro e w1 ⟨hc, hb⟩
  have HB := Lib.hid hb
  clear hb
  rcases hc with ⟨j, d, b, h1, h2, rfl⟩ | ⟨h1, rfl⟩
  · have HC : Hid (CutRet s (.returned (.tuple #[.string d, .string b, .bool true]))) := .inl ⟨j, d, b, h1, h2, rfl⟩
    clear h1 h2
    go_wp2_with fail
    go_ret3
    exact ⟨HC.out, HB.out⟩
  · have HC : Hid (CutRet s (.returned (.tuple #[.string s, .string ⟨#[]⟩, .bool false]))) := .inr ⟨h1, rfl⟩
    clear h1
    go_wp2_with fail
    go_ret3
    exact ⟨HC.out, HB.out⟩
end Go.Proofs.YthikdkeanndidaaDoor
