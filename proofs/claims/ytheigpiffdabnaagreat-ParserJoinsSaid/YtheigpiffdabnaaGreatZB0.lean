/-
  PLAIN: what is known of texts that are made: names, expressions by levels, blocks, texts of items; and the laws by which they are put together.
-/
import Derived.Test.YtheigpiffdabnaaGreatZA1
set_option linter.unusedVariables false
namespace Go.Proofs.YtheigpiffdabnaaGreat
open Go Go.RowKit
/-- digits -/
structure IsDg (s : ByteArray) : Prop where
 pos : 0 < s.size
 all : ∀ x ∈ s.data.toList, 48 ≤ x.toNat ∧ x.toNat ≤ 57
theorem IsDg.one {c : Nat} (h : c < 10) : IsDg ⟨#[UInt8.ofNat (48 + c)]⟩ := by
 refine ⟨Nat.lt_succ_self 0, fun x hx => ?_⟩
 simp only [List.mem_cons, List.not_mem_nil, or_false] at hx
 subst hx
 have : (UInt8.ofNat (48 + c)).toNat = 48 + c := by simp; omega
 omega
theorem IsDg.app {s t : ByteArray} (hs : IsDg s) (ht : IsDg t) : IsDg (s ++ t) := by
 refine ⟨by rw [ByteArray.size_append]; have := hs.pos; omega, fun x hx => ?_⟩
 rw [ByteArray.data_append, Array.toList_append] at hx
 rcases List.mem_append.1 hx with hx | hx
 ·exact hs.all x hx
 ·exact ht.all x hx
/-- letters of modules -/
def IsLt (s : ByteArray) : Prop := s = ⟨#[97]⟩ ∨ s = ⟨#[98]⟩ ∨ s = ⟨#[99]⟩
def IsOp (s : ByteArray) : Prop := s = ⟨#[43]⟩ ∨ s = ⟨#[45]⟩ ∨ s = ⟨#[42]⟩ ∨ s = ⟨#[47]⟩ ∨ s = ⟨#[37]⟩
def IsXy (s : ByteArray) : Prop := s = ⟨#[120]⟩ ∨ s = ⟨#[121]⟩
def IsAO (s : ByteArray) : Prop := s = ⟨#[38, 38]⟩ ∨ s = ⟨#[124, 124]⟩
def IsTF (s : ByteArray) : Prop := s = ⟨#[116, 114, 117, 101]⟩ ∨ s = ⟨#[102, 97, 108, 115, 101]⟩
def IsLE (s : ByteArray) : Prop := s = ⟨#[60]⟩ ∨ s = ⟨#[61, 61]⟩
def baseL : List UInt8 := [116, 121, 112, 101, 32, 80, 32, 123, 32, 120, 58, 32, 105, 110, 116, 44, 32, 121, 58, 32, 105, 110, 116, 32, 125, 10, 116, 121] ++ ([112, 101, 32, 66, 111, 120, 60, 84, 62, 32, 123, 32, 118, 58, 32, 84, 32, 125, 10, 116, 114, 97, 105, 116, 32, 83, 104, 111] ++ ([119, 32, 123, 32, 102, 110, 32, 115, 104, 111, 119, 40, 120, 58, 32, 83, 101, 108, 102, 41, 32, 45, 62, 32, 105, 110, 116, 59] ++ ([32, 125, 10, 105, 109, 112, 108, 32, 83, 104, 111, 119, 32, 102, 111, 114, 32, 105, 110, 116, 32, 123, 32, 102, 110, 32, 115, 104] ++ ([111, 119, 40, 120, 58, 32, 105, 110, 116, 41, 32, 45, 62, 32, 105, 110, 116, 32, 123, 32, 120, 32, 125, 32, 125, 10, 105, 109] ++ ([112, 108, 32, 83, 104, 111, 119, 32, 102, 111, 114, 32, 80, 32, 123, 32, 102, 110, 32, 115, 104, 111, 119, 40, 120, 58, 32, 80] ++ ([41, 32, 45, 62, 32, 105, 110, 116, 32, 123, 32, 120, 46, 120, 32, 43, 32, 115, 104, 111, 119, 40, 120, 46, 121, 41, 32, 125] ++ ([32, 125, 10, 105, 109, 112, 108, 60, 84, 58, 32, 83, 104, 111, 119, 62, 32, 83, 104, 111, 119, 32, 102, 111, 114, 32, 66, 111] ++ ([120, 60, 84, 62, 32, 123, 32, 102, 110, 32, 115, 104, 111, 119, 40, 120, 58, 32, 66, 111, 120, 60, 84, 62, 41, 32, 45, 62] ++ ([32, 105, 110, 116, 32, 123, 32, 115, 104, 111, 119, 40, 120, 46, 118, 41, 32, 43, 32, 49, 32, 125, 32, 125, 10])))))))))
def IsBase (s : ByteArray) : Prop := s.data.toList = baseL
def IsUse (s : ByteArray) : Prop := s = ⟨#[117, 115, 101, 32]⟩ ∨ s = ⟨#[112, 117, 98, 32, 117, 115, 101, 32]⟩
structure Gp where
 N : ByteArray → Prop
 A : ByteArray → Prop
 S : Nat → ByteArray → Prop
 E : Nat → ByteArray → Prop
 P : Nat → ByteArray → Prop
 K : Nat → ByteArray → Prop
 T : ByteArray → Prop
 n_a : N ⟨#[97]⟩
 n_b : N ⟨#[98]⟩
 n_e : N ⟨#[101]⟩
 n_v {d : ByteArray} : IsDg d → N (⟨#[118]⟩ ++ d)
 n_w {d : ByteArray} : IsDg d → N (⟨#[119]⟩ ++ d)
 n_c {m d : ByteArray} : IsLt m → IsDg d → N (⟨#[99]⟩ ++ (m ++ d))
 n_m {m d : ByteArray} : IsLt m → IsDg d → N (⟨#[109]⟩ ++ (m ++ d))
 n_f {m d : ByteArray} : IsLt m → IsDg d → N (⟨#[102]⟩ ++ (m ++ d))
 a_n {s : ByteArray} : N s → A s
 a_d {s : ByteArray} : IsDg s → s.size ≤ 8 → A s
 s_a {s : ByteArray} : A s → S 0 s
 s_up {m n : Nat} {s : ByteArray} : S m s → m ≤ n → S n s
 e_up {m n : Nat} {s : ByteArray} : E m s → m ≤ n → E n s
 k_up {m n : Nat} {s : ByteArray} : K m s → m ≤ n → K n s
 s_neg {s : ByteArray} : A s → S 1 (⟨#[45]⟩ ++ s)
 s_par {n : Nat} {s t u : ByteArray} : S n s → IsOp t → S n u → S (n + 1) ((((((⟨#[40]⟩ ++ s) ++ ⟨#[32]⟩) ++ t) ++ ⟨#[32]⟩) ++ u) ++ ⟨#[41]⟩)
 s_op {n : Nat} {s t u : ByteArray} : S n s → IsOp t → S n u → S n ((((s ++ ⟨#[32]⟩) ++ t) ++ ⟨#[32]⟩) ++ u)
 s_if {n : Nat} {c s t : ByteArray} : E (n + 1) c → S n s → S n t → S (n + 2) ((((((⟨#[105, 102, 32]⟩ ++ c) ++ ⟨#[32, 123, 32]⟩) ++ s) ++ ⟨#[32, 125, 32, 101, 108, 115, 101, 32, 123, 32]⟩) ++ t) ++ ⟨#[32, 125]⟩)
 s_k {n : Nat} {s : ByteArray} : K n s → S n s
 s_call {n : Nat} {f s t : ByteArray} : N f → S n s → S n t → S (n + 1) (((((f ++ ⟨#[40]⟩) ++ s) ++ ⟨#[44, 32]⟩) ++ t) ++ ⟨#[41]⟩)
 s_mac {n : Nat} {f s : ByteArray} : N f → S n s → S (n + 1) (((f ++ ⟨#[33, 40]⟩) ++ s) ++ ⟨#[41]⟩)
 s_new {n : Nat} {s t u : ByteArray} : S n s → S n t → IsXy u → S (n + 1) (((((⟨#[110, 101, 119, 32, 80, 40]⟩ ++ s) ++ ⟨#[44, 32]⟩) ++ t) ++ ⟨#[41, 46]⟩) ++ u)
 s_box {n : Nat} {s : ByteArray} : S n s → S (n + 2) ((⟨#[110, 101, 119, 32, 66, 111, 120, 40, 110, 101, 119, 32, 66, 111, 120, 40]⟩ ++ s) ++ ⟨#[41, 41, 46, 118, 46, 118]⟩)
 s_show {n : Nat} {s : ByteArray} : S n s → S (n + 1) ((⟨#[115, 104, 111, 119, 40]⟩ ++ s) ++ ⟨#[41]⟩)
 s_p1 {n : Nat} {s : ByteArray} : S n s → S (n + 1) ((⟨#[110, 101, 119, 32, 80, 40]⟩ ++ s) ++ ⟨#[44, 32, 49, 41]⟩)
 s_b1 {n : Nat} {s : ByteArray} : S n s → S (n + 1) ((⟨#[110, 101, 119, 32, 66, 111, 120, 40]⟩ ++ s) ++ ⟨#[41]⟩)
 e_not {s : ByteArray} : A s → E 2 ((⟨#[33, 40]⟩ ++ s) ++ ⟨#[32, 60, 32, 51, 41]⟩)
 e_ao {n : Nat} {s t : ByteArray} : E n s → IsAO t → E (n + 1) ((((⟨#[40]⟩ ++ s) ++ ⟨#[41, 32]⟩) ++ t) ++ ⟨#[32, 116, 114, 117, 101]⟩)
 e_tf {s : ByteArray} : IsTF s → E 0 s
 e_le {n : Nat} {s t u : ByteArray} : S n s → IsLE t → S n u → E n ((((s ++ ⟨#[32]⟩) ++ t) ++ ⟨#[32]⟩) ++ u)
 p_beg {n : Nat} : P n ⟨#[123, 32]⟩
 p_let {n : Nat} {s v t : ByteArray} : P n s → N v → S n t → P n (s ++ ((((⟨#[108, 101, 116, 32]⟩ ++ v) ++ ⟨#[32, 61, 32]⟩) ++ t) ++ ⟨#[59, 32]⟩))
 p_set {n : Nat} {s v t : ByteArray} : P n s → N v → S n t → P n (s ++ (((v ++ ⟨#[32, 61, 32]⟩) ++ t) ++ ⟨#[59, 32]⟩))
 p_print {n : Nat} {s t : ByteArray} : P n s → S n t → P n (s ++ ((⟨#[112, 114, 105, 110, 116, 32]⟩ ++ t) ++ ⟨#[59, 32]⟩))
 p_while {n : Nat} {s v d t : ByteArray} : P n s → N v → IsDg d → d.size ≤ 8 → A t → 1 ≤ n → P n (s ++ ((((((((((((⟨#[108, 101, 116, 32]⟩ ++ v) ++ ⟨#[32, 61, 32]⟩) ++ d) ++ ⟨#[59, 32, 119, 104, 105, 108, 101, 32, 48, 32, 60, 32]⟩) ++ v) ++ ⟨#[32, 123, 32]⟩) ++ v) ++ ⟨#[32, 61, 32]⟩) ++ v) ++ ⟨#[32, 45, 32, 49, 59, 32, 112, 114, 105, 110, 116, 32]⟩) ++ t) ++ ⟨#[59, 32, 125, 32]⟩))
 p_fin {n : Nat} {s t : ByteArray} : P n s → S n t → K (n + 1) ((s ++ t) ++ ⟨#[32, 125]⟩)
 t_nil : T ⟨#[]⟩
 t_const {n : Nat} {m d t : ByteArray} : n < 50 → IsLt m → IsDg d → S n t → T ((((⟨#[99, 111, 110, 115, 116, 32, 99]⟩ ++ (m ++ d)) ++ ⟨#[58, 32, 105, 110, 116, 32, 61, 32]⟩) ++ t) ++ ⟨#[59]⟩)
 m_1 : S 5 ⟨#[101, 32, 43, 32, 101]⟩
 m_2 : S 5 ⟨#[123, 32, 108, 101, 116, 32, 116, 32, 61, 32, 101, 59, 32, 116, 32, 42, 32, 116, 32, 125]⟩
 m_3 : S 5 ⟨#[105, 102, 32, 101, 32, 60, 32, 53, 32, 123, 32, 49, 32, 125, 32, 101, 108, 115, 101, 32, 123, 32, 101, 32, 125]⟩
 t_mac {n : Nat} {m d t : ByteArray} : n < 50 → IsLt m → IsDg d → S n t → T ((((⟨#[109, 97, 99, 114, 111, 32, 109]⟩ ++ (m ++ d)) ++ ⟨#[40, 101, 41, 32, 61, 32]⟩) ++ t) ++ ⟨#[59]⟩)
 t_rec {n : Nat} {m d t : ByteArray} : n < 50 → IsLt m → IsDg d → S n t → T ((((((⟨#[102, 110, 32, 102]⟩ ++ (m ++ d)) ++ ⟨#[40, 97, 58, 32, 105, 110, 116, 44, 32, 98, 58, 32, 105, 110, 116, 41, 32, 45, 62, 32, 105, 110, 116, 32, 123, 32, 105, 102, 32, 97, 32, 60, 32, 49, 32, 123, 32, 98, 32, 125, 32, 101, 108, 115, 101, 32, 123, 32, 102]⟩) ++ (m ++ d)) ++ ⟨#[40, 97, 32, 45, 32, 49, 44, 32]⟩) ++ t) ++ ⟨#[41, 32, 125, 32, 125]⟩)
 t_gen {m d : ByteArray} : IsLt m → IsDg d → T ((((((((⟨#[102, 110, 32, 103]⟩ ++ (m ++ d)) ++ ⟨#[60, 84, 62, 40, 120, 58, 32, 84, 41, 32, 45, 62, 32, 84, 32, 123, 32, 120, 32, 125, 10, 102, 110, 32, 102]⟩) ++ (m ++ d)) ++ ⟨#[40, 97, 58, 32, 105, 110, 116, 44, 32, 98, 58, 32, 105, 110, 116, 41, 32, 45, 62, 32, 105, 110, 116, 32, 123, 32, 103]⟩) ++ (m ++ d)) ++ ⟨#[40, 97, 41, 32, 43, 32, 103]⟩) ++ (m ++ d)) ++ ⟨#[40, 98, 41, 32, 125]⟩)
 t_fn {n : Nat} {m d t : ByteArray} : n < 50 → IsLt m → IsDg d → K n t → T (((⟨#[102, 110, 32, 102]⟩ ++ (m ++ d)) ++ ⟨#[40, 97, 58, 32, 105, 110, 116, 44, 32, 98, 58, 32, 105, 110, 116, 41, 32, 45, 62, 32, 105, 110, 116, 32]⟩) ++ t)
 t_use {s o m : ByteArray} : T s → IsUse o → IsLt m → T (s ++ ((o ++ m) ++ ⟨#[59, 10]⟩))
 t_base {s b : ByteArray} : T s → IsBase b → T (s ++ b)
 t_item {s t : ByteArray} : T s → T t → T (s ++ (t ++ ⟨#[10]⟩))
 t_main {n : Nat} {s t : ByteArray} : n < 50 → T s → K n t → T (s ++ ((⟨#[102, 110, 32, 109, 97, 105, 110, 40, 41, 32, 45, 62, 32, 105, 110, 116, 32]⟩ ++ t) ++ ⟨#[10]⟩))
/-- nothing is known -/
def Gp.none : Gp where
 N := fun _ => True
 A := fun _ => True
 S := fun _ _ => True
 E := fun _ _ => True
 P := fun _ _ => True
 K := fun _ _ => True
 T := fun _ => True
 n_a := trivial
 n_b := trivial
 n_e := trivial
 n_v := fun _ => trivial
 n_w := fun _ => trivial
 n_c := fun _ _ => trivial
 n_m := fun _ _ => trivial
 n_f := fun _ _ => trivial
 a_n := fun _ => trivial
 a_d := fun _ _ => trivial
 s_a := fun _ => trivial
 s_up := fun _ _ => trivial
 e_up := fun _ _ => trivial
 k_up := fun _ _ => trivial
 s_neg := fun _ => trivial
 s_par := fun _ _ _ => trivial
 s_op := fun _ _ _ => trivial
 s_if := fun _ _ _ => trivial
 s_k := fun _ => trivial
 s_call := fun _ _ _ => trivial
 s_mac := fun _ _ => trivial
 s_new := fun _ _ _ => trivial
 s_box := fun _ => trivial
 s_show := fun _ => trivial
 s_p1 := fun _ => trivial
 s_b1 := fun _ => trivial
 e_not := fun _ => trivial
 e_ao := fun _ _ => trivial
 e_tf := fun _ => trivial
 e_le := fun _ _ _ => trivial
 p_beg := trivial
 p_let := fun _ _ _ => trivial
 p_set := fun _ _ _ => trivial
 p_print := fun _ _ => trivial
 p_while := fun _ _ _ _ _ _ => trivial
 p_fin := fun _ _ => trivial
 t_nil := trivial
 t_const := fun _ _ _ _ => trivial
 m_1 := trivial
 m_2 := trivial
 m_3 := trivial
 t_mac := fun _ _ _ _ => trivial
 t_rec := fun _ _ _ _ => trivial
 t_gen := fun _ _ => trivial
 t_fn := fun _ _ _ _ => trivial
 t_use := fun _ _ _ => trivial
 t_base := fun _ _ => trivial
 t_item := fun _ _ => trivial
 t_main := fun _ _ _ => trivial
end Go.Proofs.YtheigpiffdabnaaGreat
