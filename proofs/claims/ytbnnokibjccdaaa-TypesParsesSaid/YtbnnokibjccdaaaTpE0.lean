/-
  LAWS: what a type is made of.
-/
import Derived.Test.YtbnnokibjccdaaaTpS0
namespace Go.Proofs.Ytbnnokibjccdaaa
open Go Go.RowKit
set_option linter.unusedVariables false
set_option linter.unusedSimpArgs false

theorem infoTp : (Try.prog.info? 24).map (fun i => (i.zero, i.size, i.bytes)) = some (some (.agg #[.string ⟨#[]⟩, .slice none 0 0]), 2, 40) := by kernel_rfl
def rw0 : Rw := ⟨⟨#[]⟩, none, 0, 0⟩
end Go.Proofs.Ytbnnokibjccdaaa
