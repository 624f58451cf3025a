import Derived.Test.YtfegalieiiaopabCv
namespace Go.Proofs.Ytfegalieiiaopab.cu
open Go.ChangeShapes Go.WideShapes Go.ChangeAt Go.RowKit
set_option linter.unusedVariables false
theorem fld_kind (t : Tk) (w : World) : (Instr.field 63 (.agg #[.int .i64 t.k, .int .i64 t.ln, .int .i64 t.co, .int .i64 t.fr, .int .i64 t.to, .string t.tx, .string t.va]) 0).run Try.prog w = .ok (.int .i64 t.k) w := by
  kernel_rfl
theorem fld_text (t : Tk) (w : World) : (Instr.field 63 (.agg #[.int .i64 t.k, .int .i64 t.ln, .int .i64 t.co, .int .i64 t.fr, .int .i64 t.to, .string t.tx, .string t.va]) 4).run Try.prog w = .ok (.string t.tx) w := by
  kernel_rfl
theorem fld_pos (t : Tk) (w : World) : (Instr.field 63 (.agg #[.int .i64 t.k, .int .i64 t.ln, .int .i64 t.co, .int .i64 t.fr, .int .i64 t.to, .string t.tx, .string t.va]) 1).run Try.prog w = .ok (.agg #[.int .i64 t.ln, .int .i64 t.co]) w := by
  kernel_rfl
end Go.Proofs.Ytfegalieiiaopab.cu
