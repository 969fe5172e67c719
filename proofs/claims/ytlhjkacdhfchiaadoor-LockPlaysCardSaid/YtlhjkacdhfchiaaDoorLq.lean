/- lock: numbers of small scripts. -/
import Derived.Test.YtlhjkacdhfchiaaDoorLo
import Derived.KernelRfl
namespace Go.Proofs.YtlhjkacdhfchiaaDoor.Lq
set_option linter.unusedVariables false
set_option linter.unusedSimpArgs false
set_option maxRecDepth 100000
open Go.Proofs.YtlhjkacdhfchiaaDoor.Px Go.Proofs.YtlhjkacdhfchiaaDoor.Lb Go.Proofs.YtlhjkacdhfchiaaDoor.Lg Go.Proofs.YtlhjkacdhfchiaaDoor.Lh Go.Proofs.YtlhjkacdhfchiaaDoor.Li Go.Proofs.YtlhjkacdhfchiaaDoor.Lk Go.Proofs.YtlhjkacdhfchiaaDoor.Lo
theorem s_nil : setF [] 0 [] = .inl [] := rfl
theorem s_ab : setF [] 0 [[97], [98]] = .inl [[97], [98]] := by kernel_rfl
theorem s_b : setF [] 0 [[98]] = .inl [[98]] := by kernel_rfl
theorem s_a : setF [] 0 [[97]] = .inl [[97]] := by kernel_rfl
theorem s_x : setF [] 0 [[120]] = .inl [[120]] := by kernel_rfl
theorem s_y : setF [] 0 [[121]] = .inl [[121]] := by kernel_rfl
theorem qa1 : askF [] 1 [[97], [98]] = .inl ([(1, [[97], [98]])], true) := by kernel_rfl
theorem qa2 : askF [(1, [[97], [98]])] 2 [[98]] = .inl ([(1, [[97], [98]]), (2, [[98]])], false) := by kernel_rfl
theorem qh1 : hasL [(1, [[97], [98]]), (2, [[98]])] 1 = true := by kernel_rfl
theorem qw2 : waitL [(1, [[97], [98]]), (2, [[98]])] 2 = true := by kernel_rfl
theorem qn1 : nx [(2, [[98]])] [[97], [98]] 0 1 = [2] := by kernel_rfl
theorem qh2 : holdL [(2, [[98]])] [98] = (2, true) := by kernel_rfl
end Go.Proofs.YtlhjkacdhfchiaaDoor.Lq
