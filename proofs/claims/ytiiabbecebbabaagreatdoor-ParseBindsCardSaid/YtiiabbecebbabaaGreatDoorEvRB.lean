/- The law at some of its inputs, as the evaluator reckons it; conditions: none. -/
import Derived.Test.YtiiabbecebbabaaGreatDoorEvF
namespace Go.Proofs.YtiiabbecebbabaaGreatDoor
open Go Go.Ev
theorem run1x12 : isT (callN (fun g => nget fs1 g) 3000 3 (.cons (.q (.inp 3 13 1)) (.cons (.q (.inp 3 13 12)) .nil)) h0) = true := by kernel_rfl
theorem run2x0 : isT (callN (fun g => nget fs1 g) 3000 3 (.cons (.q (.inp 3 13 2)) (.cons (.q (.inp 3 13 0)) .nil)) h0) = true := by kernel_rfl
theorem run2x1 : isT (callN (fun g => nget fs1 g) 3000 3 (.cons (.q (.inp 3 13 2)) (.cons (.q (.inp 3 13 1)) .nil)) h0) = true := by kernel_rfl
theorem run2x2 : isT (callN (fun g => nget fs1 g) 3000 3 (.cons (.q (.inp 3 13 2)) (.cons (.q (.inp 3 13 2)) .nil)) h0) = true := by kernel_rfl
theorem run2x3 : isT (callN (fun g => nget fs1 g) 3000 3 (.cons (.q (.inp 3 13 2)) (.cons (.q (.inp 3 13 3)) .nil)) h0) = true := by kernel_rfl
theorem run2x4 : isT (callN (fun g => nget fs1 g) 3000 3 (.cons (.q (.inp 3 13 2)) (.cons (.q (.inp 3 13 4)) .nil)) h0) = true := by kernel_rfl
theorem run2x5 : isT (callN (fun g => nget fs1 g) 3000 3 (.cons (.q (.inp 3 13 2)) (.cons (.q (.inp 3 13 5)) .nil)) h0) = true := by kernel_rfl
theorem run2x6 : isT (callN (fun g => nget fs1 g) 3000 3 (.cons (.q (.inp 3 13 2)) (.cons (.q (.inp 3 13 6)) .nil)) h0) = true := by kernel_rfl
theorem run2x7 : isT (callN (fun g => nget fs1 g) 3000 3 (.cons (.q (.inp 3 13 2)) (.cons (.q (.inp 3 13 7)) .nil)) h0) = true := by kernel_rfl
theorem run2x8 : isT (callN (fun g => nget fs1 g) 3000 3 (.cons (.q (.inp 3 13 2)) (.cons (.q (.inp 3 13 8)) .nil)) h0) = true := by kernel_rfl
theorem run2x9 : isT (callN (fun g => nget fs1 g) 3000 3 (.cons (.q (.inp 3 13 2)) (.cons (.q (.inp 3 13 9)) .nil)) h0) = true := by kernel_rfl
theorem run2x10 : isT (callN (fun g => nget fs1 g) 3000 3 (.cons (.q (.inp 3 13 2)) (.cons (.q (.inp 3 13 10)) .nil)) h0) = true := by kernel_rfl
theorem run2x11 : isT (callN (fun g => nget fs1 g) 3000 3 (.cons (.q (.inp 3 13 2)) (.cons (.q (.inp 3 13 11)) .nil)) h0) = true := by kernel_rfl
theorem run2x12 : isT (callN (fun g => nget fs1 g) 3000 3 (.cons (.q (.inp 3 13 2)) (.cons (.q (.inp 3 13 12)) .nil)) h0) = true := by kernel_rfl
theorem run3x0 : isT (callN (fun g => nget fs1 g) 3000 3 (.cons (.q (.inp 3 13 3)) (.cons (.q (.inp 3 13 0)) .nil)) h0) = true := by kernel_rfl
theorem run3x1 : isT (callN (fun g => nget fs1 g) 3000 3 (.cons (.q (.inp 3 13 3)) (.cons (.q (.inp 3 13 1)) .nil)) h0) = true := by kernel_rfl
theorem run3x2 : isT (callN (fun g => nget fs1 g) 3000 3 (.cons (.q (.inp 3 13 3)) (.cons (.q (.inp 3 13 2)) .nil)) h0) = true := by kernel_rfl
theorem run3x3 : isT (callN (fun g => nget fs1 g) 3000 3 (.cons (.q (.inp 3 13 3)) (.cons (.q (.inp 3 13 3)) .nil)) h0) = true := by kernel_rfl
theorem run3x4 : isT (callN (fun g => nget fs1 g) 3000 3 (.cons (.q (.inp 3 13 3)) (.cons (.q (.inp 3 13 4)) .nil)) h0) = true := by kernel_rfl
theorem run3x5 : isT (callN (fun g => nget fs1 g) 3000 3 (.cons (.q (.inp 3 13 3)) (.cons (.q (.inp 3 13 5)) .nil)) h0) = true := by kernel_rfl
theorem run3x6 : isT (callN (fun g => nget fs1 g) 3000 3 (.cons (.q (.inp 3 13 3)) (.cons (.q (.inp 3 13 6)) .nil)) h0) = true := by kernel_rfl
theorem run3x7 : isT (callN (fun g => nget fs1 g) 3000 3 (.cons (.q (.inp 3 13 3)) (.cons (.q (.inp 3 13 7)) .nil)) h0) = true := by kernel_rfl
theorem run3x8 : isT (callN (fun g => nget fs1 g) 3000 3 (.cons (.q (.inp 3 13 3)) (.cons (.q (.inp 3 13 8)) .nil)) h0) = true := by kernel_rfl
theorem run3x9 : isT (callN (fun g => nget fs1 g) 3000 3 (.cons (.q (.inp 3 13 3)) (.cons (.q (.inp 3 13 9)) .nil)) h0) = true := by kernel_rfl
theorem run3x10 : isT (callN (fun g => nget fs1 g) 3000 3 (.cons (.q (.inp 3 13 3)) (.cons (.q (.inp 3 13 10)) .nil)) h0) = true := by kernel_rfl
end Go.Proofs.YtiiabbecebbabaaGreatDoor
