/- The law at some of its inputs, as the evaluator reckons it; conditions: none. -/
import Derived.Test.YtiiabbecebbabaaGreatDoorEvF
namespace Go.Proofs.YtiiabbecebbabaaGreatDoor
open Go Go.Ev
theorem run3x11 : isT (callN (fun g => nget fs1 g) 3000 3 (.cons (.q (.inp 3 13 3)) (.cons (.q (.inp 3 13 11)) .nil)) h0) = true := by kernel_rfl
theorem run3x12 : isT (callN (fun g => nget fs1 g) 3000 3 (.cons (.q (.inp 3 13 3)) (.cons (.q (.inp 3 13 12)) .nil)) h0) = true := by kernel_rfl
theorem run4x0 : isT (callN (fun g => nget fs1 g) 3000 3 (.cons (.q (.inp 3 13 4)) (.cons (.q (.inp 3 13 0)) .nil)) h0) = true := by kernel_rfl
theorem run4x1 : isT (callN (fun g => nget fs1 g) 3000 3 (.cons (.q (.inp 3 13 4)) (.cons (.q (.inp 3 13 1)) .nil)) h0) = true := by kernel_rfl
theorem run4x2 : isT (callN (fun g => nget fs1 g) 3000 3 (.cons (.q (.inp 3 13 4)) (.cons (.q (.inp 3 13 2)) .nil)) h0) = true := by kernel_rfl
theorem run4x3 : isT (callN (fun g => nget fs1 g) 3000 3 (.cons (.q (.inp 3 13 4)) (.cons (.q (.inp 3 13 3)) .nil)) h0) = true := by kernel_rfl
theorem run4x4 : isT (callN (fun g => nget fs1 g) 3000 3 (.cons (.q (.inp 3 13 4)) (.cons (.q (.inp 3 13 4)) .nil)) h0) = true := by kernel_rfl
theorem run4x5 : isT (callN (fun g => nget fs1 g) 3000 3 (.cons (.q (.inp 3 13 4)) (.cons (.q (.inp 3 13 5)) .nil)) h0) = true := by kernel_rfl
theorem run4x6 : isT (callN (fun g => nget fs1 g) 3000 3 (.cons (.q (.inp 3 13 4)) (.cons (.q (.inp 3 13 6)) .nil)) h0) = true := by kernel_rfl
theorem run4x7 : isT (callN (fun g => nget fs1 g) 3000 3 (.cons (.q (.inp 3 13 4)) (.cons (.q (.inp 3 13 7)) .nil)) h0) = true := by kernel_rfl
theorem run4x8 : isT (callN (fun g => nget fs1 g) 3000 3 (.cons (.q (.inp 3 13 4)) (.cons (.q (.inp 3 13 8)) .nil)) h0) = true := by kernel_rfl
theorem run4x9 : isT (callN (fun g => nget fs1 g) 3000 3 (.cons (.q (.inp 3 13 4)) (.cons (.q (.inp 3 13 9)) .nil)) h0) = true := by kernel_rfl
theorem run4x10 : isT (callN (fun g => nget fs1 g) 3000 3 (.cons (.q (.inp 3 13 4)) (.cons (.q (.inp 3 13 10)) .nil)) h0) = true := by kernel_rfl
theorem run4x11 : isT (callN (fun g => nget fs1 g) 3000 3 (.cons (.q (.inp 3 13 4)) (.cons (.q (.inp 3 13 11)) .nil)) h0) = true := by kernel_rfl
theorem run4x12 : isT (callN (fun g => nget fs1 g) 3000 3 (.cons (.q (.inp 3 13 4)) (.cons (.q (.inp 3 13 12)) .nil)) h0) = true := by kernel_rfl
theorem run5x0 : isT (callN (fun g => nget fs1 g) 3000 3 (.cons (.q (.inp 3 13 5)) (.cons (.q (.inp 3 13 0)) .nil)) h0) = true := by kernel_rfl
theorem run5x1 : isT (callN (fun g => nget fs1 g) 3000 3 (.cons (.q (.inp 3 13 5)) (.cons (.q (.inp 3 13 1)) .nil)) h0) = true := by kernel_rfl
theorem run5x2 : isT (callN (fun g => nget fs1 g) 3000 3 (.cons (.q (.inp 3 13 5)) (.cons (.q (.inp 3 13 2)) .nil)) h0) = true := by kernel_rfl
theorem run5x3 : isT (callN (fun g => nget fs1 g) 3000 3 (.cons (.q (.inp 3 13 5)) (.cons (.q (.inp 3 13 3)) .nil)) h0) = true := by kernel_rfl
theorem run5x4 : isT (callN (fun g => nget fs1 g) 3000 3 (.cons (.q (.inp 3 13 5)) (.cons (.q (.inp 3 13 4)) .nil)) h0) = true := by kernel_rfl
theorem run5x5 : isT (callN (fun g => nget fs1 g) 3000 3 (.cons (.q (.inp 3 13 5)) (.cons (.q (.inp 3 13 5)) .nil)) h0) = true := by kernel_rfl
theorem run5x6 : isT (callN (fun g => nget fs1 g) 3000 3 (.cons (.q (.inp 3 13 5)) (.cons (.q (.inp 3 13 6)) .nil)) h0) = true := by kernel_rfl
theorem run5x7 : isT (callN (fun g => nget fs1 g) 3000 3 (.cons (.q (.inp 3 13 5)) (.cons (.q (.inp 3 13 7)) .nil)) h0) = true := by kernel_rfl
theorem run5x8 : isT (callN (fun g => nget fs1 g) 3000 3 (.cons (.q (.inp 3 13 5)) (.cons (.q (.inp 3 13 8)) .nil)) h0) = true := by kernel_rfl
theorem run5x9 : isT (callN (fun g => nget fs1 g) 3000 3 (.cons (.q (.inp 3 13 5)) (.cons (.q (.inp 3 13 9)) .nil)) h0) = true := by kernel_rfl
end Go.Proofs.YtiiabbecebbabaaGreatDoor
