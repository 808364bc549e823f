/- The law at some of its inputs, as the evaluator reckons it; conditions: none. -/
import Derived.Test.YtiiabbecebbabaaGreatDoorEvF
namespace Go.Proofs.YtiiabbecebbabaaGreatDoor
open Go Go.Ev
theorem run0x0 : isT (callN (fun g => nget fs1 g) 3000 3 (.cons (.q (.inp 3 13 0)) (.cons (.q (.inp 3 13 0)) .nil)) h0) = true := by kernel_rfl
theorem run0x1 : isT (callN (fun g => nget fs1 g) 3000 3 (.cons (.q (.inp 3 13 0)) (.cons (.q (.inp 3 13 1)) .nil)) h0) = true := by kernel_rfl
theorem run0x2 : isT (callN (fun g => nget fs1 g) 3000 3 (.cons (.q (.inp 3 13 0)) (.cons (.q (.inp 3 13 2)) .nil)) h0) = true := by kernel_rfl
theorem run0x3 : isT (callN (fun g => nget fs1 g) 3000 3 (.cons (.q (.inp 3 13 0)) (.cons (.q (.inp 3 13 3)) .nil)) h0) = true := by kernel_rfl
theorem run0x4 : isT (callN (fun g => nget fs1 g) 3000 3 (.cons (.q (.inp 3 13 0)) (.cons (.q (.inp 3 13 4)) .nil)) h0) = true := by kernel_rfl
theorem run0x5 : isT (callN (fun g => nget fs1 g) 3000 3 (.cons (.q (.inp 3 13 0)) (.cons (.q (.inp 3 13 5)) .nil)) h0) = true := by kernel_rfl
theorem run0x6 : isT (callN (fun g => nget fs1 g) 3000 3 (.cons (.q (.inp 3 13 0)) (.cons (.q (.inp 3 13 6)) .nil)) h0) = true := by kernel_rfl
theorem run0x7 : isT (callN (fun g => nget fs1 g) 3000 3 (.cons (.q (.inp 3 13 0)) (.cons (.q (.inp 3 13 7)) .nil)) h0) = true := by kernel_rfl
theorem run0x8 : isT (callN (fun g => nget fs1 g) 3000 3 (.cons (.q (.inp 3 13 0)) (.cons (.q (.inp 3 13 8)) .nil)) h0) = true := by kernel_rfl
theorem run0x9 : isT (callN (fun g => nget fs1 g) 3000 3 (.cons (.q (.inp 3 13 0)) (.cons (.q (.inp 3 13 9)) .nil)) h0) = true := by kernel_rfl
theorem run0x10 : isT (callN (fun g => nget fs1 g) 3000 3 (.cons (.q (.inp 3 13 0)) (.cons (.q (.inp 3 13 10)) .nil)) h0) = true := by kernel_rfl
theorem run0x11 : isT (callN (fun g => nget fs1 g) 3000 3 (.cons (.q (.inp 3 13 0)) (.cons (.q (.inp 3 13 11)) .nil)) h0) = true := by kernel_rfl
theorem run0x12 : isT (callN (fun g => nget fs1 g) 3000 3 (.cons (.q (.inp 3 13 0)) (.cons (.q (.inp 3 13 12)) .nil)) h0) = true := by kernel_rfl
theorem run1x0 : isT (callN (fun g => nget fs1 g) 3000 3 (.cons (.q (.inp 3 13 1)) (.cons (.q (.inp 3 13 0)) .nil)) h0) = true := by kernel_rfl
theorem run1x1 : isT (callN (fun g => nget fs1 g) 3000 3 (.cons (.q (.inp 3 13 1)) (.cons (.q (.inp 3 13 1)) .nil)) h0) = true := by kernel_rfl
theorem run1x2 : isT (callN (fun g => nget fs1 g) 3000 3 (.cons (.q (.inp 3 13 1)) (.cons (.q (.inp 3 13 2)) .nil)) h0) = true := by kernel_rfl
theorem run1x3 : isT (callN (fun g => nget fs1 g) 3000 3 (.cons (.q (.inp 3 13 1)) (.cons (.q (.inp 3 13 3)) .nil)) h0) = true := by kernel_rfl
theorem run1x4 : isT (callN (fun g => nget fs1 g) 3000 3 (.cons (.q (.inp 3 13 1)) (.cons (.q (.inp 3 13 4)) .nil)) h0) = true := by kernel_rfl
theorem run1x5 : isT (callN (fun g => nget fs1 g) 3000 3 (.cons (.q (.inp 3 13 1)) (.cons (.q (.inp 3 13 5)) .nil)) h0) = true := by kernel_rfl
theorem run1x6 : isT (callN (fun g => nget fs1 g) 3000 3 (.cons (.q (.inp 3 13 1)) (.cons (.q (.inp 3 13 6)) .nil)) h0) = true := by kernel_rfl
theorem run1x7 : isT (callN (fun g => nget fs1 g) 3000 3 (.cons (.q (.inp 3 13 1)) (.cons (.q (.inp 3 13 7)) .nil)) h0) = true := by kernel_rfl
theorem run1x8 : isT (callN (fun g => nget fs1 g) 3000 3 (.cons (.q (.inp 3 13 1)) (.cons (.q (.inp 3 13 8)) .nil)) h0) = true := by kernel_rfl
theorem run1x9 : isT (callN (fun g => nget fs1 g) 3000 3 (.cons (.q (.inp 3 13 1)) (.cons (.q (.inp 3 13 9)) .nil)) h0) = true := by kernel_rfl
theorem run1x10 : isT (callN (fun g => nget fs1 g) 3000 3 (.cons (.q (.inp 3 13 1)) (.cons (.q (.inp 3 13 10)) .nil)) h0) = true := by kernel_rfl
theorem run1x11 : isT (callN (fun g => nget fs1 g) 3000 3 (.cons (.q (.inp 3 13 1)) (.cons (.q (.inp 3 13 11)) .nil)) h0) = true := by kernel_rfl
end Go.Proofs.YtiiabbecebbabaaGreatDoor
