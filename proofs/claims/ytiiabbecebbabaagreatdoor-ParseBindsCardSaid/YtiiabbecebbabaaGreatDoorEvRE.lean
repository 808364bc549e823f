/- The law at some of its inputs, as the evaluator reckons it; conditions: none. -/
import Derived.Test.YtiiabbecebbabaaGreatDoorEvF
namespace Go.Proofs.YtiiabbecebbabaaGreatDoor
open Go Go.Ev
theorem run7x9 : isT (callN (fun g => nget fs1 g) 3000 3 (.cons (.q (.inp 3 13 7)) (.cons (.q (.inp 3 13 9)) .nil)) h0) = true := by kernel_rfl
theorem run7x10 : isT (callN (fun g => nget fs1 g) 3000 3 (.cons (.q (.inp 3 13 7)) (.cons (.q (.inp 3 13 10)) .nil)) h0) = true := by kernel_rfl
theorem run7x11 : isT (callN (fun g => nget fs1 g) 3000 3 (.cons (.q (.inp 3 13 7)) (.cons (.q (.inp 3 13 11)) .nil)) h0) = true := by kernel_rfl
theorem run7x12 : isT (callN (fun g => nget fs1 g) 3000 3 (.cons (.q (.inp 3 13 7)) (.cons (.q (.inp 3 13 12)) .nil)) h0) = true := by kernel_rfl
theorem run8x0 : isT (callN (fun g => nget fs1 g) 3000 3 (.cons (.q (.inp 3 13 8)) (.cons (.q (.inp 3 13 0)) .nil)) h0) = true := by kernel_rfl
theorem run8x1 : isT (callN (fun g => nget fs1 g) 3000 3 (.cons (.q (.inp 3 13 8)) (.cons (.q (.inp 3 13 1)) .nil)) h0) = true := by kernel_rfl
theorem run8x2 : isT (callN (fun g => nget fs1 g) 3000 3 (.cons (.q (.inp 3 13 8)) (.cons (.q (.inp 3 13 2)) .nil)) h0) = true := by kernel_rfl
theorem run8x3 : isT (callN (fun g => nget fs1 g) 3000 3 (.cons (.q (.inp 3 13 8)) (.cons (.q (.inp 3 13 3)) .nil)) h0) = true := by kernel_rfl
theorem run8x4 : isT (callN (fun g => nget fs1 g) 3000 3 (.cons (.q (.inp 3 13 8)) (.cons (.q (.inp 3 13 4)) .nil)) h0) = true := by kernel_rfl
theorem run8x5 : isT (callN (fun g => nget fs1 g) 3000 3 (.cons (.q (.inp 3 13 8)) (.cons (.q (.inp 3 13 5)) .nil)) h0) = true := by kernel_rfl
theorem run8x6 : isT (callN (fun g => nget fs1 g) 3000 3 (.cons (.q (.inp 3 13 8)) (.cons (.q (.inp 3 13 6)) .nil)) h0) = true := by kernel_rfl
theorem run8x7 : isT (callN (fun g => nget fs1 g) 3000 3 (.cons (.q (.inp 3 13 8)) (.cons (.q (.inp 3 13 7)) .nil)) h0) = true := by kernel_rfl
theorem run8x8 : isT (callN (fun g => nget fs1 g) 3000 3 (.cons (.q (.inp 3 13 8)) (.cons (.q (.inp 3 13 8)) .nil)) h0) = true := by kernel_rfl
theorem run8x9 : isT (callN (fun g => nget fs1 g) 3000 3 (.cons (.q (.inp 3 13 8)) (.cons (.q (.inp 3 13 9)) .nil)) h0) = true := by kernel_rfl
theorem run8x10 : isT (callN (fun g => nget fs1 g) 3000 3 (.cons (.q (.inp 3 13 8)) (.cons (.q (.inp 3 13 10)) .nil)) h0) = true := by kernel_rfl
theorem run8x11 : isT (callN (fun g => nget fs1 g) 3000 3 (.cons (.q (.inp 3 13 8)) (.cons (.q (.inp 3 13 11)) .nil)) h0) = true := by kernel_rfl
theorem run8x12 : isT (callN (fun g => nget fs1 g) 3000 3 (.cons (.q (.inp 3 13 8)) (.cons (.q (.inp 3 13 12)) .nil)) h0) = true := by kernel_rfl
theorem run9x0 : isT (callN (fun g => nget fs1 g) 3000 3 (.cons (.q (.inp 3 13 9)) (.cons (.q (.inp 3 13 0)) .nil)) h0) = true := by kernel_rfl
theorem run9x1 : isT (callN (fun g => nget fs1 g) 3000 3 (.cons (.q (.inp 3 13 9)) (.cons (.q (.inp 3 13 1)) .nil)) h0) = true := by kernel_rfl
theorem run9x2 : isT (callN (fun g => nget fs1 g) 3000 3 (.cons (.q (.inp 3 13 9)) (.cons (.q (.inp 3 13 2)) .nil)) h0) = true := by kernel_rfl
theorem run9x3 : isT (callN (fun g => nget fs1 g) 3000 3 (.cons (.q (.inp 3 13 9)) (.cons (.q (.inp 3 13 3)) .nil)) h0) = true := by kernel_rfl
theorem run9x4 : isT (callN (fun g => nget fs1 g) 3000 3 (.cons (.q (.inp 3 13 9)) (.cons (.q (.inp 3 13 4)) .nil)) h0) = true := by kernel_rfl
theorem run9x5 : isT (callN (fun g => nget fs1 g) 3000 3 (.cons (.q (.inp 3 13 9)) (.cons (.q (.inp 3 13 5)) .nil)) h0) = true := by kernel_rfl
theorem run9x6 : isT (callN (fun g => nget fs1 g) 3000 3 (.cons (.q (.inp 3 13 9)) (.cons (.q (.inp 3 13 6)) .nil)) h0) = true := by kernel_rfl
theorem run9x7 : isT (callN (fun g => nget fs1 g) 3000 3 (.cons (.q (.inp 3 13 9)) (.cons (.q (.inp 3 13 7)) .nil)) h0) = true := by kernel_rfl
end Go.Proofs.YtiiabbecebbabaaGreatDoor
