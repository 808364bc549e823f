/- The law at some of its inputs, as the evaluator reckons it; conditions: none. -/
import Derived.Test.YtiiabbecebbabaaGreatDoorEvF
namespace Go.Proofs.YtiiabbecebbabaaGreatDoor
open Go Go.Ev
theorem run5x10 : isT (callN (fun g => nget fs1 g) 3000 3 (.cons (.q (.inp 3 13 5)) (.cons (.q (.inp 3 13 10)) .nil)) h0) = true := by kernel_rfl
theorem run5x11 : isT (callN (fun g => nget fs1 g) 3000 3 (.cons (.q (.inp 3 13 5)) (.cons (.q (.inp 3 13 11)) .nil)) h0) = true := by kernel_rfl
theorem run5x12 : isT (callN (fun g => nget fs1 g) 3000 3 (.cons (.q (.inp 3 13 5)) (.cons (.q (.inp 3 13 12)) .nil)) h0) = true := by kernel_rfl
theorem run6x0 : isT (callN (fun g => nget fs1 g) 3000 3 (.cons (.q (.inp 3 13 6)) (.cons (.q (.inp 3 13 0)) .nil)) h0) = true := by kernel_rfl
theorem run6x1 : isT (callN (fun g => nget fs1 g) 3000 3 (.cons (.q (.inp 3 13 6)) (.cons (.q (.inp 3 13 1)) .nil)) h0) = true := by kernel_rfl
theorem run6x2 : isT (callN (fun g => nget fs1 g) 3000 3 (.cons (.q (.inp 3 13 6)) (.cons (.q (.inp 3 13 2)) .nil)) h0) = true := by kernel_rfl
theorem run6x3 : isT (callN (fun g => nget fs1 g) 3000 3 (.cons (.q (.inp 3 13 6)) (.cons (.q (.inp 3 13 3)) .nil)) h0) = true := by kernel_rfl
theorem run6x4 : isT (callN (fun g => nget fs1 g) 3000 3 (.cons (.q (.inp 3 13 6)) (.cons (.q (.inp 3 13 4)) .nil)) h0) = true := by kernel_rfl
theorem run6x5 : isT (callN (fun g => nget fs1 g) 3000 3 (.cons (.q (.inp 3 13 6)) (.cons (.q (.inp 3 13 5)) .nil)) h0) = true := by kernel_rfl
theorem run6x6 : isT (callN (fun g => nget fs1 g) 3000 3 (.cons (.q (.inp 3 13 6)) (.cons (.q (.inp 3 13 6)) .nil)) h0) = true := by kernel_rfl
theorem run6x7 : isT (callN (fun g => nget fs1 g) 3000 3 (.cons (.q (.inp 3 13 6)) (.cons (.q (.inp 3 13 7)) .nil)) h0) = true := by kernel_rfl
theorem run6x8 : isT (callN (fun g => nget fs1 g) 3000 3 (.cons (.q (.inp 3 13 6)) (.cons (.q (.inp 3 13 8)) .nil)) h0) = true := by kernel_rfl
theorem run6x9 : isT (callN (fun g => nget fs1 g) 3000 3 (.cons (.q (.inp 3 13 6)) (.cons (.q (.inp 3 13 9)) .nil)) h0) = true := by kernel_rfl
theorem run6x10 : isT (callN (fun g => nget fs1 g) 3000 3 (.cons (.q (.inp 3 13 6)) (.cons (.q (.inp 3 13 10)) .nil)) h0) = true := by kernel_rfl
theorem run6x11 : isT (callN (fun g => nget fs1 g) 3000 3 (.cons (.q (.inp 3 13 6)) (.cons (.q (.inp 3 13 11)) .nil)) h0) = true := by kernel_rfl
theorem run6x12 : isT (callN (fun g => nget fs1 g) 3000 3 (.cons (.q (.inp 3 13 6)) (.cons (.q (.inp 3 13 12)) .nil)) h0) = true := by kernel_rfl
theorem run7x0 : isT (callN (fun g => nget fs1 g) 3000 3 (.cons (.q (.inp 3 13 7)) (.cons (.q (.inp 3 13 0)) .nil)) h0) = true := by kernel_rfl
theorem run7x1 : isT (callN (fun g => nget fs1 g) 3000 3 (.cons (.q (.inp 3 13 7)) (.cons (.q (.inp 3 13 1)) .nil)) h0) = true := by kernel_rfl
theorem run7x2 : isT (callN (fun g => nget fs1 g) 3000 3 (.cons (.q (.inp 3 13 7)) (.cons (.q (.inp 3 13 2)) .nil)) h0) = true := by kernel_rfl
theorem run7x3 : isT (callN (fun g => nget fs1 g) 3000 3 (.cons (.q (.inp 3 13 7)) (.cons (.q (.inp 3 13 3)) .nil)) h0) = true := by kernel_rfl
theorem run7x4 : isT (callN (fun g => nget fs1 g) 3000 3 (.cons (.q (.inp 3 13 7)) (.cons (.q (.inp 3 13 4)) .nil)) h0) = true := by kernel_rfl
theorem run7x5 : isT (callN (fun g => nget fs1 g) 3000 3 (.cons (.q (.inp 3 13 7)) (.cons (.q (.inp 3 13 5)) .nil)) h0) = true := by kernel_rfl
theorem run7x6 : isT (callN (fun g => nget fs1 g) 3000 3 (.cons (.q (.inp 3 13 7)) (.cons (.q (.inp 3 13 6)) .nil)) h0) = true := by kernel_rfl
theorem run7x7 : isT (callN (fun g => nget fs1 g) 3000 3 (.cons (.q (.inp 3 13 7)) (.cons (.q (.inp 3 13 7)) .nil)) h0) = true := by kernel_rfl
theorem run7x8 : isT (callN (fun g => nget fs1 g) 3000 3 (.cons (.q (.inp 3 13 7)) (.cons (.q (.inp 3 13 8)) .nil)) h0) = true := by kernel_rfl
end Go.Proofs.YtiiabbecebbabaaGreatDoor
