/- The law at some of its inputs, as the evaluator reckons it; conditions: none. -/
import Derived.Test.YtjmanpiejmbigaaGreatEvF
namespace Go.Proofs.YtjmanpiejmbigaaGreat
open Go Go.Ev
theorem run5x4 : isT (callN (fun g => nget fs1 g) 3000 3 (.cons (.q (.inp 3 20 5)) (.cons (.q (.inp 3 7 4)) .nil)) h0) = true := by kernel_rfl
theorem run5x5 : isT (callN (fun g => nget fs1 g) 3000 3 (.cons (.q (.inp 3 20 5)) (.cons (.q (.inp 3 7 5)) .nil)) h0) = true := by kernel_rfl
theorem run5x6 : isT (callN (fun g => nget fs1 g) 3000 3 (.cons (.q (.inp 3 20 5)) (.cons (.q (.inp 3 7 6)) .nil)) h0) = true := by kernel_rfl
theorem run6x0 : isT (callN (fun g => nget fs1 g) 3000 3 (.cons (.q (.inp 3 20 6)) (.cons (.q (.inp 3 8 0)) .nil)) h0) = true := by kernel_rfl
theorem run6x1 : isT (callN (fun g => nget fs1 g) 3000 3 (.cons (.q (.inp 3 20 6)) (.cons (.q (.inp 3 8 1)) .nil)) h0) = true := by kernel_rfl
theorem run6x2 : isT (callN (fun g => nget fs1 g) 3000 3 (.cons (.q (.inp 3 20 6)) (.cons (.q (.inp 3 8 2)) .nil)) h0) = true := by kernel_rfl
theorem run6x3 : isT (callN (fun g => nget fs1 g) 3000 3 (.cons (.q (.inp 3 20 6)) (.cons (.q (.inp 3 8 3)) .nil)) h0) = true := by kernel_rfl
theorem run6x4 : isT (callN (fun g => nget fs1 g) 3000 3 (.cons (.q (.inp 3 20 6)) (.cons (.q (.inp 3 8 4)) .nil)) h0) = true := by kernel_rfl
theorem run6x5 : isT (callN (fun g => nget fs1 g) 3000 3 (.cons (.q (.inp 3 20 6)) (.cons (.q (.inp 3 8 5)) .nil)) h0) = true := by kernel_rfl
theorem run6x6 : isT (callN (fun g => nget fs1 g) 3000 3 (.cons (.q (.inp 3 20 6)) (.cons (.q (.inp 3 8 6)) .nil)) h0) = true := by kernel_rfl
theorem run6x7 : isT (callN (fun g => nget fs1 g) 3000 3 (.cons (.q (.inp 3 20 6)) (.cons (.q (.inp 3 8 7)) .nil)) h0) = true := by kernel_rfl
theorem run7x0 : isT (callN (fun g => nget fs1 g) 3000 3 (.cons (.q (.inp 3 20 7)) (.cons (.q (.inp 3 9 0)) .nil)) h0) = true := by kernel_rfl
theorem run7x1 : isT (callN (fun g => nget fs1 g) 3000 3 (.cons (.q (.inp 3 20 7)) (.cons (.q (.inp 3 9 1)) .nil)) h0) = true := by kernel_rfl
theorem run7x2 : isT (callN (fun g => nget fs1 g) 3000 3 (.cons (.q (.inp 3 20 7)) (.cons (.q (.inp 3 9 2)) .nil)) h0) = true := by kernel_rfl
end Go.Proofs.YtjmanpiejmbigaaGreat
