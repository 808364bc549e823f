/- The law at some of its inputs, as the evaluator reckons it; conditions: none. -/
import Derived.Test.YtjmanpiejmbigaaGreatEvF
namespace Go.Proofs.YtjmanpiejmbigaaGreat
open Go Go.Ev
theorem run7x3 : isT (callN (fun g => nget fs1 g) 3000 3 (.cons (.q (.inp 3 20 7)) (.cons (.q (.inp 3 9 3)) .nil)) h0) = true := by kernel_rfl
theorem run7x4 : isT (callN (fun g => nget fs1 g) 3000 3 (.cons (.q (.inp 3 20 7)) (.cons (.q (.inp 3 9 4)) .nil)) h0) = true := by kernel_rfl
theorem run7x5 : isT (callN (fun g => nget fs1 g) 3000 3 (.cons (.q (.inp 3 20 7)) (.cons (.q (.inp 3 9 5)) .nil)) h0) = true := by kernel_rfl
theorem run7x6 : isT (callN (fun g => nget fs1 g) 3000 3 (.cons (.q (.inp 3 20 7)) (.cons (.q (.inp 3 9 6)) .nil)) h0) = true := by kernel_rfl
theorem run7x7 : isT (callN (fun g => nget fs1 g) 3000 3 (.cons (.q (.inp 3 20 7)) (.cons (.q (.inp 3 9 7)) .nil)) h0) = true := by kernel_rfl
theorem run7x8 : isT (callN (fun g => nget fs1 g) 3000 3 (.cons (.q (.inp 3 20 7)) (.cons (.q (.inp 3 9 8)) .nil)) h0) = true := by kernel_rfl
theorem run8x0 : isT (callN (fun g => nget fs1 g) 3000 3 (.cons (.q (.inp 3 20 8)) (.cons (.q (.inp 3 10 0)) .nil)) h0) = true := by kernel_rfl
theorem run8x1 : isT (callN (fun g => nget fs1 g) 3000 3 (.cons (.q (.inp 3 20 8)) (.cons (.q (.inp 3 10 1)) .nil)) h0) = true := by kernel_rfl
theorem run8x2 : isT (callN (fun g => nget fs1 g) 3000 3 (.cons (.q (.inp 3 20 8)) (.cons (.q (.inp 3 10 2)) .nil)) h0) = true := by kernel_rfl
theorem run8x3 : isT (callN (fun g => nget fs1 g) 3000 3 (.cons (.q (.inp 3 20 8)) (.cons (.q (.inp 3 10 3)) .nil)) h0) = true := by kernel_rfl
theorem run8x4 : isT (callN (fun g => nget fs1 g) 3000 3 (.cons (.q (.inp 3 20 8)) (.cons (.q (.inp 3 10 4)) .nil)) h0) = true := by kernel_rfl
theorem run8x5 : isT (callN (fun g => nget fs1 g) 3000 3 (.cons (.q (.inp 3 20 8)) (.cons (.q (.inp 3 10 5)) .nil)) h0) = true := by kernel_rfl
end Go.Proofs.YtjmanpiejmbigaaGreat
