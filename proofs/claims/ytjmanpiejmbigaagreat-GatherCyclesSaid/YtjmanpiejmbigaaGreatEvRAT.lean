/- The law at some of its inputs, as the evaluator reckons it; conditions: none. -/
import Derived.Test.YtjmanpiejmbigaaGreatEvF
namespace Go.Proofs.YtjmanpiejmbigaaGreat
open Go Go.Ev
theorem run16x16 : isT (callN (fun g => nget fs1 g) 3000 3 (.cons (.q (.inp 3 20 16)) (.cons (.q (.inp 3 18 16)) .nil)) h0) = true := by kernel_rfl
theorem run16x17 : isT (callN (fun g => nget fs1 g) 3000 3 (.cons (.q (.inp 3 20 16)) (.cons (.q (.inp 3 18 17)) .nil)) h0) = true := by kernel_rfl
theorem run17x0 : isT (callN (fun g => nget fs1 g) 3000 3 (.cons (.q (.inp 3 20 17)) (.cons (.q (.inp 3 19 0)) .nil)) h0) = true := by kernel_rfl
theorem run17x1 : isT (callN (fun g => nget fs1 g) 3000 3 (.cons (.q (.inp 3 20 17)) (.cons (.q (.inp 3 19 1)) .nil)) h0) = true := by kernel_rfl
theorem run17x2 : isT (callN (fun g => nget fs1 g) 3000 3 (.cons (.q (.inp 3 20 17)) (.cons (.q (.inp 3 19 2)) .nil)) h0) = true := by kernel_rfl
theorem run17x3 : isT (callN (fun g => nget fs1 g) 3000 3 (.cons (.q (.inp 3 20 17)) (.cons (.q (.inp 3 19 3)) .nil)) h0) = true := by kernel_rfl
end Go.Proofs.YtjmanpiejmbigaaGreat
