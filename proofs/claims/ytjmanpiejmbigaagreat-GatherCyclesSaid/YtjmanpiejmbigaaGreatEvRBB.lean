/- The law at some of its inputs, as the evaluator reckons it; conditions: none. -/
import Derived.Test.YtjmanpiejmbigaaGreatEvF
namespace Go.Proofs.YtjmanpiejmbigaaGreat
open Go Go.Ev
theorem run19x2 : isT (callN (fun g => nget fs1 g) 3000 3 (.cons (.q (.inp 3 20 19)) (.cons (.q (.inp 3 21 2)) .nil)) h0) = true := by kernel_rfl
theorem run19x3 : isT (callN (fun g => nget fs1 g) 3000 3 (.cons (.q (.inp 3 20 19)) (.cons (.q (.inp 3 21 3)) .nil)) h0) = true := by kernel_rfl
theorem run19x4 : isT (callN (fun g => nget fs1 g) 3000 3 (.cons (.q (.inp 3 20 19)) (.cons (.q (.inp 3 21 4)) .nil)) h0) = true := by kernel_rfl
theorem run19x5 : isT (callN (fun g => nget fs1 g) 3000 3 (.cons (.q (.inp 3 20 19)) (.cons (.q (.inp 3 21 5)) .nil)) h0) = true := by kernel_rfl
theorem run19x6 : isT (callN (fun g => nget fs1 g) 3000 3 (.cons (.q (.inp 3 20 19)) (.cons (.q (.inp 3 21 6)) .nil)) h0) = true := by kernel_rfl
end Go.Proofs.YtjmanpiejmbigaaGreat
