/- The law at some of its inputs, as the evaluator reckons it; conditions: none. -/
import Derived.Test.YtjmanpiejmbigaaGreatEvF
namespace Go.Proofs.YtjmanpiejmbigaaGreat
open Go Go.Ev
theorem run13x0 : isT (callN (fun g => nget fs1 g) 3000 3 (.cons (.q (.inp 3 20 13)) (.cons (.q (.inp 3 15 0)) .nil)) h0) = true := by kernel_rfl
theorem run13x1 : isT (callN (fun g => nget fs1 g) 3000 3 (.cons (.q (.inp 3 20 13)) (.cons (.q (.inp 3 15 1)) .nil)) h0) = true := by kernel_rfl
theorem run13x2 : isT (callN (fun g => nget fs1 g) 3000 3 (.cons (.q (.inp 3 20 13)) (.cons (.q (.inp 3 15 2)) .nil)) h0) = true := by kernel_rfl
theorem run13x3 : isT (callN (fun g => nget fs1 g) 3000 3 (.cons (.q (.inp 3 20 13)) (.cons (.q (.inp 3 15 3)) .nil)) h0) = true := by kernel_rfl
theorem run13x4 : isT (callN (fun g => nget fs1 g) 3000 3 (.cons (.q (.inp 3 20 13)) (.cons (.q (.inp 3 15 4)) .nil)) h0) = true := by kernel_rfl
theorem run13x5 : isT (callN (fun g => nget fs1 g) 3000 3 (.cons (.q (.inp 3 20 13)) (.cons (.q (.inp 3 15 5)) .nil)) h0) = true := by kernel_rfl
theorem run13x6 : isT (callN (fun g => nget fs1 g) 3000 3 (.cons (.q (.inp 3 20 13)) (.cons (.q (.inp 3 15 6)) .nil)) h0) = true := by kernel_rfl
end Go.Proofs.YtjmanpiejmbigaaGreat
