/- The law at some of its inputs, as the evaluator reckons it; conditions: none. -/
import Derived.Test.YtoenlbemfkedoaaGreatEvFGatherCycles
namespace Go.Proofs.YtoenlbemfkedoaaGreat
open Go Go.Ev
theorem run16x2 : isT (callN (fun g => nget fs1 g) 3000 3 (.cons (.q (.inp 3 20 16)) (.cons (.q (.inp 3 18 2)) .nil)) h0) = true := by kernel_rfl
theorem run16x3 : isT (callN (fun g => nget fs1 g) 3000 3 (.cons (.q (.inp 3 20 16)) (.cons (.q (.inp 3 18 3)) .nil)) h0) = true := by kernel_rfl
theorem run16x4 : isT (callN (fun g => nget fs1 g) 3000 3 (.cons (.q (.inp 3 20 16)) (.cons (.q (.inp 3 18 4)) .nil)) h0) = true := by kernel_rfl
theorem run16x5 : isT (callN (fun g => nget fs1 g) 3000 3 (.cons (.q (.inp 3 20 16)) (.cons (.q (.inp 3 18 5)) .nil)) h0) = true := by kernel_rfl
theorem run16x6 : isT (callN (fun g => nget fs1 g) 3000 3 (.cons (.q (.inp 3 20 16)) (.cons (.q (.inp 3 18 6)) .nil)) h0) = true := by kernel_rfl
theorem run16x7 : isT (callN (fun g => nget fs1 g) 3000 3 (.cons (.q (.inp 3 20 16)) (.cons (.q (.inp 3 18 7)) .nil)) h0) = true := by kernel_rfl
theorem run16x8 : isT (callN (fun g => nget fs1 g) 3000 3 (.cons (.q (.inp 3 20 16)) (.cons (.q (.inp 3 18 8)) .nil)) h0) = true := by kernel_rfl
theorem run16x9 : isT (callN (fun g => nget fs1 g) 3000 3 (.cons (.q (.inp 3 20 16)) (.cons (.q (.inp 3 18 9)) .nil)) h0) = true := by kernel_rfl
end Go.Proofs.YtoenlbemfkedoaaGreat
