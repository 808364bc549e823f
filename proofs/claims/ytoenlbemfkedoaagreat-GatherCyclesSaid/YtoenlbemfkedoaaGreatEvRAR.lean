/- The law at some of its inputs, as the evaluator reckons it; conditions: none. -/
import Derived.Test.YtoenlbemfkedoaaGreatEvFGatherCycles
namespace Go.Proofs.YtoenlbemfkedoaaGreat
open Go Go.Ev
theorem run18x4 : isT (callN (fun g => nget fs1 g) 3000 3 (.cons (.q (.inp 3 20 18)) (.cons (.q (.inp 3 20 4)) .nil)) h0) = true := by kernel_rfl
theorem run18x5 : isT (callN (fun g => nget fs1 g) 3000 3 (.cons (.q (.inp 3 20 18)) (.cons (.q (.inp 3 20 5)) .nil)) h0) = true := by kernel_rfl
theorem run18x6 : isT (callN (fun g => nget fs1 g) 3000 3 (.cons (.q (.inp 3 20 18)) (.cons (.q (.inp 3 20 6)) .nil)) h0) = true := by kernel_rfl
theorem run18x7 : isT (callN (fun g => nget fs1 g) 3000 3 (.cons (.q (.inp 3 20 18)) (.cons (.q (.inp 3 20 7)) .nil)) h0) = true := by kernel_rfl
theorem run18x8 : isT (callN (fun g => nget fs1 g) 3000 3 (.cons (.q (.inp 3 20 18)) (.cons (.q (.inp 3 20 8)) .nil)) h0) = true := by kernel_rfl
theorem run18x9 : isT (callN (fun g => nget fs1 g) 3000 3 (.cons (.q (.inp 3 20 18)) (.cons (.q (.inp 3 20 9)) .nil)) h0) = true := by kernel_rfl
theorem run18x10 : isT (callN (fun g => nget fs1 g) 3000 3 (.cons (.q (.inp 3 20 18)) (.cons (.q (.inp 3 20 10)) .nil)) h0) = true := by kernel_rfl
end Go.Proofs.YtoenlbemfkedoaaGreat
