/- The law at some of its inputs, as the evaluator reckons it; conditions: none. -/
import Derived.Test.YtoenlbemfkedoaaGreatEvFGatherCycles
namespace Go.Proofs.YtoenlbemfkedoaaGreat
open Go Go.Ev
theorem run19x19 : isT (callN (fun g => nget fs1 g) 3000 3 (.cons (.q (.inp 3 20 19)) (.cons (.q (.inp 3 21 19)) .nil)) h0) = true := by kernel_rfl
theorem run19x20 : isT (callN (fun g => nget fs1 g) 3000 3 (.cons (.q (.inp 3 20 19)) (.cons (.q (.inp 3 21 20)) .nil)) h0) = true := by kernel_rfl
end Go.Proofs.YtoenlbemfkedoaaGreat
