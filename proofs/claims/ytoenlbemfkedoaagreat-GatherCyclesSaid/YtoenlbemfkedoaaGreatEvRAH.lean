/- The law at some of its inputs, as the evaluator reckons it; conditions: none. -/
import Derived.Test.YtoenlbemfkedoaaGreatEvFGatherCycles
namespace Go.Proofs.YtoenlbemfkedoaaGreat
open Go Go.Ev
theorem run13x4 : isT (callN (fun g => nget fs1 g) 3000 3 (.cons (.q (.inp 3 20 13)) (.cons (.q (.inp 3 15 4)) .nil)) h0) = true := by kernel_rfl
theorem run13x5 : isT (callN (fun g => nget fs1 g) 3000 3 (.cons (.q (.inp 3 20 13)) (.cons (.q (.inp 3 15 5)) .nil)) h0) = true := by kernel_rfl
theorem run13x6 : isT (callN (fun g => nget fs1 g) 3000 3 (.cons (.q (.inp 3 20 13)) (.cons (.q (.inp 3 15 6)) .nil)) h0) = true := by kernel_rfl
theorem run13x7 : isT (callN (fun g => nget fs1 g) 3000 3 (.cons (.q (.inp 3 20 13)) (.cons (.q (.inp 3 15 7)) .nil)) h0) = true := by kernel_rfl
theorem run13x8 : isT (callN (fun g => nget fs1 g) 3000 3 (.cons (.q (.inp 3 20 13)) (.cons (.q (.inp 3 15 8)) .nil)) h0) = true := by kernel_rfl
theorem run13x9 : isT (callN (fun g => nget fs1 g) 3000 3 (.cons (.q (.inp 3 20 13)) (.cons (.q (.inp 3 15 9)) .nil)) h0) = true := by kernel_rfl
theorem run13x10 : isT (callN (fun g => nget fs1 g) 3000 3 (.cons (.q (.inp 3 20 13)) (.cons (.q (.inp 3 15 10)) .nil)) h0) = true := by kernel_rfl
theorem run13x11 : isT (callN (fun g => nget fs1 g) 3000 3 (.cons (.q (.inp 3 20 13)) (.cons (.q (.inp 3 15 11)) .nil)) h0) = true := by kernel_rfl
theorem run13x12 : isT (callN (fun g => nget fs1 g) 3000 3 (.cons (.q (.inp 3 20 13)) (.cons (.q (.inp 3 15 12)) .nil)) h0) = true := by kernel_rfl
theorem run13x13 : isT (callN (fun g => nget fs1 g) 3000 3 (.cons (.q (.inp 3 20 13)) (.cons (.q (.inp 3 15 13)) .nil)) h0) = true := by kernel_rfl
end Go.Proofs.YtoenlbemfkedoaaGreat
