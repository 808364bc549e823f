/- The law at some of its inputs, as the evaluator reckons it; conditions: none. -/
import Derived.Test.YtoenlbemfkedoaaGreatEvFGatherCycles
namespace Go.Proofs.YtoenlbemfkedoaaGreat
open Go Go.Ev
theorem run6x3 : isT (callN (fun g => nget fs1 g) 3000 3 (.cons (.q (.inp 3 20 6)) (.cons (.q (.inp 3 8 3)) .nil)) h0) = true := by kernel_rfl
theorem run6x4 : isT (callN (fun g => nget fs1 g) 3000 3 (.cons (.q (.inp 3 20 6)) (.cons (.q (.inp 3 8 4)) .nil)) h0) = true := by kernel_rfl
theorem run6x5 : isT (callN (fun g => nget fs1 g) 3000 3 (.cons (.q (.inp 3 20 6)) (.cons (.q (.inp 3 8 5)) .nil)) h0) = true := by kernel_rfl
theorem run6x6 : isT (callN (fun g => nget fs1 g) 3000 3 (.cons (.q (.inp 3 20 6)) (.cons (.q (.inp 3 8 6)) .nil)) h0) = true := by kernel_rfl
theorem run6x7 : isT (callN (fun g => nget fs1 g) 3000 3 (.cons (.q (.inp 3 20 6)) (.cons (.q (.inp 3 8 7)) .nil)) h0) = true := by kernel_rfl
theorem run7x0 : isT (callN (fun g => nget fs1 g) 3000 3 (.cons (.q (.inp 3 20 7)) (.cons (.q (.inp 3 9 0)) .nil)) h0) = true := by kernel_rfl
theorem run7x1 : isT (callN (fun g => nget fs1 g) 3000 3 (.cons (.q (.inp 3 20 7)) (.cons (.q (.inp 3 9 1)) .nil)) h0) = true := by kernel_rfl
theorem run7x2 : isT (callN (fun g => nget fs1 g) 3000 3 (.cons (.q (.inp 3 20 7)) (.cons (.q (.inp 3 9 2)) .nil)) h0) = true := by kernel_rfl
theorem run7x3 : isT (callN (fun g => nget fs1 g) 3000 3 (.cons (.q (.inp 3 20 7)) (.cons (.q (.inp 3 9 3)) .nil)) h0) = true := by kernel_rfl
theorem run7x4 : isT (callN (fun g => nget fs1 g) 3000 3 (.cons (.q (.inp 3 20 7)) (.cons (.q (.inp 3 9 4)) .nil)) h0) = true := by kernel_rfl
theorem run7x5 : isT (callN (fun g => nget fs1 g) 3000 3 (.cons (.q (.inp 3 20 7)) (.cons (.q (.inp 3 9 5)) .nil)) h0) = true := by kernel_rfl
theorem run7x6 : isT (callN (fun g => nget fs1 g) 3000 3 (.cons (.q (.inp 3 20 7)) (.cons (.q (.inp 3 9 6)) .nil)) h0) = true := by kernel_rfl
theorem run7x7 : isT (callN (fun g => nget fs1 g) 3000 3 (.cons (.q (.inp 3 20 7)) (.cons (.q (.inp 3 9 7)) .nil)) h0) = true := by kernel_rfl
theorem run7x8 : isT (callN (fun g => nget fs1 g) 3000 3 (.cons (.q (.inp 3 20 7)) (.cons (.q (.inp 3 9 8)) .nil)) h0) = true := by kernel_rfl
theorem run8x0 : isT (callN (fun g => nget fs1 g) 3000 3 (.cons (.q (.inp 3 20 8)) (.cons (.q (.inp 3 10 0)) .nil)) h0) = true := by kernel_rfl
theorem run8x1 : isT (callN (fun g => nget fs1 g) 3000 3 (.cons (.q (.inp 3 20 8)) (.cons (.q (.inp 3 10 1)) .nil)) h0) = true := by kernel_rfl
theorem run8x2 : isT (callN (fun g => nget fs1 g) 3000 3 (.cons (.q (.inp 3 20 8)) (.cons (.q (.inp 3 10 2)) .nil)) h0) = true := by kernel_rfl
end Go.Proofs.YtoenlbemfkedoaaGreat
