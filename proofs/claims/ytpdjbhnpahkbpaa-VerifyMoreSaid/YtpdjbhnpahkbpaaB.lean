/- What it says that an integer fits its kind. -/
import Derived.Test.YtpdjbhnpahkbpaaRows
import Derived.DataShut
namespace Go.Proofs.Ytpdjbhnpahkbpaa
theorem u64_lo {a : Int} (h : (Lit.int .u64 a).wf = true) : 0 ≤ a := ((Lit.wf_int_iff _ _).1 h).1
theorem u64_hi {a : Int} (h : (Lit.int .u64 a).wf = true) : a ≤ 18446744073709551615 := ((Lit.wf_int_iff _ _).1 h).2
theorem i64_lo {a : Int} (h : (Lit.int .i64 a).wf = true) : -9223372036854775808 ≤ a := ((Lit.wf_int_iff _ _).1 h).1
theorem i64_hi {a : Int} (h : (Lit.int .i64 a).wf = true) : a ≤ 9223372036854775807 := ((Lit.wf_int_iff _ _).1 h).2
theorem u16_lo {a : Int} (h : (Lit.int .u16 a).wf = true) : 0 ≤ a := ((Lit.wf_int_iff _ _).1 h).1
theorem u16_hi {a : Int} (h : (Lit.int .u16 a).wf = true) : a ≤ 65535 := ((Lit.wf_int_iff _ _).1 h).2
theorem u8_lo {a : Int} (h : (Lit.int .u8 a).wf = true) : 0 ≤ a := ((Lit.wf_int_iff _ _).1 h).1
theorem u8_hi {a : Int} (h : (Lit.int .u8 a).wf = true) : a ≤ 255 := ((Lit.wf_int_iff _ _).1 h).2
end Go.Proofs.Ytpdjbhnpahkbpaa
