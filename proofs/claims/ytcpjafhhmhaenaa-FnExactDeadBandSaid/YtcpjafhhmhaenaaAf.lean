/- The exact laws of chapter 7 on numbers: their walks. -/
import Derived.Test.YtcpjafhhmhaenaaAI
import Derived.Test.YtcpjafhhmhaenaaW
namespace Go.Proofs.Ytcpjafhhmhaenaa
open Go.RowKit
attribute [local go_sem ↓] Go.wp_at_zero Go.wp_at_succ

set_option maxHeartbeats 1000000 in
theorem FnExactAddSaturated_any (a b : Int) (w : World) (ha : fitI a) (hb : fitI b) :
    Calls Try.prog 11 #[.int .i64 a, .int .i64 b] w (LawPost w) := by
  go_enter Try.func11, Try.ntmps11
  go_wp2_with fail
  refine (sAddSaturated_any a b _).mono ?_
  rintro e w2 ⟨rfl, rfl⟩
  go_wp2_with fail
  refine (iAddSaturated_any a b _ ha hb).mono ?_
  rintro e w3 ⟨rfl, hb⟩
  go_wp2
  go_ret
  exact ⟨rfl, hb⟩
set_option maxHeartbeats 1000000 in
theorem FnExactScaleWord_any (r a b lo hi : Int) (w : World) (hr : fitI r) (ha : fitI a) (hb : fitI b) (hlo : fitI lo) (hhi : fitI hi) :
    Calls Try.prog 12 #[.int .i64 r, .int .i64 a, .int .i64 b, .int .i64 lo, .int .i64 hi] w (LawPost w) := by
  go_enter Try.func12, Try.ntmps12
  go_wp2_with fail
  refine (sScaleWord_any r a b lo hi _).mono ?_
  rintro e w2 ⟨rfl, rfl⟩
  go_wp2_with fail
  refine (iScaleWord_any r a b lo hi _ hr ha hb hlo hhi).mono ?_
  rintro e w3 ⟨rfl, hb⟩
  go_wp2
  go_ret
  exact ⟨rfl, hb⟩
set_option maxHeartbeats 1000000 in
theorem FnExactRampStep_any (n t r : Int) (w : World) (hn : fitI n) (ht : fitI t) (hr : fitI r) :
    Calls Try.prog 14 #[.int .i64 n, .int .i64 t, .int .i64 r] w (LawPost w) := by
  go_enter Try.func14, Try.ntmps14
  go_wp2_with fail
  refine (sRampStep_any n t r _).mono ?_
  rintro e w2 ⟨rfl, rfl⟩
  go_wp2_with fail
  refine (iRampStep_any n t r _ hn ht hr).mono ?_
  rintro e w3 ⟨rfl, hb⟩
  go_wp2
  go_ret
  exact ⟨rfl, hb⟩
set_option maxHeartbeats 1000000 in
theorem FnExactDeadBand_any (x k : Int) (w : World) (hx : fitI x) (hk : fitI k) :
    Calls Try.prog 15 #[.int .i64 x, .int .i64 k] w (LawPost w) := by
  go_enter Try.func15, Try.ntmps15
  go_wp2_with fail
  refine (sDeadBand_any x k _).mono ?_
  rintro e w2 ⟨rfl, rfl⟩
  go_wp2_with fail
  refine (iDeadBand_any x k _ hx hk).mono ?_
  rintro e w3 ⟨rfl, hb⟩
  go_wp2
  go_ret
  exact ⟨rfl, hb⟩
set_option maxHeartbeats 1000000 in
theorem FnExactHysteresis_any (s : Bool) (x lo hi : Int) (w : World) (hx : fitI x) (hlo : fitI lo) (hhi : fitI hi) :
    Calls Try.prog 13 #[.bool s, .int .i64 x, .int .i64 lo, .int .i64 hi] w (LawPost w) := by
  go_enter Try.func13, Try.ntmps13
  go_wp2_with fail
  refine (sHysteresis_any s x lo hi _).mono ?_
  rintro e w2 ⟨rfl, rfl⟩
  go_wp2_with fail
  refine (iHysteresis_any s x lo hi _ hx hlo hhi).mono ?_
  rintro e w3 ⟨rfl, hb⟩
  go_wp2
  go_ret
  exact ⟨rfl, hb⟩
end Go.Proofs.Ytcpjafhhmhaenaa
