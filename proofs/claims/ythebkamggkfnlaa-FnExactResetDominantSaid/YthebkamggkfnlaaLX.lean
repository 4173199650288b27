/- The exact laws of chapter 4 on truth values: their walks. -/
import Derived.Test.YthebkamggkfnlaaLW
namespace Go.Proofs.Ythebkamggkfnlaa
open Go.RowKit
attribute [local go_sem ↓] Go.wp_at_zero Go.wp_at_succ

set_option maxHeartbeats 1000000 in
theorem FnExactRisingEdge_any (a b : Bool) (w : World) :
    Calls Try.prog 9 #[.bool a, .bool b] w (LawPost w) := by
  go_enter Try.func9, Try.ntmps9
  go_wp2_with fail
  refine (sRisingEdge_any a b _).mono ?_
  rintro e w2 ⟨rfl, rfl⟩
  go_wp2_with fail
  refine (iRisingEdge_any a b _).mono ?_
  rintro e w3 ⟨rfl, rfl⟩
  go_wp2
  go_ret
  exact ⟨rfl, Below.refl _ _⟩
set_option maxHeartbeats 1000000 in
theorem FnExactSetDominant_any (s a b : Bool) (w : World) :
    Calls Try.prog 10 #[.bool s, .bool a, .bool b] w (LawPost w) := by
  go_enter Try.func10, Try.ntmps10
  go_wp2_with fail
  refine (sSetDominant_any s a b _).mono ?_
  rintro e w2 ⟨rfl, rfl⟩
  go_wp2_with fail
  refine (iSetDominant_any s a b _).mono ?_
  rintro e w3 ⟨rfl, rfl⟩
  go_wp2
  go_ret
  exact ⟨rfl, Below.refl _ _⟩
set_option maxHeartbeats 1000000 in
theorem FnExactResetDominant_any (s a b : Bool) (w : World) :
    Calls Try.prog 11 #[.bool s, .bool a, .bool b] w (LawPost w) := by
  go_enter Try.func11, Try.ntmps11
  go_wp2_with fail
  refine (sResetDominant_any s a b _).mono ?_
  rintro e w2 ⟨rfl, rfl⟩
  go_wp2_with fail
  refine (iResetDominant_any s a b _).mono ?_
  rintro e w3 ⟨rfl, rfl⟩
  go_wp2
  go_ret
  exact ⟨rfl, Below.refl _ _⟩
end Go.Proofs.Ythebkamggkfnlaa
