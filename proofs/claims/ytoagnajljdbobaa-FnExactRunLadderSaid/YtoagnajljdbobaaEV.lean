/- The exact law of EvalLogic: its walk. -/
import Derived.Test.YtoagnajljdbobaaED
import Derived.Test.YtoagnajljdbobaaEO
import Derived.Test.YtoagnajljdbobaaSq
import Derived.Test.YtoagnajljdbobaaIv
namespace Go.Proofs.Ytoagnajljdbobaa
open Go.RowKit
attribute [local go_sem ↓] Go.wp_at_zero Go.wp_at_succ

theorem fine_of2 {W : World} {B : Nat} {v : Value} {m : Img} (h : ImgR W B v m) (hs : m.bits.length + m.words.length ≤ 1048576) : fineM m := by
  obtain ⟨v1, v2, -, -, -, -, -, -, hx⟩ := h
  exact ⟨by omega, by omega, hx.2⟩
theorem OwnM.img2 {w : World} {lo : Nat} {v : Value} {m : Img} (h : OwnM w lo v m) (hm : fineM m) : ImgR w w.heap.size v m := (OwnMX.of h).read hm
end Go.Proofs.Ytoagnajljdbobaa
