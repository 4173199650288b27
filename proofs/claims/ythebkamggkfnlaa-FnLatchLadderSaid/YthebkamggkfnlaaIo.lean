/- The program's stack machine: a whole run; rows. -/
import Derived.Test.YthebkamggkfnlaaIn
import Derived.Test.YthebkamggkfnlaaB
namespace Go.Proofs.Ythebkamggkfnlaa
open Go.RowKit
attribute [local go_sem ↓] Go.wp_at_zero Go.wp_at_succ

theorem ev_takeI {α : Type} (A : Alg α) (l : List Nd) (k : Nat) (h : k < l.length) : ev A (l.take (k + 1)) [] = evStep A (ev A (l.take k) []) l[k] := by
  rw [take_snocN l k h, ev_snoc]
theorem ev_headI {α : Type} (A : Alg α) {l : List Nd} {n : Int} (h : lvalid l n = true) (k : Nat) (hk : k < l.length) : ndOK n l[k] (ev A (l.take k) []).length = true ∧ (ev A (l.take k) []).length ≤ k := by
  obtain ⟨f, h1, h2⟩ := dep_prefix (lvalid_dep h) k
  have h3 := ev_len A n (l.take k) [] f h1
  rw [h3]
  refine ⟨h2 hk, ?_⟩
  have := depOf_le n (l.take k) 0 f h1
  simp at this; omega
def RunP (B : Nat) (r : Value) (w : World) (e : Ending) (w' : World) : Prop := e = .returned r ∧ Below B w w'
theorem Mach.below {w w' : World} {g base : Nat} {c : Nat → Int} {st : List Int} (h : Mach w g base c st) (hb : Below w.heap.size w w') : Mach w' g base c st := by obtain ⟨v, h⟩ := h; exact ⟨v, h.below hb⟩
set_option maxHeartbeats 1000000 in
theorem run_any (g base B : Nat) (c : Nat → Int) (v : Value) (l : List Nd) (n : Nat) (w : World) (hM : Mach w g base c []) (hN : NodesR w B v l) (hBg : B ≤ g) (hv : lvalid l n = true) (hn : n ≤ 16) (hb : base ≤ w.heap.size) :
    Calls Try.prog 65 #[.pointer (some ⟨g, 0, none⟩), v] w (RunP B (.int .u64 (val (iAlg c) l)) w) := by
  have hle := lvalid_len hv
  have HV := Lib.hid hv
  have hgb := hM.lt
  obtain ⟨A, c0, rfl, hr, hl, hf⟩ := hN
  clear hv hf
  go_enter Try.func65, Try.ntmps65
  go_wp2
  go_loopw [9] (fun i wr => ∃ (k : Nat) (st : List Int), k ≤ l.length ∧ i = .int .i64 k ∧ Hid (ev (iAlg c) (l.take k) [] = st) ∧ Mach wr g base c st ∧ Fr B g w wr) (fun i _ => l.length - (intOf i).toNat)
  case atStart => exact ⟨0, [], by omega, rfl, Lib.hid rfl, hM, Fr.refl _ _ _⟩
  case round =>
    obtain ⟨k, st, hk, rfl, Hst, hMr, hF⟩ := hrel
    have hsz := hF.size
    by_cases hlt : k < l.length
    · obtain ⟨p, rfl, hpb, hc1, hc2⟩ := hr.two hlt
      have hO := ev_headI (iAlg c) HV.out k hlt
      have hNX := ev_takeI (iAlg c) l k hlt
      rw [Hst.out] at hO hNX
      obtain ⟨x, hx⟩ : ∃ x, x = l[k] := ⟨_, rfl⟩
      rw [← hx] at hc1 hc2 hO hNX
      clear hx Hst
      obtain ⟨hO, hsl⟩ := hO
      have g1 := ((World.cell?_of_block (w := w) (a := p.add (k * 2)) (hF.block _ (by rw [add_block]; exact hpb) (by rw [add_block]; omega)))).trans hc1
      have g2 := ((World.cell?_of_block (w := w) (a := ⟨(p.add (k * 2)).block, (p.add (k * 2)).off + 1, none⟩) (hF.block _ (by show (p.add (k * 2)).block < _; rw [add_block]; exact hpb) (by show (p.add (k * 2)).block ≠ _; rw [add_block]; omega)))).trans hc2
      clear hc1 hc2 hr
      obtain ⟨op, bit⟩ := x
      have HN := Lib.hid hNX
      have HO := Lib.hid hO
      clear hNX hO
      go_wp2_with fail
      refine (execute_any g base B c st op bit n _ (hMr.alloc _) HO.out hn (by omega) (by simp; omega) (by omega)).mono ?_
      rintro e w2 ⟨rfl, hM2, hF2⟩
      have hF3 := (hF.alloc (by have := hMr.glt; omega) _).trans hF2
      clear hMr hF hF2
      go_wp2
      go_roundw
      case rel => exact ⟨k + 1, _, by omega, by go_num, HN, hM2, hF3⟩
      case measure => simp [intOf]; omega
    · obtain rfl : k = l.length := by omega
      have hl1 := ev_len (iAlg c) n l [] 1 (lvalid_dep HV.out)
      have hE := Hst.out
      rw [List.take_length] at hE
      rw [hE] at hl1
      obtain ⟨a, r, rfl⟩ := i_one (show 1 ≤ st.length by omega)
      obtain rfl : r = [] := List.eq_nil_of_length_eq_zero (by simpa using hl1)
      have HE := Lib.hid (show val (iAlg c) l = a by unfold val; rw [hE]; rfl)
      clear Hst hE hl1
      go_wp2_with fail
      refine (pop_any g base B c [] a _ hMr (by simp)).mono ?_
      rintro e w2 ⟨rfl, hM2, hF2⟩
      go_wp2
      go_ret
      exact ⟨by rw [HE.out]; rfl, (hF.trans hF2).below hBg⟩
/-- The algebra of the program's operations goes along with the algebra of rows. -/
theorem iAlg_step (c : Nat → Int) (d : Int → Nat) (x : Nd) (st : List Nat) (hc : x.op = 1 → c x.bit.toNat = (d x.bit : Int) ∧ d x.bit < 18446744073709551616) (hs : ∀ v ∈ st, v < 18446744073709551616) :
    evStep (iAlg c) (st.map Int.ofNat) x = (evStep (rowAlg d) st x).map Int.ofNat := by
  have a0 : ∀ a : Nat, a < 18446744073709551616 → bits .xor .u64 18446744073709551615 (Int.ofNat a) = Int.ofNat (18446744073709551615 ^^^ a) := fun a ha => u64_xor_nat 18446744073709551615 a (by omega) ha
  have a1 : ∀ a b : Nat, a < 18446744073709551616 → b < 18446744073709551616 → bits .and .u64 (Int.ofNat a) (Int.ofNat b) = Int.ofNat (b &&& a) := fun a b ha hb => by rw [Nat.and_comm]; exact u64_and_nat a b ha hb
  have a2 : ∀ a b : Nat, a < 18446744073709551616 → b < 18446744073709551616 → bits .or .u64 (Int.ofNat a) (Int.ofNat b) = Int.ofNat (b ||| a) := fun a b ha hb => by rw [Nat.or_comm]; exact u64_or_nat a b ha hb
  have a3 : ∀ a b : Nat, a < 18446744073709551616 → b < 18446744073709551616 → bits .xor .u64 (Int.ofNat a) (Int.ofNat b) = Int.ofNat (b ^^^ a) := fun a b ha hb => by rw [Nat.xor_comm]; exact u64_xor_nat a b ha hb
  unfold evStep
  by_cases h1 : x.op = 1
  · simp only [h1, if_true, List.map_cons]
    congr 1
    exact (hc h1).1
  · simp only [h1, if_false]
    rcases st with _ | ⟨a, _ | ⟨b, r⟩⟩
    · simp only [List.map_nil]
      repeat' split
      all_goals rfl
    · have ha := hs a (by simp)
      simp only [List.map_cons, List.map_nil]
      repeat' split
      all_goals first | rfl | (show _ :: _ = Int.ofNat _ :: _; rw [show (iAlg c).no (Int.ofNat a) = _ from a0 a ha]; rfl)
    · have ha := hs a (by simp)
      have hb := hs b (by simp)
      simp only [List.map_cons]
      split
      · rw [show (iAlg c).no (Int.ofNat a) = _ from a0 a ha]; rfl
      split
      · rw [show (iAlg c).an (Int.ofNat b) (Int.ofNat a) = _ from a1 a b ha hb]; rfl
      split
      · rw [show (iAlg c).or_ (Int.ofNat b) (Int.ofNat a) = _ from a2 a b ha hb]; rfl
      split
      · rw [show (iAlg c).xo (Int.ofNat b) (Int.ofNat a) = _ from a3 a b ha hb]; rfl
      split <;> rfl
theorem iAlg_ev (c : Nat → Int) (d : Int → Nat) (l : List Nd) (st : List Nat) (hc : ∀ x ∈ l, x.op = 1 → c x.bit.toNat = (d x.bit : Int) ∧ d x.bit < 18446744073709551616) (hs : ∀ v ∈ st, v < 18446744073709551616) :
    ev (iAlg c) l (st.map Int.ofNat) = (ev (rowAlg d) l st).map Int.ofNat := by
  induction l generalizing st with
  | nil => rfl
  | cons x l ih =>
    show ev (iAlg c) l (evStep (iAlg c) (st.map Int.ofNat) x) = (ev (rowAlg d) l (evStep (rowAlg d) st x)).map Int.ofNat
    rw [iAlg_step c d x st (hc x (by simp)) hs]
    exact ih _ (fun y hy => hc y (by simp [hy])) (evStep_lt d x st (fun h => (hc x (by simp) h).2) hs)
theorem iAlg_val (c : Nat → Int) (d : Int → Nat) (l : List Nd) (hc : ∀ x ∈ l, x.op = 1 → c x.bit.toNat = (d x.bit : Int) ∧ d x.bit < 18446744073709551616) : val (iAlg c) l = ((val (rowAlg d) l : Nat) : Int) := by
  have h := iAlg_ev c d l [] hc (by simp)
  unfold val
  rw [show ev (iAlg c) l [] = _ from h]
  cases ev (rowAlg d) l [] <;> rfl
end Go.Proofs.Ythebkamggkfnlaa
