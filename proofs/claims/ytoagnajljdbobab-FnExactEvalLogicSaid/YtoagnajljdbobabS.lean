/- Contracts of the laws' comparisons of lists and images, and of the specification's small functions. -/
import Derived.Test.YtoagnajljdbobabC
namespace Go.Proofs.Ytoagnajljdbobab
open Go.RowKit
attribute [local go_sem ↓] Go.wp_at_zero Go.wp_at_succ

def sameL {α : Type} [DecidableEq α] (a b : List α) : Bool := decide (a = b)
theorem sameL_len {α : Type} [DecidableEq α] {a b : List α} (h : a.length ≠ b.length) : false = sameL a b := by
  unfold sameL; simp; intro e; exact h (by rw [e])
theorem sameL_ne {α : Type} [DecidableEq α] {a b : List α} {k : Nat} (h1 : k < a.length) (h2 : k < b.length) (h : a[k] ≠ b[k]) : false = sameL a b := by
  unfold sameL; simp; rintro rfl; exact h rfl
theorem sameL_all {α : Type} [DecidableEq α] {a b : List α} (h : a.length = b.length) (hp : ∀ (j : Nat) (h1 : j < a.length) (h2 : j < b.length), a[j] = b[j]) : true = sameL a b := by
  unfold sameL; simp; exact List.ext_getElem h fun i h1 h2 => hp i h1 h2
/-- the first k elements agree -/
def agree {α : Type} (a b : List α) (k : Nat) : Prop := ∀ (j : Nat) (h1 : j < a.length) (h2 : j < b.length), j < k → a[j] = b[j]
theorem agree_zero {α : Type} (a b : List α) : agree a b 0 := fun _ _ _ h => absurd h (by omega)
theorem agree_succ {α : Type} {a b : List α} {k : Nat} (h : agree a b k) (h1 : k < a.length) (h2 : k < b.length) (e : a[k] = b[k]) : agree a b (k + 1) := by
  intro j g1 g2 hj
  rcases Nat.lt_or_ge j k with h' | h'
  · exact h j g1 g2 h'
  · obtain rfl : j = k := by omega
    exact e
set_option maxHeartbeats 400000 in
theorem eqIntS_any (v1 v2 : Value) (a b : List Int) (w : World) (h1 : IntsR w w.heap.size v1 a) (h2 : IntsR w w.heap.size v2 b) :
    Calls Try.prog 25 #[v1, v2] w fun e w' => e = .returned (.bool (sameL a b)) ∧ Below w.heap.size w w' := by
  obtain ⟨A, c, rfl, hr, hl, hb⟩ := h1
  obtain ⟨A2, c2, rfl, hr2, hl2, hb2⟩ := h2
  by_cases hne : a.length = b.length
  · have hq : ((a.length : Int) != (b.length : Int)) = false := by rw [bne_eq_false_iff_eq]; omega
    have Hne := Lib.hid hne
    clear hne
    go_enter Try.func25, Try.ntmps25
    go_wp2
    go_loopw [5] (fun i wr => ∃ k : Nat, k ≤ a.length ∧ i = .int .i64 k ∧ agree a b k ∧ Below w.heap.size w wr) (fun i _ => a.length - (intOf i).toNat)
    case atStart => exact ⟨0, by omega, rfl, agree_zero _ _, Below.refl _ _⟩
    case round =>
      obtain ⟨k, hk, rfl, hag, hbr⟩ := hrel
      by_cases hlt : k < a.length
      · have hlt2 : k < b.length := by have := Hne.out; omega
        obtain ⟨p, u, rfl, hpb, hu, hc⟩ := hr.one hlt
        obtain ⟨p2, u2, rfl, hpb2, hu2, hc2⟩ := hr2.one hlt2
        have hx : u = .int .i64 a[k] := by rw [List.getElem?_map, List.getElem?_eq_getElem hlt] at hu; simpa using hu.symm
        have hx2 : u2 = .int .i64 b[k] := by rw [List.getElem?_map, List.getElem?_eq_getElem hlt2] at hu2; simpa using hu2.symm
        subst hx; subst hx2
        have g1 := (hbr.cell (p := p.add k) (by rw [add_block]; exact hpb)).trans hc
        have g2 := (hbr.cell (p := p2.add k) (by rw [add_block]; exact hpb2)).trans hc2
        clear hu hu2 hc hc2 hr hr2
        have b1 := hb a[k] (List.getElem_mem hlt)
        have b2 := hb2 b[k] (List.getElem_mem hlt2)
        have i1 : (k : Int) < (a.length : Int) := by omega
        have i2 : (k : Int) < (b.length : Int) := by omega
        obtain ⟨x, hx⟩ : ∃ x, x = a[k] := ⟨_, rfl⟩
        obtain ⟨y, hy⟩ : ∃ y, y = b[k] := ⟨_, rfl⟩
        rw [← hx] at g1 b1
        rw [← hy] at g2 b2
        have Hx := Lib.hid hx; have Hy := Lib.hid hy
        clear hx hy
        by_cases hxy : x = y
        · have hd : (x != y) = false := by simpa using hxy
          have Hag := Lib.hid (agree_succ hag hlt hlt2 (by rw [← Hx.out, ← Hy.out]; exact hxy))
          clear hag hxy
          go_wp2
          go_quiet (fail)
          go_wp2
          go_roundw
          case rel => exact ⟨k + 1, by omega, by go_num, Hag.out, by exact hbr.trans ⟨rfl, rfl, rfl, Nat.le_refl _, fun _ _ => rfl⟩⟩
          case measure => simp [intOf]; omega
        · have hd : (x != y) = true := by simpa using hxy
          have Hag := Lib.hid (sameL_ne (a := a) (b := b) hlt hlt2 (by rw [← Hx.out, ← Hy.out]; exact hxy))
          clear hag hxy
          go_wp2
          go_quiet (fail)
          go_wp2
          go_ret
          exact ⟨ret_bool Hag.out, hbr.trans ⟨rfl, rfl, rfl, Nat.le_refl _, fun _ _ => rfl⟩⟩
      · go_wp2
        go_ret
        exact ⟨ret_bool (sameL_all Hne.out fun j g1 g2 => hag j g1 g2 (by omega)), hbr⟩
  · have hq : ((a.length : Int) != (b.length : Int)) = true := by rw [bne_iff_ne]; omega
    have Hs := Lib.hid (sameL_len hne)
    clear hne
    go_enter Try.func25, Try.ntmps25
    go_wp2
    go_ret
    exact ⟨ret_bool Hs.out, Below.refl _ _⟩
set_option maxHeartbeats 400000 in
theorem eqBoolS_any (v1 v2 : Value) (a b : List Bool) (w : World) (h1 : BoolsR w w.heap.size v1 a) (h2 : BoolsR w w.heap.size v2 b) :
    Calls Try.prog 24 #[v1, v2] w fun e w' => e = .returned (.bool (sameL a b)) ∧ Below w.heap.size w w' := by
  obtain ⟨A, c, rfl, hr, hl⟩ := h1
  obtain ⟨A2, c2, rfl, hr2, hl2⟩ := h2
  by_cases hne : a.length = b.length
  · have hq : ((a.length : Int) != (b.length : Int)) = false := by rw [bne_eq_false_iff_eq]; omega
    have Hne := Lib.hid hne
    clear hne
    go_enter Try.func24, Try.ntmps24
    go_wp2
    go_loopw [5] (fun i wr => ∃ k : Nat, k ≤ a.length ∧ i = .int .i64 k ∧ agree a b k ∧ Below w.heap.size w wr) (fun i _ => a.length - (intOf i).toNat)
    case atStart => exact ⟨0, by omega, rfl, agree_zero _ _, Below.refl _ _⟩
    case round =>
      obtain ⟨k, hk, rfl, hag, hbr⟩ := hrel
      by_cases hlt : k < a.length
      · have hlt2 : k < b.length := by have := Hne.out; omega
        obtain ⟨p, u, rfl, hpb, hu, hc⟩ := hr.one hlt
        obtain ⟨p2, u2, rfl, hpb2, hu2, hc2⟩ := hr2.one hlt2
        have hx : u = .bool a[k] := by rw [List.getElem?_map, List.getElem?_eq_getElem hlt] at hu; simpa using hu.symm
        have hx2 : u2 = .bool b[k] := by rw [List.getElem?_map, List.getElem?_eq_getElem hlt2] at hu2; simpa using hu2.symm
        subst hx; subst hx2
        have g1 := (hbr.cell (p := p.add k) (by rw [add_block]; exact hpb)).trans hc
        have g2 := (hbr.cell (p := p2.add k) (by rw [add_block]; exact hpb2)).trans hc2
        clear hu hu2 hc hc2 hr hr2
        have i1 : (k : Int) < (a.length : Int) := by omega
        have i2 : (k : Int) < (b.length : Int) := by omega
        obtain ⟨x, hx⟩ : ∃ x, x = a[k] := ⟨_, rfl⟩
        obtain ⟨y, hy⟩ : ∃ y, y = b[k] := ⟨_, rfl⟩
        rw [← hx] at g1
        rw [← hy] at g2
        have Hx := Lib.hid hx; have Hy := Lib.hid hy
        clear hx hy
        cases x <;> cases y
        · have Hag := Lib.hid (agree_succ hag hlt hlt2 (Hx.out.symm.trans Hy.out))
          clear hag
          go_wp2
          go_quiet (fail)
          go_wp2
          go_roundw
          case rel => exact ⟨k + 1, by omega, by go_num, Hag.out, by exact hbr.trans ⟨rfl, rfl, rfl, Nat.le_refl _, fun _ _ => rfl⟩⟩
          case measure => simp [intOf]; omega
        · have Hag := Lib.hid (sameL_ne (a := a) (b := b) hlt hlt2 (by rw [← Hx.out, ← Hy.out]; decide))
          clear hag
          go_wp2
          go_quiet (fail)
          go_wp2
          go_ret
          exact ⟨ret_bool Hag.out, hbr.trans ⟨rfl, rfl, rfl, Nat.le_refl _, fun _ _ => rfl⟩⟩
        · have Hag := Lib.hid (sameL_ne (a := a) (b := b) hlt hlt2 (by rw [← Hx.out, ← Hy.out]; decide))
          clear hag
          go_wp2
          go_quiet (fail)
          go_wp2
          go_ret
          exact ⟨ret_bool Hag.out, hbr.trans ⟨rfl, rfl, rfl, Nat.le_refl _, fun _ _ => rfl⟩⟩
        · have Hag := Lib.hid (agree_succ hag hlt hlt2 (Hx.out.symm.trans Hy.out))
          clear hag
          go_wp2
          go_quiet (fail)
          go_wp2
          go_roundw
          case rel => exact ⟨k + 1, by omega, by go_num, Hag.out, by exact hbr.trans ⟨rfl, rfl, rfl, Nat.le_refl _, fun _ _ => rfl⟩⟩
          case measure => simp [intOf]; omega
      · go_wp2
        go_ret
        exact ⟨ret_bool (sameL_all Hne.out fun j g1 g2 => hag j g1 g2 (by omega)), hbr⟩
  · have hq : ((a.length : Int) != (b.length : Int)) = true := by rw [bne_iff_ne]; omega
    have Hs := Lib.hid (sameL_len hne)
    clear hne
    go_enter Try.func24, Try.ntmps24
    go_wp2
    go_ret
    exact ⟨ret_bool Hs.out, Below.refl _ _⟩
end Go.Proofs.Ytoagnajljdbobab
