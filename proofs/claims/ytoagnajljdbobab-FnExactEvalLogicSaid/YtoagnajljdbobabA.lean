/- Contracts of the small functions of chapter 1: each returns what its plain function gives, and writes nothing that was there. -/
import Derived.Test.YtoagnajljdbobabRows
import Derived.Test.YtoagnajljdbobabMem
import Derived.WalkLawsBesides
namespace Go.Proofs.Ytoagnajljdbobab
open Go.RowKit

def inB (n lo hi : Int) : Bool := decide (lo ≤ n) && decide (n ≤ hi)
set_option maxHeartbeats 400000 in
theorem l1In_any (n lo hi : Int) (w : World) :
    Calls Try.prog 27 #[.int .i64 n, .int .i64 lo, .int .i64 hi] w fun e w' => e = .returned (.bool (inB n lo hi)) ∧ w = w' := by
  unfold inB
  by_cases h : lo ≤ n
  all_goals
    go_enter Try.func27, Try.ntmps27
    go_wp2
    go_ret
    exact ⟨ret_bool (by simp [h] <;> omega), rfl⟩
set_option maxHeartbeats 400000 in
theorem isWord_any (n : Int) (w : World) :
    Calls Try.prog 40 #[.int .i64 n] w fun e w' => e = .returned (.bool (inB n (-32768) 32767)) ∧ w = w' := by
  unfold inB
  by_cases h : -32768 ≤ n
  all_goals
    go_enter Try.func40, Try.ntmps40
    go_wp2
    go_ret
    exact ⟨ret_bool (by simp [h] <;> omega), rfl⟩

def wordsOK (l : List Int) : Bool := l.all fun x => inB x (-32768) 32767
theorem all_take_snoc {α : Type} (p : α → Bool) (l : List α) (k : Nat) (h : k < l.length) : (l.take (k + 1)).all p = ((l.take k).all p && p l[k]) := by
  rw [List.take_succ_eq_append_getElem h, List.all_append]; simp
theorem all_false_of {α : Type} (p : α → Bool) (l : List α) (k : Nat) (h : k < l.length) (hp : p l[k] = false) : l.all p = false := by
  rw [List.all_eq_false]; exact ⟨l[k], List.getElem_mem h, by simp [hp]⟩
set_option maxHeartbeats 400000 in
theorem areWords_any (v : Value) (l : List Int) (w : World) (h : IntsR w w.heap.size v l) :
    Calls Try.prog 36 #[v] w fun e w' => e = .returned (.bool (wordsOK l)) ∧ w = w' := by
  obtain ⟨A, c, rfl, hr, hl, hb⟩ := h
  go_enter Try.func36, Try.ntmps36
  go_wp2
  go_loop [7] (fun i => ∃ k : Nat, k ≤ l.length ∧ i = .int .i64 k ∧ (l.take k).all (fun x => inB x (-32768) 32767) = true) (fun i => l.length - (intOf i).toNat)
  case atStart => exact ⟨0, by omega, rfl, by simp⟩
  case round =>
    obtain ⟨k, hk, rfl, hall⟩ := hrel
    have H := Lib.hid hall
    clear hall
    by_cases hlt : k < l.length
    · obtain ⟨p, u, rfl, hpb, hu, hc⟩ := hr.one hlt
      have hx : u = .int .i64 l[k] := by rw [List.getElem?_map, List.getElem?_eq_getElem hlt] at hu; simpa using hu.symm
      subst hx
      clear hu
      have hbk := hb l[k] (List.getElem_mem hlt)
      by_cases hin : inB l[k] (-32768) 32767 = true
      · go_wp2_with (go_at_call 40; refine (isWord_any _ _).mono ?_; rintro e w' ⟨rfl, rfl⟩)
        go_round
        case rel => exact ⟨k + 1, by omega, by go_num, by rw [all_take_snoc _ _ _ hlt, H.out, hin]; rfl⟩
        case measure => simp [intOf]; omega
      · have hin' : inB l[k] (-32768) 32767 = false := by simpa using hin
        clear hin
        go_wp2_with (go_at_call 40; refine (isWord_any _ _).mono ?_; rintro e w' ⟨rfl, rfl⟩)
        go_ret
        exact ⟨ret_bool (by unfold wordsOK; rw [all_false_of _ _ k hlt hin']), rfl⟩
    · go_wp2
      go_ret
      exact ⟨ret_bool (by have := H.out; rw [List.take_of_length_le (by omega)] at this; unfold wordsOK; rw [this]), rfl⟩
set_option maxHeartbeats 400000 in
theorem wvalid_any (v : Value) (l : List Int) (w : World) (h : IntsR w w.heap.size v l) :
    Calls Try.prog 29 #[v] w fun e w' => e = .returned (.bool (decide (l.length ≤ 8) && wordsOK l)) ∧ w = w' := by
  have h0 := h
  obtain ⟨A, c, rfl, -, hl, -⟩ := h
  by_cases h8 : l.length ≤ 8
  · go_enter Try.func29, Try.ntmps29
    go_wp2_with fail
    refine (areWords_any _ l _ h0).mono ?_
    rintro e w' ⟨rfl, rfl⟩
    go_wp2
    go_ret
    exact ⟨ret_bool (by rw [decide_eq_true h8, Bool.true_and]), rfl⟩
  · go_enter Try.func29, Try.ntmps29
    go_wp2
    go_ret
    exact ⟨ret_bool rfl, rfl⟩

def imgOK (m : Img) : Bool := decide (m.bits.length ≤ 16) && (decide (m.words.length ≤ 8) && wordsOK m.words)
set_option maxHeartbeats 400000 in
theorem iImageValid_any (v : Value) (m : Img) (w : World) (h : ImgR w w.heap.size v m) :
    Calls Try.prog 20 #[v] w fun e w' => e = .returned (.bool (imgOK m)) ∧ Below w.heap.size w w' := by
  obtain ⟨v1, v2, rfl, h1, h2⟩ := h
  unfold imgOK
  obtain ⟨A, c, rfl, hr, hl⟩ := h1
  have hW : ∀ o, IntsR (w.alloc o) (w.alloc o).heap.size v2 m.words := fun o => h2.below ((Below.refl _ _).alloc (Nat.le_refl _) _)
  have hex : ∃ A2 c2, v2 = .slice A2 m.words.length c2 := by obtain ⟨A2, c2, e, _⟩ := h2; exact ⟨A2, c2, e⟩
  clear h2
  obtain ⟨A2, c2, rfl⟩ := hex
  by_cases h16 : m.bits.length ≤ 16
  all_goals
    go_enter Try.func20, Try.ntmps20
    go_wp2_with (go_at_call 29; refine (wvalid_any _ m.words _ (hW _)).mono ?_; rintro e w' ⟨rfl, rfl⟩)
    go_ret
    exact ⟨ret_bool (by simp [h16] <;> omega), (Below.refl _ _).alloc (Nat.le_refl _) _⟩
end Go.Proofs.Ytoagnajljdbobab
