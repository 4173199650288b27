/- The specification's dependence, evaluation. -/
import Derived.Test.YtbbaojmmjcdliaaDoorSn
namespace Go.Proofs.YtbbaojmmjcdliaaDoor
open Go.RowKit
attribute [local go_sem ↓] Go.wp_at_zero Go.wp_at_succ

theorem xor64 (a b : Nat) (ha : a < 1000) (hb : b < 1000) : bits .xor .i64 (a : Int) (b : Int) = ((a ^^^ b : Nat) : Int) := by
  have h : a ^^^ b < 2 ^ 10 := Nat.xor_lt_two_pow (by omega) (by omega)
  have hx : (BitVec.ofInt 64 (a : Int)).toNat = a := by rw [BitVec.ofInt_natCast, BitVec.toNat_ofNat]; exact Nat.mod_eq_of_lt (by omega)
  have hy : (BitVec.ofInt 64 (b : Int)).toNat = b := by rw [BitVec.ofInt_natCast, BitVec.toNat_ofNat]; exact Nat.mod_eq_of_lt (by omega)
  show IntKind.i64.wrap (((BitVec.ofInt 64 (a : Int)) ^^^ (BitVec.ofInt 64 (b : Int))).toNat : Int) = _
  rw [BitVec.toNat_xor, hx, hy, IntKind.wrap_i64]
  omega
def depS (xs : List Bool) (j : Nat) : Bool := (List.range xs.length).any fun x => xs.getD x false != xs.getD (x ^^^ 2 ^ j) false
theorem depS_tab {l : List Nd} {m j : Nat} (hj : j < m) : depS (tabL l m) j = depB l m j := by
  unfold depS depB
  rw [tabL_length, Bool.eq_iff_iff, List.any_eq_true, List.any_eq_true]
  have key : ∀ x, x < 2 ^ m → (tabL l m).getD x false = row l x := fun x hx => by
    unfold tabL
    rw [List.getD_eq_getElem?_getD, List.getElem?_map, List.getElem?_range hx]; rfl
  constructor
  · rintro ⟨x, hx, h⟩
    have hx' := List.mem_range.1 hx
    rw [key x hx', key _ (xor_lt_pow hx' hj)] at h
    exact ⟨x, hx, h⟩
  · rintro ⟨x, hx, h⟩
    have hx' := List.mem_range.1 hx
    refine ⟨x, hx, ?_⟩
    rw [key x hx', key _ (xor_lt_pow hx' hj)]
    exact h
theorem depI_out {l : List Nd} {n bit : Int} (h : inB bit 0 (n - 1) = false) : depI l n bit = false := by
  unfold inB at h; unfold depI
  cases h1 : decide (0 ≤ bit) <;> cases h2 : decide (bit < n) <;> simp_all
  omega
theorem depI_in {l : List Nd} {m j : Nat} (h6 : m ≤ 6) (hv : lvalid l m = true) (hj : j < m) : depI l m j = depS (tabL l m) j := by
  rw [depS_tab hj, ← depN_iff hv h6 hj]
  unfold depI ttOK
  rw [hv]
  simp
  omega
/-- the first k rows do not turn with bit j -/
def still (xs : List Bool) (j k : Nat) : Prop := ∀ x, x < k → xs.getD x false = xs.getD (x ^^^ 2 ^ j) false
theorem depS_yes {xs : List Bool} {j k : Nat} (hk : k < xs.length) (h : xs.getD k false ≠ xs.getD (k ^^^ 2 ^ j) false) : depS xs j = true := by
  unfold depS; rw [List.any_eq_true]; exact ⟨k, List.mem_range.2 hk, by simpa using h⟩
theorem depS_no {xs : List Bool} {j : Nat} (h : still xs j xs.length) : depS xs j = false := by
  unfold depS; rw [List.any_eq_false]; intro x hx; simpa using h x (List.mem_range.1 hx)
set_option maxHeartbeats 2000000 in
theorem sLogicDepends_any (v : Value) (l : List Nd) (n bit : Int) (w : World) (h : NodesR w w.heap.size v l) :
    Calls Tryd.prog 36 #[v, .int .i64 n, .int .i64 bit] w fun e w' => e = .returned (.bool (depI l n bit)) ∧ Below w.heap.size w w' := by
  cases ho : ttOK l n
  · have hE : depI l n bit = false := by unfold depI; simp [ho]
    have hT : tabF l n = [] := by unfold tabF; simp [ho]
    go_enter Tryd.func36, Tryd.ntmps36
    go_wp2_with fail
    refine (sLogicTable_any v l n _ h).mono ?_
    rintro e w1 ⟨u1, rfl, hO1, hb1⟩
    rw [hT] at hO1
    obtain ⟨A, c, rfl, -, -⟩ := own_form hO1
    have HE := Lib.hid hE
    clear hO1 hT h ho hE
    go_wp2_with fail
    refine (l1In_any _ _ _ _).mono ?_
    rintro e w2 ⟨rfl, rfl⟩
    generalize inB bit 0 _ = q
    cases q
    · go_wp2
      go_ret
      exact ⟨ret_bool HE.out.symm, hb1⟩
    · go_wp2
      go_loop [8] (fun i => i = .int .i64 0) (fun _ => 0)
      case atStart => rfl
      case round =>
        subst hrel
        go_wp2
        go_ret
        exact ⟨ret_bool HE.out.symm, hb1⟩
  · obtain ⟨h0, h6, hv⟩ := ttOK_parts ho
    obtain ⟨m, rfl⟩ := Int.eq_ofNat_of_zero_le h0
    have hT : tabF l m = tabL l m := by unfold tabF; rw [if_pos ho]; rfl
    by_cases hin : inB bit 0 ((m : Int) - 1) = true
    · have hb0 : 0 ≤ bit := by unfold inB at hin; simp at hin; exact hin.1
      have hb1' : bit ≤ (m : Int) - 1 := by unfold inB at hin; simp at hin; exact hin.2
      obtain ⟨j, rfl⟩ := Int.eq_ofNat_of_zero_le hb0
      have hj : j < m := by omega
      obtain ⟨xs, hxs⟩ : ∃ xs, xs = tabL l m := ⟨_, rfl⟩
      have hE : depI l m j = depS xs j := by rw [hxs]; exact depI_in (by omega) hv hj
      have hlen : xs.length = 2 ^ m := by rw [hxs, tabL_length]
      have hx6 := pow_le64 (show m ≤ 6 by omega)
      have hxl : ∀ x, x < xs.length → x ^^^ 2 ^ j < xs.length := fun x hx => by rw [hlen] at hx ⊢; exact xor_lt_pow hx hj
      have hl64 : xs.length ≤ 64 := by omega
      have HX := Lib.hid hxs
      have HE := Lib.hid hE
      have HL := Lib.hid hxl
      have HT := Lib.hid hT
      clear hxs hE hlen hxl hT ho hv hx6
      go_enter Tryd.func36, Tryd.ntmps36
      go_wp2_with fail
      refine (sLogicTable_any v l m _ h).mono ?_
      rintro e w1 ⟨u1, rfl, hO1, hb1⟩
      rw [HT.out, ← HX.out] at hO1
      obtain ⟨A, c, rfl, g1, -⟩ := hO1.read (by omega)
      clear hO1 h
      go_wp2_with fail
      refine (l1In_any _ _ _ _).mono ?_
      rintro e w2 ⟨rfl, rfl⟩
      go_wp2
      have h7 : j = 0 ∨ j = 1 ∨ j = 2 ∨ j = 3 ∨ j = 4 ∨ j = 5 := by omega
      clear hin
      go_loopw [8] (fun i wr => ∃ k : Nat, k ≤ xs.length ∧ i = .int .i64 k ∧ still xs j k ∧ Below w1.heap.size w1 wr) (fun i _ => xs.length - (intOf i).toNat)
      case atStart => exact ⟨0, by omega, rfl, fun x hx => absurd hx (by omega), Below.refl _ _⟩
      case round =>
        obtain ⟨k, hk, rfl, hag, hbr⟩ := hrel
        by_cases hlt : k < xs.length
        · have hlt2 := HL.out k hlt
          obtain ⟨p, u, rfl, hpb, hu, hc⟩ := g1.one hlt
          obtain ⟨p', u2, e2, -, hu2, hc2⟩ := g1.one hlt2
          injection e2 with e2
          subst e2
          have hx : u = .bool (xs.getD k false) := by rw [List.getElem?_map, List.getElem?_eq_getElem hlt] at hu; simpa [hlt] using hu.symm
          have hx2 : u2 = .bool (xs.getD (k ^^^ 2 ^ j) false) := by rw [List.getElem?_map, List.getElem?_eq_getElem hlt2] at hu2; simpa [hlt2] using hu2.symm
          subst hx; subst hx2
          have q1 := (hbr.cell (p := p.add k) (by rw [add_block]; exact hpb)).trans hc
          have q2 := (hbr.cell (p := p.add (k ^^^ 2 ^ j)) (by rw [add_block]; exact hpb)).trans hc2
          obtain ⟨x, hx⟩ : ∃ x, x = xs.getD k false := ⟨_, rfl⟩
          obtain ⟨z, hz⟩ : ∃ z, z = xs.getD (k ^^^ 2 ^ j) false := ⟨_, rfl⟩
          obtain ⟨y, hy⟩ : ∃ y, y = k ^^^ 2 ^ j := ⟨_, rfl⟩
          have hxr : Value.int .i64 (bits .xor .i64 (k : Int) (IntKind.i64.wrap ((2 : Int) ^ j))) = Value.int .i64 (y : Int) := by
            have h2 := pow_le64 (show j ≤ 6 by omega)
            have e : ((2 : Int) ^ j) = ((2 ^ j : Nat) : Int) := by rw [Int.natCast_pow]; rfl
            rw [hy, e]
            generalize (2 ^ j : Nat) = c at h2 ⊢
            rw [IntWalk.i64_in _ (by omega), xor64 k c (by omega) (by omega)]
          rw [← hx] at q1
          rw [← hz] at q2
          rw [← hy] at q2 hlt2
          have Hx := Lib.hid hx
          have Hz := Lib.hid hz
          have i1 : (k : Int) < (xs.length : Int) := by omega
          have i2 : (y : Int) < (xs.length : Int) := by omega
          clear hu hu2 hc hc2 g1 hx hz hy
          by_cases hxz : x = z
          · have Hag := Lib.hid (show still xs j (k + 1) from fun r hr => by
              rcases Nat.lt_or_ge r k with h' | h'
              · exact hag r h'
              · obtain rfl : r = k := by omega
                rw [← Hx.out, ← Hz.out]; exact hxz)
            clear hag
            subst hxz
            rcases h7 with rfl | rfl | rfl | rfl | rfl | rfl
            all_goals
              simp only [Int.reducePow] at hxr
              cases x
              all_goals
                go_wp2
                go_quiet (fail)
                go_wp2
                go_roundw
                case rel => first | exact ⟨k + 1, by omega, by go_num, Hag.out, by exact hbr.trans ⟨rfl, rfl, rfl, Nat.le_refl _, fun _ _ => rfl⟩⟩ | ((repeat apply Exists.intro); exact ⟨⟨k + 1, by omega, by go_num, Hag.out, by exact hbr.trans ⟨rfl, rfl, rfl, Nat.le_refl _, fun _ _ => rfl⟩⟩, rfl⟩)
                case measure => simp [intOf]; omega
          · have Hag := Lib.hid (depS_yes hlt (by rw [← Hx.out, ← Hz.out]; exact hxz))
            have H3 := Lib.hid hxz
            clear hag hxz
            rcases h7 with rfl | rfl | rfl | rfl | rfl | rfl
            all_goals
              simp only [Int.reducePow] at hxr
              cases x <;> cases z
              all_goals first
                | exact absurd rfl H3.out
                | (go_wp2
                   go_quiet (fail)
                   go_wp2
                   go_ret
                   exact ⟨ret_bool (by rw [HE.out, Hag.out]), hb1.trans ((hbr.mono hb1.size).trans ⟨rfl, rfl, rfl, Nat.le_refl _, fun _ _ => rfl⟩)⟩)
        · go_wp2
          go_ret
          obtain rfl : k = xs.length := by omega
          exact ⟨ret_bool (by rw [HE.out, depS_no hag]), hb1.trans (hbr.mono hb1.size)⟩
    · have hE := depI_out (l := l) (by simpa using hin)
      have hin' : inB bit 0 ((m : Int) - 1) = false := by simpa using hin
      have HE := Lib.hid hE
      clear hE hin ho hv hT
      go_enter Tryd.func36, Tryd.ntmps36
      go_wp2_with fail
      refine (sLogicTable_any v l m _ h).mono ?_
      rintro e w1 ⟨u1, rfl, hO1, hb1⟩
      obtain ⟨A, c, rfl, -, -⟩ := own_form hO1
      clear hO1 h
      go_wp2_with fail
      refine (l1In_any _ _ _ _).mono ?_
      rintro e w2 ⟨rfl, rfl⟩
      go_wp2
      go_ret
      exact ⟨ret_bool HE.out.symm, hb1⟩
end Go.Proofs.YtbbaojmmjcdliaaDoor
