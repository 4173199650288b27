/- Contracts of the reader that the laws draw their inputs from. Contracts of the drawn words and images. -/
import Derived.Test.YtoagnajljdbobabDoorE
import Derived.IntWalk
namespace Go.Proofs.YtoagnajljdbobabDoor
open Go.RowKit
attribute [local go_sem ↓] Go.wp_at_zero Go.wp_at_succ

/-- Block g is a reader: a list of at most 2000 bytes that lies below g, and a position of at most P. -/
structure RdrIs (w : World) (g P : Nat) (A : Option Addr) (c : Nat) (bs : List Int) (p : Nat) : Prop where
  blk : w.heap[g]? = some (.cells #[.slice A bs.length c, .int .i64 p] 57 (0, 0))
  rd : Rd w g 1 A bs.length (bs.map (.int .u8))
  len : bs.length ≤ 2000
  byte : ∀ b ∈ bs, 0 ≤ b ∧ b ≤ 255
  pos : p ≤ P
def Rdr (w : World) (g P : Nat) : Prop := ∃ A c bs p, RdrIs w g P A c bs p

/-- Below B all is as it was, but for block g. -/
structure Fr (B g : Nat) (w w' : World) : Prop where
  os : w'.os = w.os
  tape : w'.tape = w.tape
  output : w'.output = w.output
  size : w.heap.size ≤ w'.heap.size
  block : ∀ k, k < B → k ≠ g → w'.heap[k]? = w.heap[k]?
section
variable {B C g : Nat} {a b c w w' : World}
theorem Fr.refl (B g : Nat) (w : World) : Fr B g w w := ⟨rfl, rfl, rfl, Nat.le_refl _, fun _ _ _ => rfl⟩
theorem Fr.trans (h : Fr B g a b) (k : Fr B g b c) : Fr B g a c := ⟨k.os.trans h.os, k.tape.trans h.tape, k.output.trans h.output, Nat.le_trans h.size k.size, fun i hi hn => (k.block i hi hn).trans (h.block i hi hn)⟩
theorem Fr.mono (h : Fr B g a b) (hc : C ≤ B) : Fr C g a b := ⟨h.os, h.tape, h.output, h.size, fun k hk hn => h.block k (by omega) hn⟩
theorem Fr.of_below (g : Nat) (h : Below B a b) : Fr B g a b := ⟨h.os, h.tape, h.output, h.size, fun k hk _ => h.block k hk⟩
theorem Fr.below (h : Fr B g a b) (hg : B ≤ g) : Below B a b := ⟨h.os, h.tape, h.output, h.size, fun k hk => h.block k hk (by omega)⟩
theorem Fr.then_ (h : Fr B g a b) (k : Below C b c) (hc : B ≤ C) : Fr B g a c := h.trans (Fr.of_below g (k.mono hc))
theorem Fr.grown (h : Fr B g a b) {row : Option Nat} (k : b.grownBy c row) (hB : B ≤ b.heap.size) (hr : ∀ j, row = some j → B ≤ j ∨ j = g) : Fr B g a c :=
  h.trans ⟨k.os, k.tape, k.output, k.size, fun i hi hn => k.block i (by omega) (fun e => by rcases hr i e.symm with h | h <;> omega)⟩
theorem Fr.alloc (h : Fr B g a w) (hB : B ≤ w.heap.size) (o : Obj) : Fr B g a (w.alloc o) := h.then_ ((Below.refl _ _).alloc (Nat.le_refl _) o) hB
theorem Fr.drew (h : Fr B g a w) : Fr B g a w.drew := ⟨h.os, h.tape, h.output, h.size, h.block⟩
theorem Fr.drewN (h : Fr B g a w) (n : Nat) : Fr B g a (w.drewN n) := ⟨h.os, h.tape, h.output, h.size, h.block⟩
theorem Fr.setCell (h : Fr B g a w) {p : Addr} (hp : B ≤ p.block ∨ p.block = g) (u : Value) : Fr B g a (w.setCell p u) :=
  h.trans ⟨rfl, rfl, rfl, by simp [World.setCell], fun k hk hn => Below.heap_setCell _ _ _ _ (by omega)⟩
/-- what another block holds -/
theorem Fr.kept (h : Fr B g w w') (n : Nat) (hn : n < B) (hg : n ≠ g) (hl : n < w.heap.size) :
    (∀ o, w'.cell? ⟨n, o, none⟩ = w.cell? ⟨n, o, none⟩) ∧ (∀ o, w'.frozen? ⟨n, o, none⟩ = w.frozen? ⟨n, o, none⟩) ∧ n < w'.heap.size :=
  ⟨fun _ => World.cell?_of_block (w := w) (h.block n hn hg), fun _ => World.frozen?_of_block (w := w) (h.block n hn hg), Nat.lt_of_lt_of_le hl h.size⟩
/-- what is owned apart from block g is owned still -/
theorem Fr.own {e s n base : Nat} {v : Value} {xs : List Value} (hf : Fr w.heap.size g w w') (h : w.ownsRow base e s v n xs) (hg : g < base) : w'.ownsRow base e s v n xs :=
  h.kept (row := some g) ⟨hf.os, hf.tape, hf.output, hf.size, fun k hk hne => hf.block k hk (fun e => hne (by rw [e]))⟩ (by
    cases hv : v.ownBlock with
    | none => exact .inl rfl
    | some k => right; intro e; have := (h.lt k hv).1; simp at e; omega)
end
theorem Rdr.mono {w : World} {g P Q : Nat} (h : Rdr w g P) (hq : P ≤ Q) : Rdr w g Q := by
  obtain ⟨A, c, bs, p, h⟩ := h
  exact ⟨A, c, bs, p, h.blk, h.rd, h.len, h.byte, Nat.le_trans h.pos hq⟩
theorem Rdr.lt {w : World} {g P : Nat} (h : Rdr w g P) : g < w.heap.size := by
  obtain ⟨A, c, bs, p, h⟩ := h
  rcases Nat.lt_or_ge g w.heap.size with h' | h'
  · exact h'
  · have := h.blk; rw [Array.getElem?_eq_none h'] at this; cases this
theorem Rdr.below {w w' : World} {g P : Nat} (h : Rdr w g P) (hb : Below w.heap.size w w') : Rdr w' g P := by
  have hl := h.lt
  obtain ⟨A, c, bs, p, h⟩ := h
  exact ⟨A, c, bs, p, (hb.block g hl).trans h.blk, h.rd.keep (fun _ hp => hb.cell (by omega)) (Nat.le_refl _), h.len, h.byte, h.pos⟩
/-- A reader stays a reader where its own block and all below it stay. -/
theorem Rdr.keep {w w' : World} {g P : Nat} (h : Rdr w g P) (hb : Below (g + 1) w w') : Rdr w' g P := by
  obtain ⟨A, c, bs, p, h⟩ := h
  exact ⟨A, c, bs, p, (hb.block g (by omega)).trans h.blk, h.rd.keep (fun _ hp => hb.cell (by omega)) (Nat.le_refl _), h.len, h.byte, h.pos⟩
theorem byte_at {bs : List Int} {k : Nat} (h : k < bs.length) {u : Value} (hu : (bs.map (Value.int .u8))[k]? = some u) : u = .int .u8 bs[k] := by
  rw [List.getElem?_map, List.getElem?_eq_getElem h] at hu; simpa using hu.symm

theorem xor_nonneg (a b : Int) (ha : 0 ≤ a) (ha' : a < 9223372036854775808) (hb : 0 ≤ b) (hb' : b < 9223372036854775808) : 0 ≤ bits .xor .i64 a b := by
  obtain ⟨x, rfl⟩ := Int.eq_ofNat_of_zero_le ha
  obtain ⟨y, rfl⟩ := Int.eq_ofNat_of_zero_le hb
  have h : x ^^^ y < 2 ^ 63 := Nat.xor_lt_two_pow (by omega) (by omega)
  have hx : (BitVec.ofInt 64 (x : Int)).toNat = x := by rw [BitVec.ofInt_natCast, BitVec.toNat_ofNat]; exact Nat.mod_eq_of_lt (by omega)
  have hy : (BitVec.ofInt 64 (y : Int)).toNat = y := by rw [BitVec.ofInt_natCast, BitVec.toNat_ofNat]; exact Nat.mod_eq_of_lt (by omega)
  show 0 ≤ IntKind.i64.wrap (((BitVec.ofInt 64 (x : Int)) ^^^ (BitVec.ofInt 64 (y : Int))).toNat : Int)
  rw [BitVec.toNat_xor, hx, hy, IntKind.wrap_i64]
  omega
set_option maxHeartbeats 1000000 in
theorem pick_any (g P : Nat) (n : Int) (w : World) (hw : Rdr w g P) (hP : P ≤ 1000000) (hn : n ≤ 1000000) :
    Calls Tryd.prog 27 #[.pointer (some ⟨g, 0, none⟩), .int .i64 n] w fun e w' => ∃ r : Int, e = .returned (.int .i64 r) ∧ (0 ≤ r ∧ (r < n ∨ r = 0)) ∧ Rdr w' g (P + 1) ∧ Fr w.heap.size g w w' := by
  obtain ⟨A, c, bs, p, h⟩ := hw
  have hc0 : w.cell? ⟨g, 0, none⟩ = some (.slice A bs.length c) := by rw [cell_of_row w g 0 _ _ _ h.blk]; rfl
  have hc1 : w.cell? ⟨g, 1, none⟩ = some (.int .i64 p) := by rw [cell_of_row w g 1 _ _ _ h.blk]; rfl
  have hz : w.frozen? ⟨g, 1, none⟩ = false := frozen_of_row w g 1 _ _ h.blk
  have hpos := h.pos
  have hlen := h.len
  have h0 : (0 : Int) ≤ (p : Int) := by omega
  have hblk : (w.setCell ⟨g, 1, none⟩ (.int .i64 ((p : Int) + 1))).heap[g]? = some (.cells #[.slice A bs.length c, .int .i64 ((p + 1 : Nat) : Int)] 57 (0, 0)) :=
    heap_setCell_same w g 1 _ _ _ h.blk
  have hR : Rdr (w.setCell ⟨g, 1, none⟩ (.int .i64 ((p : Int) + 1))) g (P + 1) :=
    ⟨A, c, bs, p + 1, hblk, h.rd.keep (fun q hq => World.cell?_setCell_other w _ _ _ (fun e => by subst e; simp at hq)) (Nat.le_refl _), h.len, h.byte, by omega⟩
  have hG : Fr w.heap.size g w (w.setCell ⟨g, 1, none⟩ (.int .i64 ((p : Int) + 1))) := (Fr.refl _ g _).setCell (p := ⟨g, 1, none⟩) (.inr rfl) _
  have HR := Lib.hid hR
  have HG := Lib.hid hG
  clear hR hG hblk
  by_cases h1 : n < 1
  · go_enter Tryd.func27, Tryd.ntmps27
    go_wp2
    go_ret
    exact ⟨0, rfl, ⟨by omega, .inr rfl⟩, HR.out, HG.out⟩
  by_cases h2 : bs.length = 0
  · have hq : ((bs.length : Int) == 0) = true := by simp [h2]
    have H2 := Lib.hid h2
    clear h2
    go_enter Tryd.func27, Tryd.ntmps27
    go_wp2
    go_ret
    exact ⟨0, rfl, ⟨by omega, .inr rfl⟩, HR.out, HG.out⟩
  have hq : ((bs.length : Int) == 0) = false := by rw [beq_eq_false_iff_ne]; omega
  by_cases h3 : p < bs.length
  · obtain ⟨q, u, rfl, hqb, hu, hc⟩ := h.rd.one h3
    obtain rfl := byte_at h3 hu
    have hb := h.byte bs[p] (List.getElem_mem h3)
    have g1 : (w.setCell ⟨g, 1, none⟩ (.int .i64 ((p : Int) + 1))).cell? (q.add p) = some (.int .u8 bs[p]) := (World.cell?_setCell_other w _ _ _ (fun e => by have := congrArg Addr.block e; rw [add_block] at this; simp at this; omega)).trans hc
    have i1 : (p : Int) < (bs.length : Int) := by omega
    clear hu hc h2
    go_enter Tryd.func27, Tryd.ntmps27
    go_wp2
    go_ret
    exact ⟨_, rfl, ⟨Int.emod_nonneg _ (by omega), .inl (Int.emod_lt_of_pos _ (by omega))⟩, HR.out, HG.out⟩
  · have hpos' : 0 < bs.length := by omega
    obtain ⟨q, rfl, hqb, hcell⟩ := h.rd.at_ hpos'
    have one : ∀ j, j < bs.length → ∃ x : Int, 0 ≤ x ∧ x ≤ 255 ∧ (w.setCell ⟨g, 1, none⟩ (.int .i64 ((p : Int) + 1))).cell? (q.add j) = some (.int .u8 x) := by
      intro j hj
      have hb := h.byte bs[j] (List.getElem_mem hj)
      refine ⟨bs[j], hb.1, hb.2, ?_⟩
      refine (World.cell?_setCell_other w _ _ _ (fun e => by have := congrArg Addr.block e; rw [add_block] at this; simp at this; omega)).trans ?_
      exact hcell j _ (by rw [List.getElem?_map, List.getElem?_eq_getElem hj]; rfl)
    obtain ⟨j1, hj1⟩ : ∃ j, j = p % bs.length := ⟨_, rfl⟩
    obtain ⟨j2, hj2⟩ : ∃ j, j = (p * 7 + 3) % bs.length := ⟨_, rfl⟩
    have l1 : j1 < bs.length := by rw [hj1]; exact Nat.mod_lt _ hpos'
    have l2 : j2 < bs.length := by rw [hj2]; exact Nat.mod_lt _ hpos'
    obtain ⟨x1, a1, a2, g1⟩ := one j1 l1
    obtain ⟨x2, a3, a4, g2⟩ := one j2 l2
    have e1 : ((p : Int).tmod (bs.length : Int)) = (j1 : Int) := by rw [hj1]; exact IntWalk.up_tmod rfl rfl
    have e2 : (((p : Int) * 7 + 3).tmod (bs.length : Int)) = (j2 : Int) := by rw [hj2]; exact IntWalk.up_tmod (by omega) rfl
    obtain ⟨d, hd0⟩ : ∃ d : Int, d = (p : Int) / (bs.length : Int) := ⟨_, rfl⟩
    have hd := IntWalk.tdiv_le (p : Int) (bs.length : Int) h0 (by omega)
    rw [← hd0] at hd
    have e3 : ((p : Int).tdiv (bs.length : Int)) = d := by rw [hd0, Int.tdiv_eq_ediv_of_nonneg h0]
    have e4 : ((p : Int) / (bs.length : Int)) = d := hd0.symm
    clear hcell one hj1 hj2 hd0 h2
    have i1 : (j1 : Int) < (bs.length : Int) := by omega
    have i2 : (j2 : Int) < (bs.length : Int) := by omega
    have wd : IntKind.i64.wrap d = d := IntWalk.i64_in _ (by omega)
    have w0 : IntKind.i64.wrap x1 = x1 := IntWalk.i64_in _ (by omega)
    have w0' : IntKind.i64.wrap x2 = x2 := IntWalk.i64_in _ (by omega)
    have w1 : IntKind.i64.wrap ((p : Int) * 7) = (p : Int) * 7 := IntWalk.i64_in _ (by omega)
    have w2 : IntKind.i64.wrap ((p : Int) * 7 + 3) = (p : Int) * 7 + 3 := IntWalk.i64_in _ (by omega)
    have w3 : IntKind.i64.wrap (x1 * 131) = x1 * 131 := IntWalk.i64_in _ (by omega)
    have w4 : IntKind.i64.wrap (x2 * 1117) = x2 * 1117 := IntWalk.i64_in _ (by omega)
    have w5 : IntKind.i64.wrap (x1 * 131 + x2 * 1117) = x1 * 131 + x2 * 1117 := IntWalk.i64_in _ (by omega)
    have w6 : IntKind.i64.wrap ((p : Int) * 29) = (p : Int) * 29 := IntWalk.i64_in _ (by omega)
    have w7 : IntKind.i64.wrap (x1 * 131 + x2 * 1117 + (p : Int) * 29) = x1 * 131 + x2 * 1117 + (p : Int) * 29 := IntWalk.i64_in _ (by omega)
    have w8 : IntKind.i64.wrap (d * 53) = d * 53 := IntWalk.i64_in _ (by omega)
    have w9 : IntKind.i64.wrap (x1 * 131 + x2 * 1117 + (p : Int) * 29 + d * 53) = x1 * 131 + x2 * 1117 + (p : Int) * 29 + d * 53 := IntWalk.i64_in _ (by omega)
    go_enter Tryd.func27, Tryd.ntmps27
    go_wp2
    go_quiet (fail)
    clear e1 e2 e3 e4 wd w0 w0' w1 w2 w3 w4 w5 w6 w7 w8 w9 g1 g2
    obtain ⟨X, hX⟩ : ∃ X, X = x1 * 131 + x2 * 1117 + (p : Int) * 29 + d * 53 := ⟨_, rfl⟩
    rw [← hX]
    have hX0 : 0 ≤ X := by omega
    have hX1 : X ≤ 1000000000000 := by omega
    clear hX
    go_wp2
    go_ret
    have hz0 := xor_nonneg X (X / 64) hX0 (by omega) (by omega) (by omega)
    refine ⟨_, rfl, ?_, HR.out.keep ⟨rfl, rfl, rfl, Nat.le_refl _, fun _ _ => rfl⟩, ?_⟩
    · show 0 ≤ Int.tmod (bits .xor .i64 X (X / 64)) n ∧ _
      rw [Int.tmod_eq_emod_of_nonneg hz0]
      exact ⟨Int.emod_nonneg _ (by omega), .inl (Int.emod_lt_of_pos _ (by omega))⟩
    · exact ⟨HG.out.os, HG.out.tape, HG.out.output, HG.out.size, HG.out.block⟩

/-- A list of bytes that came in. -/
def BytesR (w : World) (B : Nat) (v : Value) (l : List Int) : Prop := ∃ A c, v = .slice A l.length c ∧ l.length ≤ c ∧ Rd w B 1 A l.length (l.map (.int .u8)) ∧ l.length ≤ 140737488355328 ∧ c ≤ 9223372036854775807 ∧ ∀ b ∈ l, 0 ≤ b ∧ b ≤ 255
/-- A list of bytes as it comes in: nil; or a row of c cells, the first n of which are its elements. -/
def BytesIn (w : World) (a : Option Addr) (n c : Nat) (zs : List Int) : Prop :=
  (a = none ∧ n = 0 ∧ c = 0 ∧ zs = []) ∨
  ∃ x, a = some x ∧ n ≤ c ∧ c ≤ maxLen ∧ zs.length = c ∧ (∀ i, i < zs.length → w.cell? (x.add i) = some (.int .u8 (zs.getD i 0))) ∧ ∀ z ∈ zs, (Lit.int .u8 z).wf = true
theorem BytesIn.small {w : World} {a : Option Addr} {n c : Nat} {zs : List Int} (h : BytesIn w a n c zs) : n ≤ 9223372036854775807 := by
  rcases h with ⟨_, rfl, _⟩ | ⟨x, _, h1, h2, _⟩
  · omega
  · unfold maxLen at h2; omega
theorem BytesIn.len_take {w : World} {a : Option Addr} {n c : Nat} {zs : List Int} (h : BytesIn w a n c zs) : (zs.take n).length = n := by
  rcases h with ⟨_, rfl, _, rfl⟩ | ⟨x, _, h1, h2, h3, _⟩
  · rfl
  · simp; omega
theorem BytesIn.bytes {w : World} {a : Option Addr} {n c : Nat} {zs : List Int} (h : BytesIn w a n c zs) (hn : n ≤ 1048576) : BytesR w w.heap.size (.slice a n c) (zs.take n) := by
  have ht := h.len_take
  rcases h with ⟨rfl, rfl, rfl, rfl⟩ | ⟨x, rfl, h1, h2, h3, h4, h5⟩
  · exact ⟨none, 0, rfl, Nat.le_refl _, Rd.none_, by simp, by omega, by simp⟩
  · refine ⟨some x, c, by rw [ht], by omega, ?_, by omega, by unfold maxLen at h2; omega, fun b hb => ?_⟩
    · rw [ht]
      refine ⟨by simp; omega, fun h0 => ⟨x, rfl, ?_, fun j u hu => ?_⟩⟩
      · have := World.block_lt_of_cell? w _ (h4 0 (by omega))
        simpa [Addr.add] using this
      · rw [List.getElem?_map] at hu
        obtain ⟨z, hz, rfl⟩ := Option.map_eq_some_iff.1 hu
        rw [List.getElem?_take] at hz
        split at hz
        · have hj : j < zs.length := (List.getElem?_eq_some_iff.1 hz).1
          rw [h4 j hj]
          simp [List.getD, hz]
        · cases hz
    · have := h5 b (List.mem_of_mem_take hb)
      simp [Lit.wf, IntKind.min, IntKind.max, IntKind.signed, IntKind.bits] at this
      omega
set_option maxHeartbeats 400000 in
theorem l20Open_any (v : Value) (l : List Int) (w : World) (h : BytesR w w.heap.size v l) :
    Calls Tryd.prog 12 #[v] w fun e w' => e = .returned (.pointer (some ⟨w.heap.size, 0, none⟩)) ∧ Rdr w' w.heap.size 0 ∧ Below w.heap.size w w' := by
  obtain ⟨A, c, rfl, hlc, hr, hl, hc, hb⟩ := h
  by_cases h2 : 2000 < l.length
  · obtain ⟨q, rfl, hqb, hcell⟩ := hr.at_ (by omega)
    have Hr := Lib.hid hr
    clear hr hcell
    go_enter Tryd.func12, Tryd.ntmps12
    go_wp2
    go_ret
    have ht : (l.take 2000).length = 2000 := by simp; omega
    refine ⟨rfl, ⟨some q, c, l.take 2000, 0, ?_, ?_, by omega, fun b hx => hb b (List.mem_of_mem_take hx), Nat.le_refl _⟩, (Below.refl _ _).alloc (Nat.le_refl _) _⟩
    · rw [ht]; exact heap_alloc_new w _
    · rw [ht]
      refine ⟨by simp; omega, fun _ => ?_⟩
      obtain ⟨q', e, hqb', hcell⟩ := Hr.out.at_ (by omega)
      injection e with e; subst e
      refine ⟨_, rfl, hqb', fun j u hu => ?_⟩
      rw [World.cell?_alloc_lt w _ _ (by rw [add_block]; exact hqb')]
      refine hcell j u ?_
      rw [List.map_take, List.getElem?_take] at hu
      split at hu
      · exact hu
      · cases hu
  · go_enter Tryd.func12, Tryd.ntmps12
    go_wp2
    go_ret
    refine ⟨rfl, ⟨A, c, l, 0, ?_, ?_, by omega, hb, Nat.le_refl _⟩, (Below.refl _ _).alloc (Nat.le_refl _) _⟩
    · exact heap_alloc_new w _
    · exact hr.alloc (Nat.le_refl _) _
def OddPost (n : Int) (g P : Nat) (w : World) (e : Ending) (w' : World) : Prop := ∃ b : Bool, e = .returned (.bool b) ∧ (b = true → 0 < n) ∧ Rdr w' g (P + 1) ∧ Fr w.heap.size g w w'
set_option maxHeartbeats 400000 in
theorem odd_any (g P : Nat) (n : Int) (w : World) (hw : Rdr w g P) (hP : P ≤ 1000000) (hn : n ≤ 1000000) (hn0 : -1000000 ≤ n) :
    Calls Tryd.prog 29 #[.pointer (some ⟨g, 0, none⟩), .int .i64 n] w (OddPost n g P w) := by
  by_cases h : 0 < n
  · go_enter Tryd.func29, Tryd.ntmps29
    go_wp2_with fail
    refine (pick_any g P n _ hw hP hn).mono ?_
    rintro e w1 ⟨r, rfl, hr, hR, hF⟩
    go_wp2
    go_ret
    exact ⟨_, rfl, fun _ => h, hR, hF⟩
  · go_enter Tryd.func29, Tryd.ntmps29
    go_wp2
    go_ret
    exact ⟨_, rfl, (fun e => by cases e), hw.mono (by omega), Fr.refl _ _ _⟩
set_option maxHeartbeats 1000000 in
theorem flags_any (g P : Nat) (n : Int) (w : World) (hw : Rdr w g P) (hP : P + 2 * n.toNat + 1 ≤ 1000000) (hn : n ≤ 1000) (hn0 : 0 ≤ n) :
    Calls Tryd.prog 26 #[.pointer (some ⟨g, 0, none⟩), .int .i64 n] w fun e w' => ∃ v l, e = .returned v ∧ OwnB w' w.heap.size v l ∧ l.length = n.toNat ∧ Rdr w' g (P + 2 * n.toNat + 1) ∧ Fr w.heap.size g w w' := by
  obtain ⟨m, rfl⟩ := Int.eq_ofNat_of_zero_le hn0
  have hgl := hw.lt
  rw [Int.toNat_natCast] at *
  go_enter Tryd.func26, Tryd.ntmps26
  go_wp2_with fail
  refine (pick_any g P 6 _ (hw.below ((Below.refl _ _).alloc (Nat.le_refl _) _)) (by omega) (by omega)).mono ?_
  rintro e w1 ⟨r, rfl, hr, hR, hF⟩
  have hF1 : Fr w.heap.size g w w1 := ((Fr.refl _ _ _).alloc (Nat.le_refl _) _).trans (hF.mono (by simp))
  have hO1 : w1.ownsRow w.heap.size 4 1 (.slice (some ⟨w.heap.size, 0, none⟩) 0 0) 0 [] := hF.own (own_lit0 rfl (Nat.le_refl _)) hgl
  have hs1 := hF1.size
  clear hF hw
  go_wp2_with fail
  go_loopw [5, 7, 8] (fun v nw i wr => ∃ (k : Nat) (l : List Bool) (b : Bool), k ≤ m ∧ i = .int .i64 k ∧ nw = .bool b ∧ l.length = k ∧ OwnB wr w.heap.size v l ∧ Rdr wr g (P + 1 + 2 * k) ∧ Fr w.heap.size g w wr) (fun _ _ i _ => m - (intOf i).toNat)
  case atStart => exact ⟨0, [], false, by omega, rfl, rfl, rfl, hO1, hR, hF1⟩
  case round =>
    obtain ⟨k, l, b, hk, rfl, rfl, hl, hO, hRr, hFr⟩ := hrel
    have Hl := Lib.hid hl
    clear hl hO1 hR hF1
    have hsz := hFr.size
    by_cases hlt : k < m
    · go_wp2_with fail
      refine (pick_any g (P + 1 + 2 * k) (1 + r) _ hRr (by omega) (by omega)).mono ?_
      rintro e w2 ⟨r2, rfl, hr2, hR2, hF2⟩
      have hs2 := hF2.size
      have hO2 := hF2.own hO hgl
      have hFr2 := hFr.trans (hF2.mono hsz)
      clear hFr hF2 hRr hO
      cases hq : (r2 == 0)
      · go_wp2_with (at_builtin; refine wpl_append rfl _ _ 23 rfl elB rfl (World.ownsRow.alloc hO2 _) rfl (Rd.new1 _ _ _) ?c1 ?c2 ?c3 ?c4 ?_)
        case c1 => simp; rfl
        case c2 => have := Hl.out; omega
        case c3 => have := Hl.out; omega
        case c4 => simp; omega
        intro v' w3 hO3 hg3 _
        have R : OwnB w3 w.heap.size v' (l ++ [b]) := by unfold OwnB; simpa using hO3
        have hF3 : Fr w.heap.size g w w3 := (hFr2.alloc (by omega) _).grown hg3 (by simp; omega) (fun j hj => .inl (hO2.lt j hj).1)
        have hR3 : Rdr w3 g (P + 1 + 2 * (k + 1)) := ((hR2.below ((Below.refl _ _).alloc (Nat.le_refl _) _)).keep ((Below.refl (g + 1) _).grown hg3 (by simp; omega) (fun j hj => by have := (hO2.lt j hj).1; omega))).mono (by omega)
        clear hO3 hg3 hO2 hFr2 hR2
        go_wp2
        go_roundw
        case rel => exact ⟨k + 1, l ++ [b], b, by omega, by go_num, rfl, by simp [Hl.out], R, hR3, hF3⟩
        case measure => simp [intOf]; omega
      · go_wp2_with fail
        refine (pick_any g (P + 1 + 2 * k + 1) 2 _ hR2 (by omega) (by omega)).mono ?_
        rintro e w4 ⟨r4, rfl, hr4, hR4, hF4⟩
        have hs4 := hF4.size
        have hO4 := hF4.own hO2 hgl
        have hFr4 := hFr2.trans (hF4.mono (by omega))
        clear hFr2 hF4 hR2 hO2
        go_wp2_with (at_builtin; refine wpl_append rfl _ _ 23 rfl elB rfl (World.ownsRow.alloc hO4 _) rfl (Rd.new1 _ _ _) ?d1 ?d2 ?d3 ?d4 ?_)
        case d1 => simp; rfl
        case d2 => have := Hl.out; omega
        case d3 => have := Hl.out; omega
        case d4 => simp; omega
        intro v' w3 hO3 hg3 _
        have R : OwnB w3 w.heap.size v' (l ++ [r4 == 0]) := by unfold OwnB; simpa using hO3
        have hF3 : Fr w.heap.size g w w3 := (hFr4.alloc (by omega) _).grown hg3 (by simp; omega) (fun j hj => .inl (hO4.lt j hj).1)
        have hR3 : Rdr w3 g (P + 1 + 2 * (k + 1)) := ((hR4.below ((Below.refl _ _).alloc (Nat.le_refl _) _)).keep ((Below.refl (g + 1) _).grown hg3 (by simp; omega) (fun j hj => by have := (hO4.lt j hj).1; omega))).mono (by omega)
        clear hO3 hg3 hO4 hFr4 hR4
        go_wp2
        go_roundw
        case rel => exact ⟨k + 1, l ++ [r4 == 0], (r4 == 0), by omega, by go_num, rfl, by simp [Hl.out], R, hR3, hF3⟩
        case measure => simp [intOf]; omega
    · go_wp2
      go_ret
      obtain rfl : k = m := by omega
      exact ⟨_, l, rfl, hO, Hl.out, hRr.mono (by omega), hFr⟩
end Go.Proofs.YtoagnajljdbobabDoor

namespace Go.Proofs.YtoagnajljdbobabDoor
open Go.RowKit
attribute [local go_sem ↓] Go.wp_at_zero Go.wp_at_succ

def WordPost (g P : Nat) (w : World) (e : Ending) (w' : World) : Prop := ∃ x : Int, e = .returned (.int .i64 x) ∧ -40000 ≤ x ∧ x ≤ 40000 ∧ Rdr w' g (P + 7) ∧ Fr w.heap.size g w w'
set_option maxHeartbeats 1000000 in
theorem word_any (g P : Nat) (n : Int) (w : World) (hw : Rdr w g P) (hP : P + 7 ≤ 1000000) (hn : n ≤ 1000000) (hn0 : -1000000 ≤ n) :
    Calls Tryd.prog 28 #[.pointer (some ⟨g, 0, none⟩), .int .i64 n] w (WordPost g P w) := by
  have hgl := hw.lt
  go_enter Tryd.func28, Tryd.ntmps28
  go_wp2_with fail
  refine (odd_any g P n _ hw (by omega) hn hn0).mono ?_
  rintro e w1 ⟨b, rfl, hb, hR1, hF1⟩
  have hs1 := hF1.size
  clear hw hb
  cases b
  · go_wp2_with fail
    refine (pick_any g (P + 1) 21 _ hR1 (by omega) (by omega)).mono ?_
    rintro e w2 ⟨r2, rfl, hr2, hR2, hF2⟩
    replace hF2 := hF1.trans (hF2.mono hs1)
    clear hR1 hF1
    go_wp2_with fail
    refine (pick_any g _ 256 _ hR2 (by omega) (by omega)).mono ?_
    rintro e w3 ⟨r3, rfl, hr3, hR3, hF3⟩
    replace hF3 := hF2.trans (hF3.mono hF2.size)
    clear hR2 hF2
    go_wp2_with fail
    refine (pick_any g _ 256 _ hR3 (by omega) (by omega)).mono ?_
    rintro e w4 ⟨r4, rfl, hr4, hR4, hF4⟩
    replace hF4 := hF3.trans (hF4.mono hF3.size)
    clear hR3 hF3
    go_wp2_with fail
    refine (pick_any g _ 400 _ hR4 (by omega) (by omega)).mono ?_
    rintro e w5 ⟨r5, rfl, hr5, hR5, hF5⟩
    replace hF5 := hF4.trans (hF5.mono hF4.size)
    clear hR4 hF4
    have hs5 := hF5.size
    go_wp2_with fail
    have hg5 := hR5.lt
    refine (pick_any g _ 7 _ (hR5.below (((Below.refl _ _).alloc (Nat.le_refl _) _).alloc (by simp) _)) (by omega) (by omega)).mono ?_
    rintro e w6 ⟨r6, rfl, hr6, hR6, hF6⟩
    obtain ⟨k0, k1, k2⟩ := hF6.kept w5.heap.size (by simp; omega) (by omega) (by simp; omega)
    obtain ⟨k3, k4, k5⟩ := hF6.kept (w5.heap.size + 1) (by simp) (by omega) (by simp)
    have hF7 : Fr w.heap.size g w w6 := ((hF5.alloc (by omega) _).alloc (by simp; omega) _).trans (hF6.mono (by simp; omega))
    clear hF6 hR5 hF5
    have h7 : r6 = 0 ∨ r6 = 1 ∨ r6 = 2 ∨ r6 = 3 ∨ r6 = 4 ∨ r6 = 5 ∨ r6 = 6 := by omega
    rcases h7 with rfl | rfl | rfl | rfl | rfl | rfl | rfl
    all_goals
      go_wp2
      go_ret
      exact ⟨_, rfl, by omega, by omega, hR6.mono (by omega), hF7⟩
  · go_wp2_with fail
    refine (pick_any g (P + 1) 2 _ (hR1.below ((Below.refl _ _).alloc (Nat.le_refl _) _)) (by omega) (by omega)).mono ?_
    rintro e w2 ⟨r2, rfl, hr2, hR2, hF2⟩
    have hg1 := hR1.lt
    obtain ⟨k0, k1, k2⟩ := hF2.kept w1.heap.size (by simp) (by omega) (by simp)
    have hF3 : Fr w.heap.size g w w2 := (hF1.alloc (by omega) _).trans (hF2.mono (by simp; omega))
    clear hF2 hR1 hF1
    have h2 : r2 = 0 ∨ r2 = 1 := by omega
    rcases h2 with rfl | rfl
    all_goals
      go_wp2
      go_ret
      exact ⟨_, rfl, by omega, by omega, hR2.mono (by omega), hF3⟩
end Go.Proofs.YtoagnajljdbobabDoor
