/- The law of latches in ladders: its walk. -/
import Derived.Test.YtoagnajljdbobaaRI
import Derived.Test.YtoagnajljdbobaaLW
namespace Go.Proofs.Ytoagnajljdbobaa
open Go.RowKit
attribute [local go_sem ↓] Go.wp_at_zero Go.wp_at_succ

theorem at_zero0 (g i : Nat) : (⟨g, 0, none⟩ : Addr).add i = ⟨g, i, none⟩ := by unfold Addr.add; split <;> simp_all
theorem Rd.of_blk {w : World} {k t : Nat} {cs : Array Value} (h : w.heap[k]? = some (.cells cs t (0, 0))) {n sz : Nat} (hn : cs.size = n * sz) : Rd w w.heap.size sz (some ⟨k, 0, none⟩) n cs.toList := by
  refine ⟨by simpa using hn, fun _ => ⟨_, rfl, blk_lt h, fun j u hu => ?_⟩⟩
  rw [at_zero0, blk_cell h j]
  simpa using hu
/-- What the law lays: an image of three bits; a rung that sets, a rung that resets. -/
structure LatchB (W : World) (n : Nat) (s a b : Bool) : Prop where
  b0 : W.heap[n]? = some (.cells #[.bool a, .bool b, .bool s] 4 (0, 0))
  b1 : W.heap[n + 1]? = some (.cells #[.slice (some ⟨n, 0, none⟩) 3 3, .slice none 0 0] 26 (0, 0))
  b2 : W.heap[n + 1 + 1]? = some (.cells #[.int .i64 1, .int .i64 0] 92 (0, 0))
  b3 : W.heap[n + 1 + 1 + 1]? = some (.cells #[.slice (some ⟨n + 1 + 1, 0, none⟩) 1 1, .int .i64 2, .int .i64 2] 58 (0, 0))
  b4 : W.heap[n + 1 + 1 + 1 + 1]? = some (.cells #[.int .i64 1, .int .i64 1] 92 (0, 0))
  b5 : W.heap[n + 1 + 1 + 1 + 1 + 1]? = some (.cells #[.slice (some ⟨n + 1 + 1 + 1 + 1, 0, none⟩) 1 1, .int .i64 2, .int .i64 3] 58 (0, 0))
theorem LatchB.below {W W' : World} {n : Nat} {s a b : Bool} (h : LatchB W n s a b) (hb : Below W.heap.size W W') : LatchB W' n s a b :=
  ⟨(hb.block _ (blk_lt h.b0)).trans h.b0, (hb.block _ (blk_lt h.b1)).trans h.b1, (hb.block _ (blk_lt h.b2)).trans h.b2, (hb.block _ (blk_lt h.b3)).trans h.b3, (hb.block _ (blk_lt h.b4)).trans h.b4, (hb.block _ (blk_lt h.b5)).trans h.b5⟩
def latchW (w : World) (s a b : Bool) : World := ((((((w.alloc (.cells #[.bool a, .bool b, .bool s] 4)).alloc (.cells #[.slice (some ⟨w.heap.size, 0, none⟩) 3 3, .slice none 0 0] 26)).alloc (.cells #[.int .i64 1, .int .i64 0] 92)).alloc (.cells #[.slice (some ⟨w.heap.size + 1 + 1, 0, none⟩) 1 1, .int .i64 2, .int .i64 2] 58)).alloc (.cells #[.int .i64 1, .int .i64 1] 92)).alloc (.cells #[.slice (some ⟨w.heap.size + 1 + 1 + 1 + 1, 0, none⟩) 1 1, .int .i64 2, .int .i64 3] 58))
theorem latchW_blocks (w : World) (s a b : Bool) : LatchB (latchW w s a b) w.heap.size s a b := by
  unfold latchW
  have nw : ∀ (W : World) (o : Obj) (k : Nat), W.heap.size = k → (W.alloc o).heap[k]? = some o := fun W o k h => by subst h; exact heap_alloc_new W o
  refine ⟨?_, ?_, ?_, ?_, ?_, ?_⟩
  · exact blk_alloc (blk_alloc (blk_alloc (blk_alloc (blk_alloc (nw _ _ _ rfl) _) _) _) _) _
  · exact blk_alloc (blk_alloc (blk_alloc (blk_alloc (nw _ _ _ (by simp)) _) _) _) _
  · exact blk_alloc (blk_alloc (blk_alloc (nw _ _ _ (by simp)) _) _) _
  · exact blk_alloc (blk_alloc (nw _ _ _ (by simp)) _) _
  · exact blk_alloc (nw _ _ _ (by simp)) _
  · exact nw _ _ _ (by simp)
theorem latchW_size (w : World) (s a b : Bool) : (latchW w s a b).heap.size = w.heap.size + 1 + 1 + 1 + 1 + 1 + 1 := by unfold latchW; simp
theorem latchW_below (w : World) (s a b : Bool) : Below w.heap.size w (latchW w s a b) := by
  unfold latchW
  have al : ∀ (W : World) (o : Obj), Below w.heap.size w W → Below w.heap.size w (W.alloc o) := fun W o h => h.alloc h.size o
  exact al _ _ (al _ _ (al _ _ (al _ _ (al _ _ (al _ _ (Below.refl _ _))))))
/-- An image's box, and what it holds. -/
structure LatchX (W : World) (k : Nat) (X1 : Option Addr) (d1 : Nat) (X2 : Option Addr) (d2 : Nat) (M : Img) : Prop where
  blk : W.heap[k]? = some (.cells #[.slice X1 M.bits.length d1, .slice X2 M.words.length d2] 26 (0, 0))
  img : ImgR W W.heap.size (.agg #[.slice X1 M.bits.length d1, .slice X2 M.words.length d2]) M
theorem LatchX.below {W W' : World} {k : Nat} {X1 : Option Addr} {d1 : Nat} {X2 : Option Addr} {d2 : Nat} {M : Img} (h : LatchX W k X1 d1 X2 d2 M) (hb : Below W.heap.size W W') : LatchX W' k X1 d1 X2 d2 M :=
  ⟨(hb.block _ (blk_lt h.blk)).trans h.blk, h.img.below hb⟩
theorem LatchX.new {W : World} {b : Nat} {X1 : Option Addr} {d1 : Nat} {X2 : Option Addr} {d2 : Nat} {M : Img} (h : OwnM W b (.agg #[.slice X1 M.bits.length d1, .slice X2 M.words.length d2]) M) (hM : smallM M 100 100) :
    LatchX (W.alloc (.cells #[.slice X1 M.bits.length d1, .slice X2 M.words.length d2] 26)) W.heap.size X1 d1 X2 d2 M :=
  ⟨heap_alloc_new _ _, (OwnM.read h hM).below ((Below.refl _ _).alloc (Nat.le_refl _) _)⟩
theorem LatchB.img {W : World} {n : Nat} {s a b : Bool} (h : LatchB W n s a b) : ImgR W W.heap.size (.agg #[.slice (some ⟨n, 0, none⟩) 3 3, .slice none 0 0]) ⟨[a, b, s], []⟩ :=
  ⟨_, _, rfl, ⟨_, 3, rfl, Rd.of_blk (n := 3) (sz := 1) h.b0 rfl, by simp⟩, ⟨none, 0, rfl, Rd.none_, by simp, by simp⟩⟩
theorem latch_nodes {W : World} {k : Nat} {x y : Int} (h : W.heap[k]? = some (.cells #[.int .i64 x, .int .i64 y] 92 (0, 0))) (hf : ndFit ⟨x, y⟩) : NodesR W W.heap.size (.slice (some ⟨k, 0, none⟩) 1 1) [⟨x, y⟩] :=
  ⟨_, 1, rfl, Rd.of_blk (n := 1) (sz := 2) h rfl, by simp, fun z hz => by simp at hz; subst hz; exact hf⟩
def rgSet : Rg := ⟨[⟨1, 0⟩], 2, 2⟩
def rgReset : Rg := ⟨[⟨1, 1⟩], 2, 3⟩
theorem LatchB.set {W : World} {n : Nat} {s a b : Bool} (h : LatchB W n s a b) : NodesR W W.heap.size (.slice (some ⟨n + 1 + 1, 0, none⟩) 1 1) rgSet.logic ∧ rgFit rgSet :=
  ⟨latch_nodes h.b2 (by unfold ndFit; simp), by unfold rgFit rgSet fit64; simp⟩
theorem LatchB.reset {W : World} {n : Nat} {s a b : Bool} (h : LatchB W n s a b) : NodesR W W.heap.size (.slice (some ⟨n + 1 + 1 + 1 + 1, 0, none⟩) 1 1) rgReset.logic ∧ rgFit rgReset :=
  ⟨latch_nodes h.b4 (by unfold ndFit; simp), by unfold rgFit rgReset fit64; simp⟩
theorem latch_lad {W : World} {k : Nat} {v1 v2 : Value} {r1 r2 : Rg} (h : W.heap[k]? = some (.cells #[v1, .int .i64 r1.coil, .int .i64 r1.kind, v2, .int .i64 r2.coil, .int .i64 r2.kind] 58 (0, 0)))
    (h1 : NodesR W W.heap.size v1 r1.logic ∧ rgFit r1) (h2 : NodesR W W.heap.size v2 r2.logic ∧ rgFit r2) : LadR W W.heap.size (.slice (some ⟨k, 0, none⟩) 2 2) [(v1, r1), (v2, r2)] :=
  ⟨_, 2, rfl, Rd.of_blk (n := 2) (sz := 3) h rfl, by simp, fun p hp => by
    simp at hp
    rcases hp with rfl | rfl
    · exact h1
    · exact h2⟩
/-- A rung that sets followed by one that resets is a reset-dominant latch; in the other order, a set-dominant one. -/
theorem latch_sr (s a b : Bool) : runLadM ⟨[a, b, s], []⟩ [rgSet, rgReset] = ⟨[a, b, resD s a b], []⟩ := by
  cases s <;> cases a <;> cases b <;> rfl
theorem latch_rs (s a b : Bool) : runLadM ⟨[a, b, s], []⟩ [rgReset, rgSet] = ⟨[a, b, setD s a b], []⟩ := by
  cases s <;> cases a <;> cases b <;> rfl
theorem FnLatchLadder_long (a : Option Addr) (n c : Nat) (w : World) (h : 1048576 < n) (_hn : n ≤ 9223372036854775807) : Calls Try.prog 19 #[.slice a n c] w (LawPost w) := by
  go_enter Try.func19, Try.ntmps19
  go_wp2
  go_ret
  exact ⟨rfl, Below.refl _ _⟩
set_option maxHeartbeats 4000000 in
theorem FnLatchLadder_core (v : Value) (bl : List Int) (w : World) (h : BytesR w w.heap.size v bl) (hl : bl.length ≤ 1048576) :
    Calls Try.prog 19 #[v] w (LawPost w) := by
  have HO := Lib.hid (drawSetDominant_any v bl w h)
  obtain ⟨A0, c0, rfl, -⟩ := h
  go_enter Try.func19, Try.ntmps19
  go_wp2_with fail
  refine HO.out.mono ?_
  rintro e w1 ⟨s, a, b, rfl, hb1⟩
  clear HO
  have L6 := latchW_blocks w1 s a b
  have s6 := latchW_size w1 s a b
  have B6 := latchW_below w1 s a b
  have H6 := Lib.hid (And.intro L6 (And.intro s6 B6))
  clear L6 s6 B6
  go_wp2_with fail
  show Calls Try.prog 55 #[.agg #[.slice (some ⟨w1.heap.size, 0, none⟩) 3 3, .slice none 0 0], .slice (some ⟨w1.heap.size + 1 + 1 + 1 + 1 + 1 + 1, 0, none⟩) 2 2] ((latchW w1 s a b).alloc (.cells #[.slice (some ⟨w1.heap.size + 1 + 1, 0, none⟩) 1 1, .int .i64 2, .int .i64 2, .slice (some ⟨w1.heap.size + 1 + 1 + 1 + 1, 0, none⟩) 1 1, .int .i64 2, .int .i64 3] 58)) _
  generalize latchW w1 s a b = W at H6 ⊢
  obtain ⟨L6, s6, B6⟩ := H6.out
  have L7 := L6.below ((Below.refl _ _).alloc (Nat.le_refl _) (.cells #[.slice (some ⟨w1.heap.size + 1 + 1, 0, none⟩) 1 1, .int .i64 2, .int .i64 2, .slice (some ⟨w1.heap.size + 1 + 1 + 1 + 1, 0, none⟩) 1 1, .int .i64 2, .int .i64 3] 58))
  have l7 := latch_lad (r1 := rgSet) (r2 := rgReset) (heap_alloc_new W (.cells #[.slice (some ⟨w1.heap.size + 1 + 1, 0, none⟩) 1 1, .int .i64 2, .int .i64 2, .slice (some ⟨w1.heap.size + 1 + 1 + 1 + 1, 0, none⟩) 1 1, .int .i64 2, .int .i64 3] 58)) L7.set L7.reset
  have B7 := B6.alloc B6.size (.cells #[.slice (some ⟨w1.heap.size + 1 + 1, 0, none⟩) 1 1, .int .i64 2, .int .i64 2, .slice (some ⟨w1.heap.size + 1 + 1 + 1 + 1, 0, none⟩) 1 1, .int .i64 2, .int .i64 3] 58)
  rw [s6] at l7
  clear H6 L6 s6 B6
  refine (iRunLadder_any _ _ ⟨[a, b, s], []⟩ [(.slice (some ⟨w1.heap.size + 1 + 1, 0, none⟩) 1 1, rgSet), (.slice (some ⟨w1.heap.size + 1 + 1 + 1 + 1, 0, none⟩) 1 1, rgReset)] _ L7.img l7).mono ?_
  rw [show lads [(.slice (some ⟨w1.heap.size + 1 + 1, 0, none⟩) 1 1, rgSet), (.slice (some ⟨w1.heap.size + 1 + 1 + 1 + 1, 0, none⟩) 1 1, rgReset)] = [rgSet, rgReset] from rfl, latch_sr s a b]
  obtain ⟨M, hM⟩ : ∃ M, M = (⟨[a, b, resD s a b], []⟩ : Img) := ⟨_, rfl⟩
  rw [← hM]
  have hM2 : smallM M 100 100 := by subst hM; exact ⟨by simp, by simp, by simp⟩
  have hMg : getB M.bits 2 = resD s a b := by subst hM; rfl
  have HMg := Lib.hid hMg
  clear hM hMg
  rintro e w2 ⟨xv, rfl, hOx, hb2⟩
  obtain ⟨X1, d1, X2, d2, rfl, -, -⟩ := hOx.form
  have L2 := L7.below hb2
  have B2 := B7.trans (hb2.mono B7.size)
  have X3 := LatchX.new hOx hM2
  clear L7 l7 B7 hb2 hOx hM2
  have L3 := L2.below ((Below.refl _ _).alloc (Nat.le_refl _) (.cells #[.slice X1 M.bits.length d1, .slice X2 M.words.length d2] 26))
  have B3 := B2.alloc B2.size (.cells #[.slice X1 M.bits.length d1, .slice X2 M.words.length d2] 26)
  obtain ⟨c0, c1, -, -⟩ := blk2 L2.b1
  obtain ⟨⟨c2, c3, c4⟩, -, -, -⟩ := blk3 L2.b3
  obtain ⟨⟨c5, c6, c7⟩, -, -, -⟩ := blk3 L2.b5
  have z1 := blk_lt L2.b1
  have z3 := blk_lt L2.b3
  have z5 := blk_lt L2.b5
  have HL3 := Lib.hid L3
  have HX3 := Lib.hid X3
  have HB3 := Lib.hid B3
  clear L2 B2 L3 X3 B3
  go_wp2_with fail
  clear c0 c1 c2 c3 c4 c5 c6 c7 z1 z3 z5
  have s3 : (w2.alloc (.cells #[.slice X1 M.bits.length d1, .slice X2 M.words.length d2] 26)).heap.size = w2.heap.size + 1 := by simp
  have HS3 := Lib.hid s3
  clear s3
  obtain ⟨k, hk⟩ : ∃ k, k = w2.heap.size := ⟨_, rfl⟩
  rw [← hk] at HX3 HS3 ⊢
  clear hk
  generalize w2.alloc (.cells #[.slice X1 M.bits.length d1, .slice X2 M.words.length d2] 26) = w3 at HL3 HX3 HB3 HS3 ⊢
  have L8 := HL3.out.below ((Below.refl _ _).alloc (Nat.le_refl _) (.cells #[.slice (some ⟨w1.heap.size + 1 + 1 + 1 + 1, 0, none⟩) 1 1, .int .i64 2, .int .i64 3, .slice (some ⟨w1.heap.size + 1 + 1, 0, none⟩) 1 1, .int .i64 2, .int .i64 2] 58))
  have l8 := latch_lad (r1 := rgReset) (r2 := rgSet) (heap_alloc_new w3 (.cells #[.slice (some ⟨w1.heap.size + 1 + 1 + 1 + 1, 0, none⟩) 1 1, .int .i64 2, .int .i64 3, .slice (some ⟨w1.heap.size + 1 + 1, 0, none⟩) 1 1, .int .i64 2, .int .i64 2] 58)) L8.reset L8.set
  have X8 := HX3.out.below ((Below.refl _ _).alloc (Nat.le_refl _) (.cells #[.slice (some ⟨w1.heap.size + 1 + 1 + 1 + 1, 0, none⟩) 1 1, .int .i64 2, .int .i64 3, .slice (some ⟨w1.heap.size + 1 + 1, 0, none⟩) 1 1, .int .i64 2, .int .i64 2] 58))
  have B8 := HB3.out.alloc HB3.out.size (.cells #[.slice (some ⟨w1.heap.size + 1 + 1 + 1 + 1, 0, none⟩) 1 1, .int .i64 2, .int .i64 3, .slice (some ⟨w1.heap.size + 1 + 1, 0, none⟩) 1 1, .int .i64 2, .int .i64 2] 58)
  rw [HS3.out] at l8
  clear HL3 HX3 HB3 HS3
  refine (iRunLadder_any _ _ ⟨[a, b, s], []⟩ [(.slice (some ⟨w1.heap.size + 1 + 1 + 1 + 1, 0, none⟩) 1 1, rgReset), (.slice (some ⟨w1.heap.size + 1 + 1, 0, none⟩) 1 1, rgSet)] _ L8.img l8).mono ?_
  rw [show lads [(.slice (some ⟨w1.heap.size + 1 + 1 + 1 + 1, 0, none⟩) 1 1, rgReset), (.slice (some ⟨w1.heap.size + 1 + 1, 0, none⟩) 1 1, rgSet)] = [rgReset, rgSet] from rfl, latch_rs s a b]
  obtain ⟨N, hN⟩ : ∃ N, N = (⟨[a, b, setD s a b], []⟩ : Img) := ⟨_, rfl⟩
  rw [← hN]
  have hN2 : smallM N 100 100 := by subst hN; exact ⟨by simp, by simp, by simp⟩
  have hNg : getB N.bits 2 = setD s a b := by subst hN; rfl
  have HNg := Lib.hid hNg
  clear hN hNg
  rintro e w4 ⟨yv, rfl, hOy, hb4⟩
  obtain ⟨Y1, e1, Y2, e2, rfl, -, -⟩ := hOy.form
  have X4 := X8.below hb4
  have B4 := B8.trans (hb4.mono B8.size)
  have Y5 := LatchX.new hOy hN2
  clear L8 l8 X8 B8 hb4 hOy hN2
  have X5 := X4.below ((Below.refl _ _).alloc (Nat.le_refl _) (.cells #[.slice Y1 N.bits.length e1, .slice Y2 N.words.length e2] 26))
  have B5 := B4.alloc B4.size (.cells #[.slice Y1 N.bits.length e1, .slice Y2 N.words.length e2] 26)
  obtain ⟨c0, c1, -, -⟩ := blk2 X4.blk
  have z1 := blk_lt X4.blk
  have HX5 := Lib.hid X5
  have HY5 := Lib.hid Y5
  have HB5 := Lib.hid (hb1.trans (B5.mono hb1.size))
  clear X4 B4 Y5 X5 B5
  go_wp2_with fail
  refine (iGetBit_any _ M 2 _ HX5.out.img (by omega)).mono ?_
  rw [HMg.out]
  rintro e w6 ⟨rfl, hb6⟩
  have X6 := HX5.out.below hb6
  have Y6 := HY5.out.below hb6
  have B6 := HB5.out.trans (hb6.mono HB5.out.size)
  clear c0 c1 z1 HX5 HY5 HB5 hb6
  go_wp2_with fail
  refine (iResetDominant_any s a b _).mono ?_
  rintro e w7 ⟨rfl, rfl⟩
  obtain ⟨c0, c1, -, -⟩ := blk2 X6.blk
  obtain ⟨c2, c3, -, -⟩ := blk2 Y6.blk
  have HX6 := Lib.hid X6
  have HY6 := Lib.hid Y6
  have HB6 := Lib.hid B6
  clear X6 Y6 B6
  go_wp2_with fail
  refine (iGetBit_any _ N 2 _ HY6.out.img (by omega)).mono ?_
  rw [HNg.out]
  rintro e w8 ⟨rfl, hb8⟩
  have X8 := HX6.out.below hb8
  have B8 := HB6.out.trans (hb8.mono HB6.out.size)
  clear c0 c1 c2 c3 HX6 HY6 HB6 hb8
  go_wp2_with fail
  refine (iSetDominant_any s a b _).mono ?_
  rintro e w9 ⟨rfl, rfl⟩
  obtain ⟨c0, c1, -, -⟩ := blk2 X8.blk
  have HX8 := Lib.hid X8
  clear X8
  go_wp2_with fail
  refine (iGetBit_any _ M 2 _ HX8.out.img (by omega)).mono ?_
  rw [HMg.out]
  rintro e w10 ⟨rfl, hb10⟩
  go_wp2_with fail
  refine (sResetDominant_any s a b _).mono ?_
  rintro e w11 ⟨rfl, rfl⟩
  go_wp2
  go_ret
  exact ⟨rfl, B8.trans (hb10.mono B8.size)⟩
end Go.Proofs.Ytoagnajljdbobaa
