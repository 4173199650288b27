/- The contract of a drawn image. -/
import Derived.Test.YtoagnajljdbobabDoorP
namespace Go.Proofs.YtoagnajljdbobabDoor
open Go.RowKit
attribute [local go_sem ↓] Go.wp_at_zero Go.wp_at_succ

theorem own_blk {w : World} {b e s n k t : Nat} {v : Value} {xs : List Value} {cs : Array Value} {fr : Nat × Nat} (h : w.ownsRow b e s v n xs) (hk : w.heap[k]? = some (.cells cs t fr)) (ht : e ≠ t) : v.ownBlock ≠ some k := by
  rcases h.2 with ⟨rfl, _⟩ | ⟨g, cap, cur, rfl, _, hg, _⟩
  · simp [Value.ownBlock]
  · simp only [Value.ownBlock, ne_eq, Option.some.injEq]
    rintro rfl
    rw [hg] at hk
    injection hk with hk
    injection hk with _ h _
    exact ht h
theorem blk_lt {w : World} {k : Nat} {o : Obj} (h : w.heap[k]? = some o) : k < w.heap.size := by
  rcases Nat.lt_or_ge k w.heap.size with h' | h'
  · exact h'
  · rw [Array.getElem?_eq_none h'] at h; cases h
/-- A known block behind a law on an owned row of another element type. -/
theorem grown_blk {w w' : World} {b e s n k t : Nat} {v : Value} {xs : List Value} {cs : Array Value} {fr : Nat × Nat} (h : w.ownsRow b e s v n xs) (hg : w.grownBy w' v.ownBlock) (hk : w.heap[k]? = some (.cells cs t fr)) (ht : e ≠ t) : w'.heap[k]? = some (.cells cs t fr) :=
  (hg.block k (blk_lt hk) (Ne.symm (own_blk h hk ht))).trans hk
theorem own_setCell {w : World} {b e s n t : Nat} {v : Value} {xs : List Value} {p : Addr} {cs : Array Value} {fr : Nat × Nat} (h : w.ownsRow b e s v n xs) (hk : w.heap[p.block]? = some (.cells cs t fr)) (ht : e ≠ t) (u : Value) : (w.setCell p u).ownsRow b e s v n xs :=
  h.kept (row := some p.block) ⟨rfl, rfl, rfl, by simp [World.setCell], fun k _ hne => Below.heap_setCell _ _ _ _ (fun e => hne (by rw [e]))⟩ (.inr (own_blk h hk ht))
theorem blk_alloc {w : World} {k : Nat} {o : Obj} (h : w.heap[k]? = some o) (x : Obj) : (w.alloc x).heap[k]? = some o := (Below.heap_alloc w x k (blk_lt h)).trans h
theorem blk_cell {w : World} {k t : Nat} {cs : Array Value} {fr : Nat × Nat} (h : w.heap[k]? = some (.cells cs t fr)) (i : Nat) : w.cell? ⟨k, i, none⟩ = cs[i]? := cell_of_row w k i cs t fr h
theorem blk_frozen {w : World} {k t : Nat} {cs : Array Value} (h : w.heap[k]? = some (.cells cs t (0, 0))) (i : Nat) : w.frozen? ⟨k, i, none⟩ = false := frozen_of_row w k i cs t h
theorem Rdr.setCell {w : World} {g P : Nat} (h : Rdr w g P) {p : Addr} (hp : g < p.block) (u : Value) : Rdr (w.setCell p u) g P := h.keep ((Below.refl _ _).setCell (by omega) _)
theorem Rdr.grown {w w' : World} {g P : Nat} (h : Rdr w g P) {row : Option Nat} (hg : w.grownBy w' row) (hr : ∀ k, row = some k → g < k) : Rdr w' g P := h.keep ((Below.refl _ _).grown hg (by have := h.lt; omega) (fun k hk => by have := hr k hk; omega))

/-- The drawn image while it is being made: it lies in block k. -/
structure ImgAt (w : World) (base k r : Nat) (v1 v2 : Value) (m : Img) : Prop where
  blk : w.heap[k]? = some (.cells #[v1, v2] 26 (0, 0))
  res : w.heap[r]? = some (.cells #[.slice none 0 0, .slice none 0 0] 26 (0, 0))
  ob : OwnB w base v1 m.bits
  oi : OwnI w base v2 m.words
  ne : k ≠ r
def smallM (m : Img) (nb nw : Nat) : Prop := m.bits.length ≤ nb ∧ m.words.length ≤ nw ∧ ∀ x ∈ m.words, -40000 ≤ x ∧ x ≤ 40000
theorem ImgAt.fr {w w' : World} {base k r g : Nat} {v1 v2 : Value} {m : Img} (h : ImgAt w base k r v1 v2 m) (hf : Fr w.heap.size g w w') (hg : g < base) (hk : g ≠ k) (hr : g ≠ r) : ImgAt w' base k r v1 v2 m :=
  ⟨(hf.block k (blk_lt h.blk) (by omega)).trans h.blk, (hf.block r (blk_lt h.res) (by omega)).trans h.res, hf.own h.ob hg, hf.own h.oi hg, h.ne⟩
theorem ImgAt.drew {w : World} {base k r : Nat} {v1 v2 : Value} {m : Img} (h : ImgAt w base k r v1 v2 m) : ImgAt w.drew base k r v1 v2 m := ⟨h.blk, h.res, h.ob, h.oi, h.ne⟩
theorem Rdr.drew {w : World} {g P : Nat} (h : Rdr w g P) : Rdr w.drew g P := h.keep (Below.refl _ _).drew
/-- A word appended to the image that is being made. -/
theorem ImgAt.push {w w' : World} {base k r t : Nat} {v1 v2 v3 : Value} {m : Img} {x : Int} (hI : ImgAt w base k r v1 v2 m) (ht : t = 3)
    (hO : w'.ownsRow base t 1 v3 (m.words.length + 1) (m.words.map (.int .i64) ++ [.int .i64 x])) (hg : (w.alloc (.cells #[.int .i64 x] t)).grownBy w' v2.ownBlock) :
    ImgAt (w'.setCell ⟨k, 1, none⟩ v3) base k r v1 v3 ⟨m.bits, m.words ++ [x]⟩ := by
  subst ht
  have hoi := World.ownsRow.alloc hI.oi (.cells #[.int .i64 x] 3)
  have hb := grown_blk hoi hg (blk_alloc hI.blk _) (by decide)
  have hr := grown_blk hoi hg (blk_alloc hI.res _) (by decide)
  have hob := World.ownsRow.kept (World.ownsRow.alloc hI.ob (.cells #[.int .i64 x] 3)) hg (own_ne (World.ownsRow.alloc hI.ob _) hoi (by decide))
  refine ⟨heap_setCell_same w' k 1 _ _ _ hb, (Below.heap_setCell _ _ _ _ (Ne.symm hI.ne)).trans hr, own_setCell (p := ⟨k, 1, none⟩) hob hb (by decide) _, ?_, hI.ne⟩
  have := own_setCell (p := ⟨k, 1, none⟩) hO hb (by decide) v3
  unfold OwnI
  simpa using this
/-- The other ways in which the image is turned: its bits, or its words, made anew. -/
theorem ImgAt.bits {w w' : World} {base k r : Nat} {v1 v2 v3 : Value} {m : Img} {l : List Bool} (hI : ImgAt w base k r v1 v2 m) (hb : Below w.heap.size w w') (hO : OwnB w' base v3 l) :
    ImgAt (w'.setCell ⟨k, 0, none⟩ v3) base k r v3 v2 ⟨l, m.words⟩ := by
  have hk := (hb.block k (blk_lt hI.blk)).trans hI.blk
  exact ⟨heap_setCell_same w' k 0 _ _ _ hk, (Below.heap_setCell _ _ _ _ (Ne.symm hI.ne)).trans ((hb.block r (blk_lt hI.res)).trans hI.res), own_setCell (p := ⟨k, 0, none⟩) hO hk (by decide) _, own_setCell (p := ⟨k, 0, none⟩) (own_below hI.oi hb) hk (by decide) _, hI.ne⟩
theorem ImgAt.words {w w' : World} {base k r : Nat} {v1 v2 v3 : Value} {m : Img} {l : List Int} (hI : ImgAt w base k r v1 v2 m) (hb : Below w.heap.size w w') (hO : OwnI w' base v3 l) :
    ImgAt (w'.setCell ⟨k, 1, none⟩ v3) base k r v1 v3 ⟨m.bits, l⟩ := by
  have hk := (hb.block k (blk_lt hI.blk)).trans hI.blk
  exact ⟨heap_setCell_same w' k 1 _ _ _ hk, (Below.heap_setCell _ _ _ _ (Ne.symm hI.ne)).trans ((hb.block r (blk_lt hI.res)).trans hI.res), own_setCell (p := ⟨k, 1, none⟩) (own_below hI.ob hb) hk (by decide) _, own_setCell (p := ⟨k, 1, none⟩) hO hk (by decide) _, hI.ne⟩
theorem ImgAt.done {w : World} {base k r : Nat} {v1 v2 : Value} {m : Img} (hI : ImgAt w base k r v1 v2 m) : OwnM ((w.setCell ⟨r, 0, none⟩ v1).setCell ⟨r, 1, none⟩ v2) base (.agg #[v1, v2]) m := by
  have h1 := heap_setCell_same w r 0 _ _ v1 hI.res
  exact ⟨v1, v2, rfl, own_setCell (p := ⟨r, 1, none⟩) (own_setCell (p := ⟨r, 0, none⟩) hI.ob hI.res (by decide) _) h1 (by decide) _, own_setCell (p := ⟨r, 1, none⟩) (own_setCell (p := ⟨r, 0, none⟩) hI.oi hI.res (by decide) _) h1 (by decide) _⟩
theorem own_of_madeB {w : World} {b n : Nat} {v : Value} (h : w.ownsRow b 4 1 v n (madeCells #[Value.bool false] n).toList) : OwnB w b v (List.replicate n false) := by
  rw [toList_madeCells_one] at h; unfold OwnB; simpa using h
theorem own_of_madeI {w : World} {b n : Nat} {v : Value} (h : w.ownsRow b 3 1 v n (madeCells #[Value.int .i64 0] n).toList) : OwnI w b v (List.replicate n 0) := by
  rw [toList_madeCells_one] at h; unfold OwnI; simpa using h
/-- The cells that the image's last lines read. -/
theorem ImgAt.facts {w : World} {base k r : Nat} {v1 v2 : Value} {m : Img} (hI : ImgAt w base k r v1 v2 m) :
    w.cell? ⟨k, 0, none⟩ = some v1 ∧ w.cell? ⟨k, 1, none⟩ = some v2 ∧ w.frozen? ⟨k, 0, none⟩ = false ∧ w.frozen? ⟨k, 1, none⟩ = false ∧
    w.cell? ⟨r, 0, none⟩ = some (.slice none 0 0) ∧ w.cell? ⟨r, 1, none⟩ = some (.slice none 0 0) ∧ w.frozen? ⟨r, 0, none⟩ = false ∧ w.frozen? ⟨r, 1, none⟩ = false :=
  ⟨blk_cell hI.blk 0, blk_cell hI.blk 1, blk_frozen hI.blk 0, blk_frozen hI.blk 1, blk_cell hI.res 0, blk_cell hI.res 1, blk_frozen hI.res 0, blk_frozen hI.res 1⟩
def ImagePost (g P : Nat) (w : World) (e : Ending) (w' : World) : Prop := ∃ v m, e = .returned v ∧ OwnM w' w.heap.size v m ∧ smallM m 17 9 ∧ Rdr w' g (P + 100) ∧ Fr w.heap.size g w w'

set_option maxRecDepth 100000 in
set_option maxHeartbeats 2000000 in
theorem image_any (g P : Nat) (n : Int) (w : World) (hw : Rdr w g P) (hP : P + 100 ≤ 1000000) (hn : n ≤ 1000000) (hn0 : -1000000 ≤ n) :
    Calls Tryd.prog 13 #[.pointer (some ⟨g, 0, none⟩), .int .i64 n] w (ImagePost g P w) := by
  have hgl := hw.lt
  go_enter Tryd.func13, Tryd.ntmps13
  go_wp2_with fail
  refine (pick_any g P 7 _ (hw.below ((Below.refl _ _).alloc (Nat.le_refl _) _)) (by omega) (by omega)).mono ?_
  rintro e w1 ⟨r1, rfl, hr1, hR1, hF1⟩
  have hx1 : w1.heap[w.heap.size]? = some (.cells #[.slice none 0 0, .slice none 0 0] 26 (0, 0)) := (hF1.block _ (by simp) (by omega)).trans (heap_alloc_new w _)
  replace hF1 := ((Fr.refl w.heap.size g w).alloc (Nat.le_refl _) _).trans (hF1.mono (by simp))
  clear hw
  go_wp2_with fail
  refine (pick_any g _ 17 _ hR1 (by omega) (by omega)).mono ?_
  rintro e w2 ⟨r2, rfl, hr2, hR2, hF2⟩
  have hx2 := (hF2.block _ (blk_lt hx1) (by omega)).trans hx1
  replace hF2 := hF1.trans (hF2.mono hF1.size)
  clear hR1 hF1 hx1
  go_wp2_with fail
  refine (pick_any g _ 2 _ (hR2.below ((Below.refl _ _).alloc (Nat.le_refl _) _)) (by omega) (by omega)).mono ?_
  rintro e w3 ⟨r3, rfl, hr3, hR3, hF3⟩
  have hs2 := hF2.size
  obtain ⟨k0, k1, k2⟩ := hF3.kept w2.heap.size (by simp) (by have := hR2.lt; omega) (by simp)
  have hx3 := (hF3.block _ (by have := blk_lt hx2; simp; omega) (by omega)).trans (blk_alloc hx2 _)
  replace hF3 := (hF2.alloc hs2 _).trans (hF3.mono (by simp; omega))
  clear hR2 hF2 hx2
  obtain ⟨r4, hr4, hr4'⟩ : ∃ r4 : Int, (0 ≤ r4 ∧ r4 ≤ 16) ∧ ((r3 = 0 ∧ r4 = r1) ∨ (r3 = 1 ∧ r4 = r2)) := by
    have h2 : r3 = 0 ∨ r3 = 1 := by omega
    rcases h2 with rfl | rfl
    · exact ⟨r1, by omega, .inl ⟨rfl, rfl⟩⟩
    · exact ⟨r2, by omega, .inr ⟨rfl, rfl⟩⟩
  have hidx : w3.cell? ⟨w2.heap.size, r3.toNat, none⟩ = some (.int .i64 r4) := by
    rcases hr4' with ⟨rfl, rfl⟩ | ⟨rfl, rfl⟩ <;> simp [k0]
  clear k0 k1 k2 hr4'
  have hi1 : r3 < 2 := by omega
  go_wp2_with fail
  refine (flags_any g _ r4 _ hR3 (by omega) (by omega) (by omega)).mono ?_
  rintro e w4 ⟨v1, l1, rfl, hO4, hl4, hR4, hF4⟩
  have hx4 := (hF4.block _ (blk_lt hx3) (by omega)).trans hx3
  have hs3 := hF3.size
  have hO4' : OwnB w4 w.heap.size v1 l1 := mono_own hO4 hs3
  replace hF4 := hF3.trans (hF4.mono hs3)
  have hl4b : l1.length ≤ 16 := by omega
  clear hl4
  replace hR4 := hR4.mono (Q := P + 40) (by omega)
  have hs4 := hF4.size
  obtain ⟨A1, c1, rfl, -, -⟩ := own_form hO4'
  have hlt := blk_lt hx3
  clear hR3 hF3 hx3 hO4 hidx
  have hne4 : w4.heap.size ≠ w.heap.size := by have := blk_lt hx4; omega
  have hI4 : ImgAt (w4.alloc (.cells #[.slice A1 l1.length c1, .slice none 0 0] 26)) w.heap.size w4.heap.size w.heap.size (.slice A1 l1.length c1) (.slice none 0 0) ⟨l1, []⟩ :=
    ⟨heap_alloc_new _ _, blk_alloc hx4 _, World.ownsRow.alloc hO4' _, World.ownsRow_nil _ _ _ _, hne4⟩
  have hS4 : smallM ⟨l1, []⟩ 16 0 := ⟨by simp; omega, by simp, by simp⟩
  have hg4 := hR4.lt
  go_wp2_with fail
  refine (pick_any g _ 5 _ (hR4.below ((Below.refl _ _).alloc (Nat.le_refl _) _)) (by omega) (by omega)).mono ?_
  rintro e w5 ⟨r5, rfl, hr5, hR5, hF5⟩
  have hI5 := hI4.fr hF5 (by omega) (by omega) (by omega)
  replace hF5 := (hF4.alloc (by omega) _).trans (hF5.mono (by simp; omega))
  have hgb : g < w4.heap.size := by omega
  have hwb : w.heap.size < w4.heap.size := by omega
  clear hI4 hO4' hx4 hF4 hR4 hs4 hne4 hg4 hlt
  go_wp2_with fail
  go_loopw [6] (fun i wr => ∃ (k : Nat) (v2 : Value) (m : Img), k ≤ 4 ∧ i = .int .i64 k ∧ ImgAt wr w.heap.size w4.heap.size w.heap.size (.slice A1 l1.length c1) v2 m ∧ m.bits = l1 ∧ smallM m 16 (4 - k) ∧ Rdr wr g (P + 41 + 7 * (4 - k)) ∧ Fr w.heap.size g w wr) (fun i _ => (intOf i).toNat)
  case atStart => exact ⟨r5.toNat, _, _, by omega, by simp; omega, hI5, rfl, ⟨hS4.1, by simp, hS4.2.2⟩, hR5.mono (by omega), hF5⟩
  case round =>
    obtain ⟨k, v2, m, hk, rfl, hI, hmb, hS, hR, hF⟩ := hrel
    have Hmb := Lib.hid hmb
    clear hmb hI5 hR5 hF5
    obtain ⟨A2, c2, rfl, -, -⟩ := own_form hI.oi
    have hc0 := blk_cell hI.blk 0
    have hc1 := blk_cell hI.blk 1
    have hz0 := blk_frozen hI.blk 0
    have hz1 := blk_frozen hI.blk 1
    simp at hc0 hc1
    have hsz := hF.size
    by_cases hlt : 0 < k
    · obtain ⟨k', rfl⟩ : ∃ k', k = k' + 1 := ⟨k - 1, by omega⟩
      have hw9 := hS.2.1
      go_wp2_with fail
      go_region_law
        (first
          | (refine step_append (v := .slice A2 m.words.length c2) (n := m.words.length) (xs := m.words.map (.int .i64)) (A := some ⟨w6.heap.size, 0, none⟩) (m := 1) (c := 1) (news := [.int .i64 x]) (B := w6.heap.size + 1) (base := w.heap.size) (by rfl) _ _ _ (by rfl) elI (by rfl) (World.ownsRow.alloc hI6.oi _) (by rfl) (Rd.new1 _ _ _) ?_ ?_ ?_ ?_ ?_; (simp; rfl); omega; omega; (simp; omega); intro v3 w7 hO7 hg7 hx7; have hI7 := hI6.push rfl hO7 hg7; have hb7 := grown_blk (World.ownsRow.alloc hI6.oi _) hg7 (blk_alloc hI6.blk _) (by decide); have p1 := blk_cell hb7 1; have p2 := blk_frozen hb7 1; simp at p1; have hR7 := ((hR6.below ((Below.refl _ _).alloc (Nat.le_refl _) _)).grown hg7 (fun j hj => by have := (hI6.oi.lt j hj).1; omega)).setCell (p := ⟨w4.heap.size, 1, none⟩) hgb v3; have hF7 := ((hF6'.alloc (by omega) _).grown hg7 (by simp; omega) (fun j hj => .inl (hI6.oi.lt j hj).1)).setCell (p := ⟨w4.heap.size, 1, none⟩) (.inl (Nat.le_of_lt hwb)) v3; obtain ⟨A7, c7, rfl, -, -⟩ := own_form hO7)
          | (go_simp; go_at_call 28; refine (word_any g _ 0 _ (Rdr.drew hR) (by omega) (by omega) (by omega)).mono ?_; rintro e w6 ⟨x, rfl, hx0, hx1, hR6, hF6⟩; have hI6 := (ImgAt.drew hI).fr hF6 (by omega) (by omega) (by omega); have hF6' := (hF.drew).trans (hF6.mono hsz); have l6 := blk_lt hI6.blk; have q0 := (World.cell?_alloc_lt w6 (.cells #[.int .i64 x] 3) ⟨w4.heap.size, 1, none⟩ l6).trans (blk_cell hI6.blk 1); simp at q0; have q1 := blk_cell hI6.blk 1; have q2 := blk_frozen hI6.blk 1; simp at q1; have hs6 := hF6'.size; clear hF6))
      all_goals
        go_wp2
        go_roundw
        case rel => exact ⟨k', _, _, by omega, rfl, hI7, Hmb.out, ⟨hS.1, by simp; omega, fun y hy => by rcases List.mem_append.1 hy with h | h; exact hS.2.2 y h; simp at h; omega⟩, hR7.mono (by omega), hF7⟩
        case measure => simp [intOf]
    · obtain rfl : k = 0 := by omega
      have hgw := hR.lt
      go_wp2_with fail
      refine (odd_any g _ n _ hR (by omega) hn hn0).mono ?_
      rintro e w6 ⟨b, rfl, hb, hR6, hF6⟩
      have hI6 := hI.fr hF6 (by omega) (by omega) (by omega)
      replace hF6 := hF.trans (hF6.mono hsz)
      clear hR hF hI hc0 hc1 hz0 hz1 hb
      have c0 := blk_cell hI6.blk 0
      have c1' := blk_cell hI6.blk 1
      have z0 := blk_frozen hI6.blk 0
      have z1 := blk_frozen hI6.blk 1
      have d0 := blk_cell hI6.res 0
      have d1 := blk_cell hI6.res 1
      have y0 := blk_frozen hI6.res 0
      have y1 := blk_frozen hI6.res 1
      simp at c0 c1' d0 d1
      have hne := hI6.ne
      cases b
      · go_wp2
        refine bodyPost_ret (v := .agg #[.slice A1 l1.length c1, .slice A2 m.words.length c2]) (by simp [results, Tryd.results13, go_sem, *]) rfl ⟨_, m, rfl, hI6.done, ⟨by have := hS.1; omega, by have := hS.2.1; omega, hS.2.2⟩, ((hR6.setCell (by simp; omega) _).setCell (by simp; omega) _).mono (by omega), ?_⟩
        exact (hF6.setCell (.inl (by simp)) _).setCell (.inl (by simp)) _
      · clear c0 c1' z0 z1 d0 d1 y0 y1
        go_wp2_with fail
        refine (pick_any g _ 3 _ hR6 (by omega) (by omega)).mono ?_
        rintro e w7 ⟨r7, rfl, hr7, hR7, hF7⟩
        have hI7 := hI6.fr hF7 (by omega) (by omega) (by omega)
        replace hF7 := hF6.trans (hF7.mono hF6.size)
        clear hR6 hF6 hI6
        have hs7 := hF7.size
        obtain ⟨c0, c1', z0, z1, d0, d1, y0, y1⟩ := hI7.facts
        have hw9 := hS.2.1
        have h3 : r7 = 0 ∨ r7 = 1 ∨ r7 = 2 := by omega
        rcases h3 with rfl | rfl | rfl
        · clear c0 c1' z0 z1 d0 d1 y0 y1
          go_wp2_with (at_make; refine wpl_make rfl _ _ 23 rfl elB 17 rfl rfl (by omega) (by omega) ?_)
          intro w8 hO8 hb8
          have hO := mono_own (own_of_madeB hO8) hs7
          have hb7 := hI7.blk
          have g0 := blk_cell ((hb8.block _ (blk_lt hb7)).trans hb7) 0
          have g1 := blk_frozen ((hb8.block _ (blk_lt hb7)).trans hb7) 0
          have hI9 := hI7.bits hb8 hO
          obtain ⟨c0, c1', z0, z1, d0, d1, y0, y1⟩ := hI9.facts
          have hFe := ((hF7.then_ hb8 hs7).setCell (p := ⟨w4.heap.size, 0, none⟩) (.inl (Nat.le_of_lt hwb)) (.slice (some ⟨w7.heap.size, 0, none⟩) 17 17))
          have hRe := ((hR7.below hb8).setCell (p := ⟨w4.heap.size, 0, none⟩) hgb (.slice (some ⟨w7.heap.size, 0, none⟩) 17 17))
          clear hO8 hI7 hR7 hF7
          go_wp2
          refine bodyPost_ret (v := .agg #[.slice (some ⟨w7.heap.size, 0, none⟩) 17 17, .slice A2 m.words.length c2]) (by simp [results, Tryd.results13, go_sem, *]) rfl ⟨_, _, rfl, hI9.done, ⟨by simp, Nat.le_trans hS.2.1 (by omega), hS.2.2⟩, ((hRe.setCell (by simp; omega) _).setCell (by simp; omega) _).mono (by omega), ?_⟩
          exact (hFe.setCell (.inl (by simp)) _).setCell (.inl (by simp)) _
        · clear c0 c1' z0 z1 d0 d1 y0 y1
          go_wp2_with (at_make; refine wpl_make rfl _ _ 24 rfl elI 9 rfl rfl (by omega) (by omega) ?_)
          intro w8 hO8 hb8
          have hO := mono_own (own_of_madeI hO8) hs7
          have hb7 := hI7.blk
          have g0 := blk_cell ((hb8.block _ (blk_lt hb7)).trans hb7) 1
          have g1 := blk_frozen ((hb8.block _ (blk_lt hb7)).trans hb7) 1
          have hI9 := hI7.words hb8 hO
          obtain ⟨c0, c1', z0, z1, d0, d1, y0, y1⟩ := hI9.facts
          have hFe := ((hF7.then_ hb8 hs7).setCell (p := ⟨w4.heap.size, 1, none⟩) (.inl (Nat.le_of_lt hwb)) (.slice (some ⟨w7.heap.size, 0, none⟩) 9 9))
          have hRe := ((hR7.below hb8).setCell (p := ⟨w4.heap.size, 1, none⟩) hgb (.slice (some ⟨w7.heap.size, 0, none⟩) 9 9))
          clear hO8 hI7 hR7 hF7
          go_wp2
          refine bodyPost_ret (v := .agg #[.slice A1 l1.length c1, .slice (some ⟨w7.heap.size, 0, none⟩) 9 9]) (by simp [results, Tryd.results13, go_sem, *]) rfl ⟨_, _, rfl, hI9.done, ⟨Nat.le_trans hS.1 (by omega), by simp, fun y hy => by have := List.eq_of_mem_replicate hy; omega⟩, ((hRe.setCell (by simp; omega) _).setCell (by simp; omega) _).mono (by omega), ?_⟩
          exact (hFe.setCell (.inl (by simp)) _).setCell (.inl (by simp)) _
        · go_wp2_with fail
          go_region_law
            (first
              | (refine step_append (v := .slice A2 m.words.length c2) (n := m.words.length) (xs := m.words.map (.int .i64)) (A := some ⟨w6.heap.size, 0, none⟩) (m := 1) (c := 1) (news := [.int .i64 x]) (B := w6.heap.size + 1) (base := w.heap.size) (by rfl) _ _ _ (by rfl) elI (by rfl) (World.ownsRow.alloc hI6.oi _) (by rfl) (Rd.new1 _ _ _) ?_ ?_ ?_ ?_ ?_; (simp; rfl); omega; omega; (simp; omega); intro v3 w7 hO7 hg7 hx7; have hIe := hI6.push rfl hO7 hg7; have hb7 := grown_blk (World.ownsRow.alloc hI6.oi _) hg7 (blk_alloc hI6.blk _) (by decide); have p1 := blk_cell hb7 1; have p2 := blk_frozen hb7 1; simp at p1; obtain ⟨m0, m1, n0, n1, o0, o1, q0', q1'⟩ := hIe.facts; have hRe := ((hR6.below ((Below.refl _ _).alloc (Nat.le_refl _) _)).grown hg7 (fun j hj => by have := (hI6.oi.lt j hj).1; omega)).setCell (p := ⟨w4.heap.size, 1, none⟩) hgb v3; have hFe := ((hF6'.alloc (by omega) _).grown hg7 (by simp; omega) (fun j hj => .inl (hI6.oi.lt j hj).1)).setCell (p := ⟨w4.heap.size, 1, none⟩) (.inl (Nat.le_of_lt hwb)) v3; obtain ⟨A7, c7, rfl, -, -⟩ := own_form hO7)
              | (go_simp; go_at_call 28; refine (word_any g _ 1 _ (Rdr.drew hR7) (by omega) (by omega) (by omega)).mono ?_; rintro e w6 ⟨x, rfl, hx0, hx1, hR6, hF6⟩; have hI6 := (ImgAt.drew hI7).fr hF6 (by omega) (by omega) (by omega); have hF6' := (hF7.drew).trans (hF6.mono hs7); have l6 := blk_lt hI6.blk; have q0 := (World.cell?_alloc_lt w6 (.cells #[.int .i64 x] 3) ⟨w4.heap.size, 1, none⟩ l6).trans (blk_cell hI6.blk 1); simp at q0; have q1 := blk_cell hI6.blk 1; have q2 := blk_frozen hI6.blk 1; simp at q1; have hs6 := hF6'.size; clear hF6))
          all_goals
            go_wp2
            refine bodyPost_ret (v := .agg #[.slice A1 l1.length c1, .slice A7 (m.words.length + 1) c7]) (by simp [results, Tryd.results13, go_sem, *]) rfl ⟨_, _, rfl, hIe.done, ⟨Nat.le_trans hS.1 (by omega), by simp; omega, fun y hy => by rcases List.mem_append.1 hy with h | h; exact hS.2.2 y h; simp at h; omega⟩, ((hRe.setCell (by simp; omega) _).setCell (by simp; omega) _).mono (by omega), ?_⟩
            exact (hFe.setCell (.inl (by simp)) _).setCell (.inl (by simp)) _
end Go.Proofs.YtoagnajljdbobabDoor
