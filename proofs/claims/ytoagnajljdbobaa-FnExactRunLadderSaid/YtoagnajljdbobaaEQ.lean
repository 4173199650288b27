/- The exact laws' helpers over a list of rungs: copy, equality, marks. The size of a list of rungs, on a reading that knows little of its elements. -/
import Derived.Test.YtoagnajljdbobaaES
namespace Go.Proofs.Ytoagnajljdbobaa
open Go.RowKit
attribute [local go_sem ↓] Go.wp_at_zero Go.wp_at_succ

def zR : Value × Rg := (.slice none 0 0, ⟨[], 0, 0⟩)
theorem made3 (n : Nat) : (madeCells #[Value.slice none 0 0, Value.int .i64 0, Value.int .i64 0] (n * 3)).toList = cellsR (List.replicate n zR) := by
  apply List.ext_getElem
  · unfold madeCells
    simp [cellsR_length]
  · intro i h1 h2
    rw [cellsR_length, List.length_replicate] at h2
    obtain ⟨q, r, hr, rfl⟩ : ∃ q r, r < 3 ∧ i = q * 3 + r := ⟨i / 3, i % 3, Nat.mod_lt _ (by omega), by omega⟩
    obtain ⟨c0, c1, c2⟩ := cellsR_at (List.replicate n zR) q (by rw [List.length_replicate]; omega)
    rw [List.getElem_replicate] at c0 c1 c2
    have hm : (q * 3 + r) % 3 = r := by omega
    rcases (show r = 0 ∨ r = 1 ∨ r = 2 by omega) with rfl | rfl | rfl
    · obtain ⟨_, e⟩ := List.getElem?_eq_some_iff.1 c0
      refine Eq.trans ?_ e.symm
      unfold madeCells
      simp [zR]
    · obtain ⟨_, e⟩ := List.getElem?_eq_some_iff.1 c1
      refine Eq.trans ?_ e.symm
      unfold madeCells
      simp [hm, zR]
    · obtain ⟨_, e⟩ := List.getElem?_eq_some_iff.1 c2
      refine Eq.trans ?_ e.symm
      unfold madeCells
      simp [hm, zR]
theorem cellsR_set3 (a b : List (Value × Rg)) (z : Value × Rg) (u : Value) (lg : List Nd) (x y : Int) (k : Nat) (hk : a.length = k) :
    (((cellsR (a ++ z :: b)).set (k * 3) u).set (k * 3 + 1) (.int .i64 x)).set (k * 3 + 2) (.int .i64 y) = cellsR (a ++ (u, ⟨lg, x, y⟩) :: b) := by
  have hl : (cellsR a).length = k * 3 := by rw [cellsR_length, hk]
  rw [cellsR_append, cellsR_append, cellsR_cons, cellsR_cons]
  rw [List.set_append_right _ _ (by omega), List.set_append_right _ _ (by omega), List.set_append_right _ _ (by omega), hl]
  simp
/-- A ladder of the call's own, in blocks of [lo, hi). -/
structure XL (w : World) (lo hi : Nat) (v : Value) (qs : List (Value × Rg)) : Prop where
  row : OwnX w lo hi 58 3 v qs.length (cellsR qs)
  els : ∀ p ∈ qs, OwnX w lo hi 92 2 p.1 p.2.logic.length (cellsN p.2.logic)
  apart : qs.Pairwise fun p q => p.1.ownBlock = none ∨ p.1.ownBlock ≠ q.1.ownBlock
  fit : ∀ p ∈ qs, rgFit p.2 ∧ (∀ x ∈ p.2.logic, ndFit x)
  sz : qs.length ≤ 1048576 ∧ ∀ p ∈ qs, p.2.logic.length ≤ 1048576
  le : hi ≤ w.heap.size
section
variable {w w' : World} {lo hi lo2 hi2 : Nat} {v : Value} {qs : List (Value × Rg)}
theorem XL.below (h : XL w lo hi v qs) (hb : Below w.heap.size w w') : XL w' lo hi v qs := ⟨h.row.below hb, fun p hp => (h.els p hp).below hb, h.apart, h.fit, h.sz, Nat.le_trans h.le hb.size⟩
theorem XL.out (h : XL w lo hi v qs) (ho : Out lo2 hi2 w w') (hd : hi ≤ lo2 ∨ hi2 ≤ lo) : XL w' lo hi v qs := ⟨h.row.out ho hd, fun p hp => (h.els p hp).out ho hd, h.apart, h.fit, h.sz, Nat.le_trans h.le ho.size⟩
theorem XL.lt (h : XL w lo hi v qs) : hi ≤ w.heap.size := h.le
theorem XL.read (h : XL w lo hi v qs) : LadR w w.heap.size v qs :=
  OwnL.read (base := lo) ⟨h.row.1, fun p hp => ⟨(h.els p hp).1, (h.fit p hp).1, (h.fit p hp).2, Nat.le_trans (h.sz.2 p hp) (by omega)⟩⟩ (Nat.le_trans h.sz.1 (by omega))
end
/-- The copy so far: k rungs. -/
structure TS (w wr : World) (ps qs : List (Value × Rg)) (k : Nat) : Prop where
  len : qs.length = k
  eq : lads qs = (lads ps).take k
  row : wr.ownsRow w.heap.size 58 3 (.slice (some ⟨w.heap.size, 0, none⟩) ps.length ps.length) ps.length (cellsR (qs ++ List.replicate (ps.length - k) zR))
  els : ∀ p ∈ qs, OwnN wr w.heap.size p.1 p.2.logic
  apart : qs.Pairwise fun p q => p.1.ownBlock = none ∨ p.1.ownBlock ≠ q.1.ownBlock
  bel : Below w.heap.size w wr
theorem TS.first {w wr : World} {ps : List (Value × Rg)} (h : wr.ownsRow w.heap.size 58 3 (.slice (some ⟨w.heap.size, 0, none⟩) ps.length ps.length) ps.length (cellsR (List.replicate ps.length zR))) (hb : Below w.heap.size w wr) : TS w wr ps [] 0 :=
  ⟨rfl, by simp [lads], by simpa using h, by simp, List.Pairwise.nil, hb⟩
theorem TS.step {w wr w2 : World} {ps qs : List (Value × Rg)} {k : Nat} {A : Option Addr} {c : Nat} {lg : List Nd} {x y : Int} (h : TS w wr ps qs k) (hk : k < ps.length) (hp : ps[k].2 = ⟨lg, x, y⟩) (hb : Below wr.heap.size wr w2) (hO : OwnN w2 wr.heap.size (.slice A lg.length c) lg) :
    TS w (((w2.setCell ⟨w.heap.size, k * 3, none⟩ (.slice A lg.length c)).setCell ⟨w.heap.size, k * 3 + 1, none⟩ (.int .i64 x)).setCell ⟨w.heap.size, k * 3 + 2, none⟩ (.int .i64 y)) ps (qs ++ [(.slice A lg.length c, ⟨lg, x, y⟩)]) (k + 1) := by
  have hw : w.heap.size < wr.heap.size := by
    have := h.row.lt w.heap.size rfl
    exact this.2
  have r0 := own_below h.row hb
  have s1 := r0.stored (k * 3) (.slice A lg.length c)
  have s2 := s1.1.stored (k * 3 + 1) (.int .i64 x)
  have s3 := s2.1.stored (k * 3 + 2) (.int .i64 y)
  have hg := gb_trans (gb_trans s1.2 s2.2) s3.2
  have hrow := s3.1
  rw [show ps.length - k = (ps.length - (k + 1)) + 1 by omega, List.replicate_succ, cellsR_set3 qs _ zR _ lg x y k h.len] at hrow
  refine ⟨by simp [h.len], ?_, ?_, ?_, ?_, ?_⟩
  · rw [lads_app, h.eq, List.take_succ_eq_append_getElem (by simpa [lads] using hk)]
    simp [lads, hp]
  · rw [List.append_assoc]; exact hrow
  · intro p hp'
    rcases List.mem_append.1 hp' with hp' | hp'
    · exact World.ownsRow.kept (own_below (h.els p hp') hb) hg (own_ne (own_below (h.els p hp') hb) r0 (by decide))
    · obtain rfl := List.mem_singleton.1 hp'
      exact mono_own (World.ownsRow.kept hO hg (own_ne hO r0 (by decide))) (by omega)
  · rw [List.pairwise_append]
    refine ⟨h.apart, by simp, fun p hp' q hq => ?_⟩
    obtain rfl := List.mem_singleton.1 hq
    cases e : p.1.ownBlock with
    | none => exact .inl rfl
    | some g =>
      right
      intro e2
      have l1 := ((h.els p hp').lt g e).2
      have l2 := (hO.lt g e2.symm).1
      omega
  · exact (((h.bel.trans (hb.mono h.bel.size)).setCell (p := ⟨w.heap.size, k * 3, none⟩) (Nat.le_refl _) _).setCell (p := ⟨w.heap.size, k * 3 + 1, none⟩) (Nat.le_refl _) _).setCell (p := ⟨w.heap.size, k * 3 + 2, none⟩) (Nat.le_refl _) _
def TLP (rs : List Rg) (w : World) (e : Ending) (w' : World) : Prop := ∃ A c qs, e = .returned (.slice A qs.length c) ∧ lads qs = rs ∧ XL w' w.heap.size w'.heap.size (.slice A qs.length c) qs ∧ Below w.heap.size w w'
theorem TS.last {w wr : World} {ps qs : List (Value × Rg)} (h : TS w wr ps qs ps.length) (hf : ∀ p ∈ ps, rgFit p.2 ∧ ∀ x ∈ p.2.logic, ndFit x) (hs : ps.length ≤ 1048576 ∧ ∀ p ∈ ps, p.2.logic.length ≤ 1048576) :
    TLP (lads ps) w (.returned (.slice (some ⟨w.heap.size, 0, none⟩) ps.length ps.length)) wr := by
  have he : lads qs = lads ps := by rw [h.eq, List.take_of_length_le (by simp [lads])]
  have hm : ∀ p ∈ qs, ∃ q ∈ ps, q.2 = p.2 := by
    intro p hp
    have : p.2 ∈ lads ps := by rw [← he]; exact List.mem_map_of_mem hp
    simpa [lads] using List.mem_map.1 this
  refine ⟨some ⟨w.heap.size, 0, none⟩, ps.length, qs, by rw [h.len], he, ⟨?_, fun p hp => OwnX.of (h.els p hp), h.apart, fun p hp => ?_, ⟨by rw [h.len]; exact hs.1, fun p hp => ?_⟩, Nat.le_refl _⟩, h.bel⟩
  · have := OwnX.of h.row
    rw [h.len]
    simpa using this
  · obtain ⟨q, hq, e⟩ := hm p hp; rw [← e]; exact hf q hq
  · obtain ⟨q, hq, e⟩ := hm p hp; rw [← e]; exact hs.2 q hq
set_option maxHeartbeats 2000000 in
theorem toRungS_any (v : Value) (ps : List (Value × Rg)) (w : World) (h : LadR w w.heap.size v ps) (hs : ps.length ≤ 1048576 ∧ ∀ p ∈ ps, p.2.logic.length ≤ 1048576) :
    Calls Try.prog 71 #[v] w (TLP (lads ps) w) := by
  have HF := Lib.hid (show ∀ p ∈ ps, rgFit p.2 ∧ ∀ x ∈ p.2.logic, ndFit x by obtain ⟨_, _, _, _, _, h3⟩ := h; exact fun p hp => ⟨(h3 p hp).2, (h3 p hp).1.fitL⟩)
  have HS := Lib.hid hs
  have hs1 := hs.1
  obtain ⟨A, c, rfl, hr, hl, h3⟩ := h
  have H3 := Lib.hid h3
  clear h3 hs
  go_enter Try.func71, Try.ntmps71
  go_wp2_with (at_make; refine wpl_make rfl _ _ 64 rfl elL ps.length rfl rfl ?c1 ?c2 ?_)
  case c1 => omega
  case c2 => omega
  intro w1 hown hb1
  rw [made3] at hown
  have hT := TS.first hown hb1
  clear hown hb1
  go_wp2
  go_loopw [4] (fun i wr => ∃ (k : Nat) (qs : List (Value × Rg)), k ≤ ps.length ∧ i = .int .i64 k ∧ TS w wr ps qs k) (fun i _ => ps.length - (intOf i).toNat)
  case atStart => exact ⟨0, [], by omega, rfl, hT⟩
  case round =>
    obtain ⟨k, qs, hk, rfl, hT'⟩ := hrel
    clear hT
    have hbr := hT'.bel
    have hsz := hbr.size
    by_cases hlt : k < ps.length
    · obtain ⟨p, rfl, hpb, c0, c1, c2⟩ := hr.three hlt
      obtain ⟨hn, hf⟩ := H3.out ps[k] (List.getElem_mem hlt)
      have hlg := HS.out.2 ps[k] (List.getElem_mem hlt)
      have HST := Lib.hid (fun (w2 : World) (A : Option Addr) (c : Nat) (lg : List Nd) (x y : Int) (hp : ps[k].2 = ⟨lg, x, y⟩) (hb : Below wr.heap.size wr w2) (hO : OwnN w2 wr.heap.size (.slice A lg.length c) lg) => TS.step hT' hlt hp hb hO)
      have hrow := hT'.row
      have hql := hT'.len
      obtain ⟨x, hx⟩ : ∃ x, x = ps[k] := ⟨_, rfl⟩
      rw [← hx] at c0 c1 c2 hn hf hlg HST
      clear hx
      obtain ⟨u, r⟩ := x
      simp only at c0 c1 c2 hn hf hlg HST
      have hlt' := hn
      obtain ⟨Au, cu, rfl, -⟩ := hlt'
      have g0 := (hbr.cell (p := p.add (k * 3)) (by rw [add_block]; exact hpb)).trans c0
      have g1 := (hbr.cell (p := ⟨(p.add (k * 3)).block, (p.add (k * 3)).off + 1, none⟩) (by show (p.add (k * 3)).block < _; rw [add_block]; exact hpb)).trans c1
      have g2 := (hbr.cell (p := ⟨(p.add (k * 3)).block, (p.add (k * 3)).off + 2, none⟩) (by show (p.add (k * 3)).block < _; rw [add_block]; exact hpb)).trans c2
      have HN := Lib.hid (hn.keep (fun _ hp => hbr.cell hp) hsz : NodesR wr wr.heap.size _ r.logic)
      obtain ⟨lg, co, ki⟩ := r
      simp only at g0 g1 g2 HN hlg HST
      have i1 : (k : Int) < (ps.length : Int) := by omega
      clear c0 c1 c2 hn hf hr hT'
      go_wp2_with fail
      refine (toRung_any Au cu lg co ki _ HN.out hlg).mono ?_
      rintro e w2 ⟨A2, d2, rfl, hO2, hb2⟩
      have HT2 := Lib.hid (HST.out w2 A2 d2 lg co ki rfl hb2 hO2)
      have r0 := own_below hrow hb2
      have y0 := r0.cellAt (k * 3) (by omega)
      have y1 := r0.cellAt (k * 3 + 1) (by omega)
      have y2 := r0.cellAt (k * 3 + 2) (by omega)
      have z0 := r0.frozenAt (k * 3)
      have z1 := r0.frozenAt (k * 3 + 1)
      have z2 := r0.frozenAt (k * 3 + 2)
      have hcl : (cellsR (qs ++ List.replicate (ps.length - k) zR)).length = ps.length * 3 := by rw [cellsR_length]; simp [hql]; omega
      obtain ⟨u0, hu0⟩ : ∃ u, (cellsR (qs ++ List.replicate (ps.length - k) zR))[k * 3]? = some u := ⟨_, List.getElem?_eq_getElem (by omega)⟩
      obtain ⟨u1, hu1⟩ : ∃ u, (cellsR (qs ++ List.replicate (ps.length - k) zR))[k * 3 + 1]? = some u := ⟨_, List.getElem?_eq_getElem (by omega)⟩
      obtain ⟨u2, hu2⟩ : ∃ u, (cellsR (qs ++ List.replicate (ps.length - k) zR))[k * 3 + 2]? = some u := ⟨_, List.getElem?_eq_getElem (by omega)⟩
      rw [hu0] at y0
      rw [hu1] at y1
      rw [hu2] at y2
      clear hu0 hu1 hu2 hcl r0 hrow hql hO2 HST HN hb2 hbr
      go_wp2
      go_roundw
      case rel => exact ⟨k + 1, _, by omega, by go_num, HT2.out⟩
      case measure => simp [intOf]; omega
    · go_wp2
      go_ret
      obtain rfl : k = ps.length := by omega
      exact hT'.last HF.out HS.out
set_option maxRecDepth 100000 in
set_option maxHeartbeats 1000000 in
theorem eqRungS_same (v1 v2 : Value) (ps qs : List (Value × Rg)) (w : World) (h1 : LadR w w.heap.size v1 ps) (h2 : LadR w w.heap.size v2 qs) (he : lads ps = lads qs) :
    Calls Try.prog 72 #[v1, v2] w fun e w' => e = .returned (.bool true) ∧ Below w.heap.size w w' := by
  obtain ⟨A, c, rfl, hr, hl, h3⟩ := h1
  obtain ⟨A2, c2, rfl, hr2, hl2, h4⟩ := h2
  have H3 := Lib.hid h3
  have H4 := Lib.hid h4
  have Hne := Lib.hid (show ps.length = qs.length by simpa [lads] using congrArg List.length he)
  have Hat := Lib.hid (show ∀ (k : Nat) (h : k < ps.length) (h' : k < qs.length), ps[k].2 = qs[k].2 from fun k h h' => by
    have := congrArg (fun l => l[k]?) he
    simpa [lads, h, h'] using this)
  have hq : ((ps.length : Int) != (qs.length : Int)) = false := by rw [bne_eq_false_iff_eq]; have := Hne.out; omega
  clear h3 h4 he
  go_enter Try.func72, Try.ntmps72
  go_wp2
  go_loopw [5] (fun i wr => ∃ k : Nat, k ≤ ps.length ∧ i = .int .i64 k ∧ Below w.heap.size w wr) (fun i _ => ps.length - (intOf i).toNat)
  case atStart => exact ⟨0, by omega, rfl, Below.refl _ _⟩
  case round =>
    obtain ⟨k, hk, rfl, hbr⟩ := hrel
    have hsz := hbr.size
    by_cases hlt : k < ps.length
    · have hlt2 : k < qs.length := by have := Hne.out; omega
      obtain ⟨p, rfl, hpb, c0, c1, c2'⟩ := hr.three hlt
      obtain ⟨p2, rfl, hpb2, d0, d1, d2⟩ := hr2.three hlt2
      obtain ⟨hn, hf⟩ := H3.out ps[k] (List.getElem_mem hlt)
      obtain ⟨hn2, hf2⟩ := H4.out qs[k] (List.getElem_mem hlt2)
      have hat := Hat.out k hlt hlt2
      have g0 := (hbr.cell (p := p.add (k * 3)) (by rw [add_block]; exact hpb)).trans c0
      have g1 := (hbr.cell (p := ⟨(p.add (k * 3)).block, (p.add (k * 3)).off + 1, none⟩) (by show (p.add (k * 3)).block < _; rw [add_block]; exact hpb)).trans c1
      have g2 := (hbr.cell (p := ⟨(p.add (k * 3)).block, (p.add (k * 3)).off + 2, none⟩) (by show (p.add (k * 3)).block < _; rw [add_block]; exact hpb)).trans c2'
      have e0 := (hbr.cell (p := p2.add (k * 3)) (by rw [add_block]; exact hpb2)).trans d0
      have e1 := (hbr.cell (p := ⟨(p2.add (k * 3)).block, (p2.add (k * 3)).off + 1, none⟩) (by show (p2.add (k * 3)).block < _; rw [add_block]; exact hpb2)).trans d1
      have e2 := (hbr.cell (p := ⟨(p2.add (k * 3)).block, (p2.add (k * 3)).off + 2, none⟩) (by show (p2.add (k * 3)).block < _; rw [add_block]; exact hpb2)).trans d2
      obtain ⟨x, hx⟩ : ∃ x, x = ps[k] := ⟨_, rfl⟩
      obtain ⟨y, hy⟩ : ∃ y, y = qs[k] := ⟨_, rfl⟩
      rw [← hx] at g0 g1 g2 hn hf hat
      rw [← hy] at e0 e1 e2 hn2 hf2 hat
      clear hx hy c0 c1 c2' d0 d1 d2 hr hr2
      obtain ⟨u, r⟩ := x
      obtain ⟨u2, r2⟩ := y
      simp only at hat
      subst hat
      simp only at g0 g1 g2 e0 e1 e2 hn hn2 hf hf2
      have t1 := hn
      have t2 := hn2
      obtain ⟨Au, cu, rfl, -⟩ := t1
      obtain ⟨Av, cv, rfl, -⟩ := t2
      have HC1 := Lib.hid (show RungR wr.drew wr.drew.heap.size (rgV (.slice Au r.logic.length cu) r) r from RungR.below ⟨_, rfl, hn.keep (fun _ hp => hbr.cell hp) hsz, hf⟩ (Below.refl _ _).drew)
      have HC2 := Lib.hid (show RungR wr.drew wr.drew.heap.size (rgV (.slice Av r.logic.length cv) r) r from RungR.below ⟨_, rfl, hn2.keep (fun _ hp => hbr.cell hp) hsz, hf2⟩ (Below.refl _ _).drew)
      have HC := Lib.hid (eqRung_same _ _ r _ HC1.out HC2.out)
      obtain ⟨lg, co, ki⟩ := r
      unfold rgV at HC
      simp only at g0 g1 g2 e0 e1 e2 HC
      have i1 : (k : Int) < (ps.length : Int) := by omega
      have i2 : (k : Int) < (qs.length : Int) := by omega
      clear hn hn2 hf hf2 HC1 HC2
      go_wp2_with fail
      go_still_tail 8, (by kernel_rfl)
      go_wp2_with fail
      refine HC.out.mono ?_
      rintro e w2 ⟨rfl, hb2⟩
      have hb3 : Below w.heap.size w w2 := hbr.drew.trans (hb2.mono (by show w.heap.size ≤ wr.heap.size; exact hsz))
      go_wp2
      go_roundw
      case rel => exact ⟨k + 1, by omega, by go_num, hb3⟩
      case measure => simp [intOf]; omega
    · go_wp2
      go_ret
      exact ⟨rfl, hbr⟩
def sumL : List Rg → Nat
  | [] => 0
  | r :: rs => r.logic.length + sumL rs
theorem sumL_app (a b : List Rg) : sumL (a ++ b) = sumL a + sumL b := by
  induction a with
  | nil => simp [sumL]
  | cons r a ih =>
    show r.logic.length + sumL (a ++ b) = (r.logic.length + sumL a) + sumL b
    omega
theorem sumL_take (rs : List Rg) (k : Nat) (h : k < rs.length) : sumL (rs.take (k + 1)) = sumL (rs.take k) + rs[k].logic.length := by
  rw [List.take_succ_eq_append_getElem h, sumL_app]; simp [sumL]
theorem sumL_le (rs : List Rg) (k : Nat) : sumL (rs.take k) ≤ sumL rs := by
  have := sumL_app (rs.take k) (rs.drop k)
  rw [List.take_append_drop] at this
  omega
theorem cellsR_set2 (a b : List (Value × Rg)) (z : Value × Rg) (x y : Int) (k : Nat) (hk : a.length = k) :
    ((cellsR (a ++ z :: b)).set (k * 3 + 1) (.int .i64 x)).set (k * 3 + 2) (.int .i64 y) = cellsR (a ++ (z.1, ⟨z.2.logic, x, y⟩) :: b) := by
  have hl : (cellsR a).length = k * 3 := by rw [cellsR_length, hk]
  rw [cellsR_append, cellsR_append, cellsR_cons, cellsR_cons]
  rw [List.set_append_right _ _ (by omega), List.set_append_right _ _ (by omega), hl]
  simp
/-- The marks so far: j rungs. -/
structure MS (w wr : World) (lo hi : Nat) (A : Option Addr) (n c : Nat) (qs ms : List (Value × Rg)) (j : Nat) : Prop where
  len : ms.length = j
  row : wr.ownsRow lo 58 3 (.slice A n c) n (cellsR (ms ++ qs.drop j))
  els : ∀ p ∈ qs.drop j, OwnX wr lo hi 92 2 p.1 p.2.logic.length (cellsN p.2.logic)
  bel : Out lo hi w wr
theorem MS.step {w wr w2 : World} {lo hi g n c j : Nat} {qs ms : List (Value × Rg)} {x y : Int} (h : MS w wr lo hi (some ⟨g, 0, none⟩) n c qs ms j) (hj : j < qs.length) (ap : qs.Pairwise fun p q => p.1.ownBlock = none ∨ p.1.ownBlock ≠ q.1.ownBlock)
    (hlo : lo ≤ g ∧ g < hi) (ho : Out lo hi wr w2) (hg : wr.grownBy w2 qs[j].1.ownBlock) :
    MS w ((w2.setCell ⟨g, j * 3 + 1, none⟩ (.int .i64 x)).setCell ⟨g, j * 3 + 2, none⟩ (.int .i64 y)) lo hi (some ⟨g, 0, none⟩) n c qs (ms ++ [(qs[j].1, ⟨qs[j].2.logic, x, y⟩)]) (j + 1) ∧ w2.ownsRow lo 58 3 (.slice (some ⟨g, 0, none⟩) n c) n (cellsR (ms ++ qs.drop j)) := by
  have hd : qs.drop j = qs[j] :: qs.drop (j + 1) := List.drop_eq_getElem_cons hj
  have hel := h.els
  rw [hd] at hel
  have h0 := hel qs[j] List.mem_cons_self
  have r0 := World.ownsRow.kept h.row hg (own_ne h.row h0.1 (by decide))
  have r0' := r0
  have s2 := r0.stored (j * 3 + 1) (.int .i64 x)
  have s3 := s2.1.stored (j * 3 + 2) (.int .i64 y)
  have hgg := gb_trans s2.2 s3.2
  have hrow := s3.1
  have hset : ((cellsR (ms ++ qs.drop j)).set (j * 3 + 1) (.int .i64 x)).set (j * 3 + 2) (.int .i64 y) = cellsR (ms ++ (qs[j].1, ⟨qs[j].2.logic, x, y⟩) :: qs.drop (j + 1)) := by
    rw [hd]; exact cellsR_set2 ms (qs.drop (j + 1)) qs[j] x y j h.len
  rw [hset] at hrow
  refine ⟨⟨by simp [h.len], by rw [List.append_assoc]; exact hrow, fun p hp => ?_, (h.bel.trans ho).trans (out_of_gb hgg (fun k hk => by injection hk with hk; omega))⟩, r0'⟩
  have hp1 := hel p (List.mem_cons_of_mem _ hp)
  have hne : p.1.ownBlock = none ∨ p.1.ownBlock ≠ qs[j].1.ownBlock := by
    have ap2 : (qs.drop j).Pairwise _ := ap.drop
    rw [hd, List.pairwise_cons] at ap2
    rcases ap2.1 p hp with e | e
    · rw [e]
      cases p.1.ownBlock with
      | none => exact .inl rfl
      | some g => exact .inr (by simp)
    · exact .inr (Ne.symm e)
  have hp2 := World.ownsRow.kept hp1.1 hg hne
  exact ⟨World.ownsRow.kept hp2 hgg (own_ne hp2 r0' (by decide)), hp1.2⟩
set_option maxHeartbeats 2000000 in
theorem markRungS_any (v : Value) (qs : List (Value × Rg)) (k lo hi : Nat) (w : World) (h : XL w lo hi v qs) (hk : k ≤ 100000000) (hs : sumL (lads qs) ≤ 1048576) :
    Calls Try.prog 73 #[v, .int .i64 k] w fun e w' => e = .returned (.int .i64 ((k + 2 * sumL (lads qs) + 2 * qs.length : Nat) : Int)) ∧ Out lo hi w w' := by
  have hsz := h.sz
  have HA := Lib.hid h.apart
  have hi0 := h.row.2
  have hls : (lads qs).length = qs.length := by simp [lads]
  obtain ⟨A, c, rfl, -, -⟩ := own_form h.row.1
  have hM : MS w w lo hi A qs.length c qs [] 0 := ⟨rfl, by simpa using h.row.1, by simpa using h.els, Out.refl _ _ _⟩
  clear h
  go_enter Try.func73, Try.ntmps73
  go_wp2
  go_loopw [1, 5] (fun t i wr => ∃ (j : Nat) (ms : List (Value × Rg)), j ≤ qs.length ∧ i = .int .i64 j ∧ t = .int .i64 ((k + 2 * sumL ((lads qs).take j) + 2 * j : Nat) : Int) ∧ MS w wr lo hi A qs.length c qs ms j) (fun _ i _ => qs.length - (intOf i).toNat)
  case atStart => exact ⟨0, [], by omega, rfl, by simp [sumL], hM⟩
  case round =>
    obtain ⟨j, ms, hj, rfl, rfl, hM'⟩ := hrel
    clear hM
    by_cases hlt : j < qs.length
    · obtain ⟨g, rfl, hg1, hg2⟩ := own_addr hM'.row (by omega)
      have hgh := hi0 g rfl
      have hst := sumL_take (lads qs) j (by omega)
      have hsl := sumL_le (lads qs) (j + 1)
      have hlen : (lads qs)[j]'(by omega) = qs[j].2 := by simp [lads]
      rw [hlen] at hst
      have hel := hM'.els qs[j] (by rw [List.drop_eq_getElem_cons hlt]; exact List.mem_cons_self)
      have HST := Lib.hid (fun (w2 : World) (x y : Int) (ho : Out lo hi wr w2) (hg : wr.grownBy w2 qs[j].1.ownBlock) => MS.step (x := x) (y := y) hM' hlt HA.out ⟨hg1, hgh⟩ ho hg)
      have hml := hM'.len
      have hcl : (ms ++ qs.drop j).length = qs.length := by simp [hml]; omega
      obtain ⟨k0, k1, k2⟩ := cellsR_at (ms ++ qs.drop j) j (by omega)
      have hat : (ms ++ qs.drop j)[j]'(by omega) = qs[j] := by rw [List.getElem_append_right (by omega)]; simp [hml]
      rw [hat] at k0 k1 k2
      have y0 := (hM'.row.cellAt (j * 3) (by omega)).trans k0
      have y1 := (hM'.row.cellAt (j * 3 + 1) (by omega)).trans k1
      have y2 := (hM'.row.cellAt (j * 3 + 2) (by omega)).trans k2
      clear hat hcl hml hM' hlen
      obtain ⟨K, hK⟩ : ∃ K : Nat, K = k + 2 * sumL ((lads qs).take j) + 2 * j := ⟨_, rfl⟩
      rw [← hK]
      obtain ⟨x, hx⟩ : ∃ x, x = qs[j] := ⟨_, rfl⟩
      rw [← hx] at hst hel HST k0 k1 k2 y0 y1 y2
      clear hx
      obtain ⟨u, r⟩ := x
      simp only at hst hel HST k0 k1 k2 y0 y1 y2
      have hf := hel.1
      obtain ⟨Au, cu, rfl, -, -⟩ := own_form hf
      obtain ⟨lg, co, ki⟩ := r
      simp only at hst hel HST k0 k1 k2 y0 y1 y2
      have hK2 : K ≤ 1000000000 := by omega
      have hll : lg.length ≤ 1048576 := by omega
      have HEQ := Lib.hid (show k + 2 * sumL ((lads qs).take (j + 1)) + 2 * (j + 1) = K + 2 * lg.length + 2 by omega)
      have i1 : (j : Int) < (qs.length : Int) := by omega
      clear hst hsl hK hf
      go_wp2_with fail
      refine (markNodeS_any _ lg K lo hi _ hel (by omega) (by omega)).mono ?_
      rintro e w2 ⟨rfl, -, ho2, hgr⟩
      have HT := Lib.hid (HST.out w2 ((K + 2 * lg.length : Nat) : Int) ((K + 2 * lg.length + 1 : Nat) : Int) ho2 hgr).1
      have r0 := (HST.out w2 0 0 ho2 hgr).2
      have x0 := (r0.cellAt (j * 3) (by omega)).trans k0
      have x1 := (r0.cellAt (j * 3 + 1) (by omega)).trans k1
      have x2 := (r0.cellAt (j * 3 + 2) (by omega)).trans k2
      have z0 := r0.frozenAt (j * 3)
      have z1 := r0.frozenAt (j * 3 + 1)
      have z2 := r0.frozenAt (j * 3 + 2)
      clear r0 HST hel k0 k1 k2 ho2 hgr y0 y1 y2
      go_wp2
      go_roundw
      case rel => exact ⟨j + 1, _, by omega, by go_num, by rw [HEQ.out]; go_num, by have := HT.out; simpa using this⟩
      case measure => simp [intOf]; omega
    · go_wp2
      go_ret
      obtain rfl : j = qs.length := by omega
      refine ⟨?_, hM'.bel⟩
      rw [List.take_of_length_le (by omega)]
      first | rfl | go_num | (simp; done) | (simp; omega)
end Go.Proofs.Ytoagnajljdbobaa

namespace Go.Proofs.Ytoagnajljdbobaa
open Go.RowKit
attribute [local go_sem ↓] Go.wp_at_zero Go.wp_at_succ

/-- A rung of which only the cells are known. -/
structure Rw where
  a : Option Addr
  n : Nat
  c : Nat
  x : Int
  y : Int
def rw0 (q : Rw) : Value × Rg := (.slice q.a q.n q.c, ⟨[], q.x, q.y⟩)
def rwOK (w : World) (B : Nat) (q : Rw) : Prop := q.n ≤ 9223372036854775807 ∧ (fit64 q.x ∧ fit64 q.y) ∧ (q.n ≤ 1048576 → ∃ l : List Nd, l.length = q.n ∧ NodesR w B (.slice q.a q.n q.c) l)
def LadW (w : World) (B : Nat) (v : Value) (qs : List Rw) : Prop :=
  ∃ A c, v = .slice A qs.length c ∧ Rd w B 3 A qs.length (cellsR (qs.map rw0)) ∧ qs.length ≤ c ∧ ∀ q ∈ qs, rwOK w B q
def sumW : List Rw → Nat
  | [] => 0
  | q :: qs => q.n + sumW qs
theorem sumW_app (a b : List Rw) : sumW (a ++ b) = sumW a + sumW b := by
  induction a with
  | nil => simp [sumW]
  | cons r a ih =>
    show r.n + sumW (a ++ b) = (r.n + sumW a) + sumW b
    omega
theorem sumW_take (rs : List Rw) (k : Nat) (h : k < rs.length) : sumW (rs.take (k + 1)) = sumW (rs.take k) + rs[k].n := by
  rw [List.take_succ_eq_append_getElem h, sumW_app]; simp [sumW]
theorem strong_list (w : World) (B : Nat) (qs : List Rw) (h : ∀ q ∈ qs, rwOK w B q) (hs : sumW qs ≤ 1048576) :
    ∃ ps : List (Value × Rg), ps.length = qs.length ∧ cellsR ps = cellsR (qs.map rw0) ∧ (∀ p ∈ ps, NodesR w B p.1 p.2.logic ∧ rgFit p.2) ∧ sumL (lads ps) = sumW qs := by
  induction qs with
  | nil => exact ⟨[], rfl, rfl, by simp, rfl⟩
  | cons q qs ih =>
    have hs' : q.n + sumW qs ≤ 1048576 := hs
    obtain ⟨ps, e1, e2, e3, e4⟩ := ih (fun q hq => h q (List.mem_cons_of_mem _ hq)) (by omega)
    obtain ⟨-, hf, hl⟩ := h q List.mem_cons_self
    obtain ⟨l, el, hN⟩ := hl (by omega)
    refine ⟨(.slice q.a q.n q.c, ⟨l, q.x, q.y⟩) :: ps, by simp [e1], ?_, fun p hp => ?_, ?_⟩
    · rw [List.map_cons, cellsR_cons, cellsR_cons, e2]; rfl
    · rcases List.mem_cons.1 hp with rfl | hp
      · exact ⟨hN, hf⟩
      · exact e3 p hp
    · show l.length + sumL (lads ps) = q.n + sumW qs
      omega
theorem LadW.strong {w : World} {B : Nat} {A : Option Addr} {c n : Nat} {qs : List Rw} (h : LadW w B (.slice A n c) qs) (hn : qs.length = n) (hs : n + sumW qs ≤ 1048576) : ∃ ps, ps.length = n ∧ LadR w B (.slice A n c) ps ∧ sumL (lads ps) = sumW qs := by
  obtain ⟨A', c', e, hr, hc, hq⟩ := h
  injection e with e1 e2 e3
  subst e1; subst e3
  obtain ⟨ps, p1, p2, p3, p4⟩ := strong_list w B qs hq (by omega)
  have p1' : ps.length = n := by omega
  refine ⟨ps, p1', ⟨A, c, by rw [p1'], by rw [p2, p1]; exact hr, by omega, p3⟩, p4⟩
def SZP (A : Option Addr) (n c : Nat) (left : Int) (w : World) (e : Ending) (w' : World) : Prop :=
  ∃ r : Int, e = .returned (.int .i64 r) ∧ Below w.heap.size w w' ∧ (r = -1 ∨ ∃ ps : List (Value × Rg), ps.length = n ∧ LadR w w.heap.size (.slice A n c) ps ∧ (n : Int) + (sumL (lads ps) : Nat) ≤ left ∧ r = left - (n : Int) - (sumL (lads ps) : Nat))
set_option maxHeartbeats 2000000 in
theorem szRungS_any (A : Option Addr) (n c : Nat) (left : Int) (w : World) (hn : n ≤ 9223372036854775807) (h1 : 0 ≤ left ∧ left ≤ 1048576) (f : n ≤ 1048576 → ∃ qs : List Rw, qs.length = n ∧ LadW w w.heap.size (.slice A n c) qs) :
    Calls Try.prog 70 #[.slice A n c, .int .i64 left] w (SZP A n c left w) := by
  by_cases h0 : left - n < 0
  · go_enter Try.func70, Try.ntmps70
    go_wp2
    go_ret
    exact ⟨-1, rfl, Below.refl _ _, .inl rfl⟩
  · obtain ⟨qs, hql, hW⟩ := f (by omega)
    have HS := Lib.hid (fun (h : n + sumW qs ≤ 1048576) => hW.strong hql h)
    obtain ⟨A', c', e, hr, hc, hq⟩ := hW
    injection e with e1 e2 e3
    subst e1; subst e3
    subst hql
    have HQ := Lib.hid hq
    clear hq e2 f
    go_enter Try.func70, Try.ntmps70
    go_wp2
    go_loopw [1, 5] (fun t i wr => ∃ k : Nat, k ≤ qs.length ∧ i = .int .i64 k ∧ t = .int .i64 (left - (qs.length : Int) - ((sumW (qs.take k) : Nat) : Int)) ∧ ((sumW (qs.take k) : Nat) : Int) ≤ left - (qs.length : Int) ∧ Below w.heap.size w wr) (fun _ i _ => qs.length - (intOf i).toNat)
    case atStart => exact ⟨0, by omega, rfl, by simp [sumW], by simp [sumW]; omega, Below.refl _ _⟩
    case round =>
      obtain ⟨k, hk, rfl, rfl, hle, hbr⟩ := hrel
      have hsz := hbr.size
      by_cases hlt : k < qs.length
      · have hr' : Rd w w.heap.size 3 A (qs.map rw0).length (cellsR (qs.map rw0)) := by rw [List.length_map]; exact hr
        obtain ⟨p, rfl, hpb, c0, c1, c2⟩ := hr'.three (k := k) (by rw [List.length_map]; exact hlt)
        rw [List.getElem_map] at c0 c1 c2
        obtain ⟨hqn, hqf, -⟩ := HQ.out qs[k] (List.getElem_mem hlt)
        have hst := sumW_take qs k hlt
        have g0 := (hbr.cell (p := p.add (k * 3)) (by rw [add_block]; exact hpb)).trans c0
        have g1 := (hbr.cell (p := ⟨(p.add (k * 3)).block, (p.add (k * 3)).off + 1, none⟩) (by show (p.add (k * 3)).block < _; rw [add_block]; exact hpb)).trans c1
        have g2 := (hbr.cell (p := ⟨(p.add (k * 3)).block, (p.add (k * 3)).off + 2, none⟩) (by show (p.add (k * 3)).block < _; rw [add_block]; exact hpb)).trans c2
        obtain ⟨x, hx⟩ : ∃ x, x = qs[k] := ⟨_, rfl⟩
        rw [← hx] at g0 g1 g2 hqn hqf hst
        clear hx c0 c1 c2 hr'
        obtain ⟨a1, n1, d1, x1, y1⟩ := x
        unfold rw0 at g0 g1 g2
        simp only at g0 g1 g2 hqn hqf hst
        obtain ⟨S, hS⟩ : ∃ S : Nat, S = sumW (qs.take k) := ⟨_, rfl⟩
        rw [← hS] at hle hst ⊢
        have i1 : (k : Int) < (qs.length : Int) := by omega
        by_cases hov : (n1 : Int) ≤ left - (qs.length : Int) - (S : Int)
        · have q0 : 0 ≤ left - (qs.length : Int) - (S : Int) - (n1 : Int) := by omega
          have HST := Lib.hid hst
          clear hS hst hr
          go_wp2_with fail
          refine (szRung_in a1 n1 d1 x1 y1 _ _ ⟨hov, by omega⟩).mono ?_
          rintro e w2 ⟨rfl, hb2⟩
          have hbr2 := hbr.trans (hb2.mono hsz)
          go_wp2
          go_roundw
          case rel => exact ⟨k + 1, by omega, by go_num, by rw [HST.out]; congr 1; omega, by rw [HST.out]; omega, hbr2⟩
          case measure => simp [intOf]; omega
        · clear hS hst hr
          go_wp2_with fail
          refine (szRung_over a1 n1 d1 x1 y1 _ _ hqn ⟨by omega, by omega, by omega⟩).mono ?_
          rintro e w2 ⟨rfl, hb2⟩
          have hbr2 := hbr.trans (hb2.mono hsz)
          go_wp2
          go_ret
          exact ⟨-1, rfl, hbr2, .inl rfl⟩
      · obtain rfl : k = qs.length := by omega
        rw [List.take_length] at hle ⊢
        go_wp2
        go_ret
        obtain ⟨ps, p1, p2, p3⟩ := HS.out (by omega)
        exact ⟨_, rfl, hbr, .inr ⟨ps, p1, p2, by rw [p3]; omega, by rw [p3]⟩⟩
end Go.Proofs.Ytoagnajljdbobaa
