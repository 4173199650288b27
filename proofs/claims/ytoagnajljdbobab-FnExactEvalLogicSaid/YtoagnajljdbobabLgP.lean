/- Plain facts on logic expressions in postfix form: their validity, their evaluation in any algebra, tables of 64 rows in one number. Nothing of the translated program. -/
import Derived.WalkKit
import Derived.Laws.BitsAllLaws
namespace Go.Proofs.Ytoagnajljdbobab
open Go.RowKit

/-- An element of an expression. -/
structure Nd where
  op : Int
  bit : Int
deriving DecidableEq

/-- How many values an operation takes; -1: unknown. -/
def need (op : Int) : Int := if op = 2 then 1 else if op = 3 ∨ op = 4 ∨ op = 5 then 2 else if op = 1 ∨ op = 6 ∨ op = 7 then 0 else -1
def bitOK (x : Nd) (bits : Int) : Bool := if x.op = 1 then decide (0 ≤ x.bit) && decide (x.bit < bits) else decide (x.bit = 0)
def ndOK (bits : Int) (x : Nd) (d : Nat) : Bool := decide (0 ≤ need x.op) && bitOK x bits && decide (need x.op ≤ d)
def depStep (bits : Int) (d : Nat) (x : Nd) : Option Nat := if ndOK bits x d then some (d + 1 - (need x.op).toNat) else none
def depOf (bits : Int) (l : List Nd) (d : Nat) : Option Nat := l.foldlM (depStep bits) d
def lvalid (l : List Nd) (bits : Int) : Bool := decide (l.length ≤ 24) && decide (depOf bits l 0 = some 1)

theorem depOf_nil (bits : Int) (d : Nat) : depOf bits [] d = some d := rfl
theorem depOf_cons (bits : Int) (x : Nd) (l : List Nd) (d : Nat) : depOf bits (x :: l) d = if ndOK bits x d then depOf bits l (d + 1 - (need x.op).toNat) else none := by
  unfold depOf; rw [List.foldlM_cons]; unfold depStep; split <;> rfl
theorem depOf_append (bits : Int) (a b : List Nd) (d : Nat) : depOf bits (a ++ b) d = (depOf bits a d).bind (depOf bits b) := by
  unfold depOf; rw [List.foldlM_append]; rfl
theorem depOf_snoc (bits : Int) (l : List Nd) (x : Nd) (d e : Nat) (h : depOf bits l d = some e) : depOf bits (l ++ [x]) d = if ndOK bits x e then some (e + 1 - (need x.op).toNat) else none := by
  rw [depOf_append, h]; show depOf bits [x] e = _; rw [depOf_cons]; rfl
theorem take_snocN {α : Type} (l : List α) (k : Nat) (h : k < l.length) : l.take (k + 1) = l.take k ++ [l[k]] := by
  rw [List.take_succ_eq_append_getElem h]
theorem depOf_step (bits : Int) (l : List Nd) (k e : Nat) (hk : k < l.length) (h : depOf bits (l.take k) 0 = some e) (ho : ndOK bits l[k] e = true) : depOf bits (l.take (k + 1)) 0 = some (e + 1 - (need l[k].op).toNat) := by
  rw [take_snocN l k hk, depOf_snoc _ _ _ _ _ h, if_pos ho]
theorem depOf_stop (bits : Int) (l : List Nd) (k e : Nat) (hk : k < l.length) (h : depOf bits (l.take k) 0 = some e) (ho : ndOK bits l[k] e = false) : depOf bits l 0 = none := by
  have e1 : l = l.take (k + 1) ++ l.drop (k + 1) := (List.take_append_drop _ _).symm
  rw [e1, depOf_append, take_snocN l k hk, depOf_snoc _ _ _ _ _ h, ho]; rfl
theorem depOf_le (bits : Int) (l : List Nd) (d e : Nat) (h : depOf bits l d = some e) : e ≤ d + l.length := by
  induction l generalizing d with
  | nil => rw [depOf_nil] at h; injection h; simp; omega
  | cons x l ih =>
    rw [depOf_cons] at h
    split at h
    · have := ih _ h; simp; omega
    · cases h
theorem lvalid_false_of_dep {l : List Nd} {bits : Int} (h : depOf bits l 0 = none) : lvalid l bits = false := by unfold lvalid; simp [h]
theorem lvalid_false_of_dep1 {l : List Nd} {bits : Int} {d : Nat} (h : depOf bits l 0 = some d) (hd : d ≠ 1) : lvalid l bits = false := by unfold lvalid; simp [h, hd]
theorem lvalid_false_of_len {l : List Nd} {bits : Int} (h : 24 < l.length) : lvalid l bits = false := by unfold lvalid; simp; omega
theorem lvalid_true {l : List Nd} {bits : Int} (h1 : l.length ≤ 24) (h2 : depOf bits l 0 = some 1) : lvalid l bits = true := by unfold lvalid; simp [h1, h2]
theorem lvalid_len {l : List Nd} {bits : Int} (h : lvalid l bits = true) : l.length ≤ 24 := by unfold lvalid at h; simp at h; exact h.1
theorem lvalid_dep {l : List Nd} {bits : Int} (h : lvalid l bits = true) : depOf bits l 0 = some 1 := by unfold lvalid at h; simp at h; exact h.2
theorem lvalid_ne {l : List Nd} {bits : Int} (h : lvalid l bits = true) : 0 < l.length := by
  have := lvalid_dep h
  cases l with
  | nil => simp [depOf_nil] at this
  | cons => simp
/-- of the prefixes of a valid expression -/
theorem dep_prefix {l : List Nd} {bits : Int} {d e : Nat} (h : depOf bits l d = some e) (k : Nat) : ∃ f, depOf bits (l.take k) d = some f ∧ ∀ hk : k < l.length, ndOK bits l[k] f = true := by
  have e1 : l = l.take k ++ l.drop k := (List.take_append_drop _ _).symm
  rw [e1, depOf_append] at h
  cases hf : depOf bits (l.take k) d with
  | none => rw [hf] at h; cases h
  | some f =>
    refine ⟨f, rfl, fun hk => ?_⟩
    rw [hf] at h
    have h2 : depOf bits (l.drop k) f = some e := h
    rw [List.drop_eq_getElem_cons hk, depOf_cons] at h2
    by_cases ho : ndOK bits l[k] f = true
    · exact ho
    · rw [if_neg ho] at h2; cases h2
theorem bitOK_mono {x : Nd} {a b : Int} (h : bitOK x a = true) (hab : a ≤ b) : bitOK x b = true := by
  unfold bitOK at h ⊢; split at h <;> simp_all; omega
theorem ndOK_mono {x : Nd} {a b : Int} {d : Nat} (h : ndOK a x d = true) (hab : a ≤ b) : ndOK b x d = true := by
  unfold ndOK at h ⊢; simp at h ⊢; exact ⟨⟨h.1.1, bitOK_mono h.1.2 hab⟩, h.2⟩
theorem depOf_mono {l : List Nd} {a b : Int} {d e : Nat} (h : depOf a l d = some e) (hab : a ≤ b) : depOf b l d = some e := by
  induction l generalizing d with
  | nil => exact h
  | cons x l ih =>
    rw [depOf_cons] at h ⊢
    by_cases ho : ndOK a x d = true
    · rw [if_pos ho] at h; rw [if_pos (ndOK_mono ho hab)]; exact ih h
    · rw [if_neg ho] at h; cases h
theorem lvalid_mono {l : List Nd} {a b : Int} (h : lvalid l a = true) (hab : a ≤ b) : lvalid l b = true := lvalid_true (lvalid_len h) (depOf_mono (lvalid_dep h) hab)

/-- What an expression is evaluated in. -/
structure Alg (α : Type) where
  bit : Int → α
  no : α → α
  an : α → α → α
  or_ : α → α → α
  xo : α → α → α
  tt : α
  ff : α
/-- one element, the top of the stack ahead -/
def evStep {α : Type} (A : Alg α) (st : List α) (x : Nd) : List α :=
  if x.op = 1 then A.bit x.bit :: st
  else if x.op = 2 then (match st with | a :: r => A.no a :: r | r => r)
  else if x.op = 3 then (match st with | a :: b :: r => A.an b a :: r | r => r)
  else if x.op = 4 then (match st with | a :: b :: r => A.or_ b a :: r | r => r)
  else if x.op = 5 then (match st with | a :: b :: r => A.xo b a :: r | r => r)
  else if x.op = 6 then A.tt :: st
  else A.ff :: st
def ev {α : Type} (A : Alg α) (l : List Nd) (st : List α) : List α := l.foldl (evStep A) st
def val {α : Type} (A : Alg α) (l : List Nd) : α := (ev A l []).headD A.ff
theorem ev_snoc {α : Type} (A : Alg α) (l : List Nd) (x : Nd) (st : List α) : ev A (l ++ [x]) st = evStep A (ev A l st) x := by unfold ev; rw [List.foldl_append]; rfl
theorem evStep_len {α : Type} (A : Alg α) (bits : Int) (x : Nd) (st : List α) (h : ndOK bits x st.length = true) : (evStep A st x).length = st.length + 1 - (need x.op).toNat := by
  unfold ndOK need at h
  unfold evStep need
  rcases st with _ | ⟨a, _ | ⟨b, r⟩⟩ <;> repeat' split
  all_goals simp_all
  all_goals omega
theorem ev_len {α : Type} (A : Alg α) (bits : Int) (l : List Nd) (st : List α) (e : Nat) (h : depOf bits l st.length = some e) : (ev A l st).length = e := by
  induction l generalizing st with
  | nil => rw [depOf_nil] at h; injection h
  | cons x l ih =>
    rw [depOf_cons] at h
    by_cases ho : ndOK bits x st.length = true
    · rw [if_pos ho] at h
      show (ev A l (evStep A st x)).length = e
      exact ih _ (by rw [evStep_len A bits x st ho]; exact h)
    · rw [if_neg ho] at h; cases h
/-- A map that goes along with the operations goes along with the evaluation. -/
structure Hom {α β : Type} (f : α → β) (A : Alg α) (B : Alg β) (C : Int → Prop) : Prop where
  bit : ∀ k, C k → f (A.bit k) = B.bit k
  no : ∀ a, f (A.no a) = B.no (f a)
  an : ∀ a b, f (A.an a b) = B.an (f a) (f b)
  or_ : ∀ a b, f (A.or_ a b) = B.or_ (f a) (f b)
  xo : ∀ a b, f (A.xo a b) = B.xo (f a) (f b)
  tt : f A.tt = B.tt
  ff : f A.ff = B.ff
theorem evStep_map {α β : Type} {f : α → β} {A : Alg α} {B : Alg β} {C : Int → Prop} (H : Hom f A B C) (x : Nd) (st : List α) (hb : x.op = 1 → C x.bit) : (evStep A st x).map f = evStep B (st.map f) x := by
  unfold evStep
  rcases st with _ | ⟨a, _ | ⟨b, r⟩⟩
  all_goals
    by_cases h1 : x.op = 1
    · simp [h1, H.bit _ (hb h1)]
    · repeat' split
      all_goals simp_all [H.no, H.an, H.or_, H.xo, H.tt, H.ff]
theorem ev_map {α β : Type} {f : α → β} {A : Alg α} {B : Alg β} {C : Int → Prop} (H : Hom f A B C) (l : List Nd) (st : List α) (h : ∀ x ∈ l, x.op = 1 → C x.bit) : (ev A l st).map f = ev B l (st.map f) := by
  induction l generalizing st with
  | nil => rfl
  | cons x l ih =>
    show (ev A l (evStep A st x)).map f = ev B l (evStep B (st.map f) x)
    rw [← evStep_map H x st (h x (by simp))]
    exact ih _ (fun y hy => h y (by simp [hy]))
theorem val_map {α β : Type} {f : α → β} {A : Alg α} {B : Alg β} {C : Int → Prop} (H : Hom f A B C) {l : List Nd} (h : ∀ x ∈ l, x.op = 1 → C x.bit) : f (val A l) = val B l := by
  have h1 := ev_map H l [] h
  unfold val
  rw [← show (ev A l []).map f = ev B l [] from h1]
  cases ev A l [] with
  | nil => simp [H.ff]
  | cons a r => simp
theorem valid_bits {l : List Nd} {bits : Int} {d e : Nat} (h : depOf bits l d = some e) : ∀ x ∈ l, x.op = 1 → 0 ≤ x.bit ∧ x.bit < bits := by
  induction l generalizing d with
  | nil => simp
  | cons x l ih =>
    rw [depOf_cons] at h
    by_cases ho : ndOK bits x d = true
    · rw [if_pos ho] at h
      intro y hy h1
      rcases List.mem_cons.1 hy with rfl | hy
      · unfold ndOK bitOK at ho; simp [h1] at ho; exact ho.1.2
      · exact ih h y hy h1
    · rw [if_neg ho] at h; cases h

/-- truth values, the bits by a function -/
def boolAlg (b : Int → Bool) : Alg Bool := ⟨b, (!·), (· && ·), (· || ·), (· != ·), true, false⟩
/-- sets of 64 rows -/
def rowAlg (b : Int → Nat) : Alg Nat := ⟨b, fun a => 18446744073709551615 ^^^ a, (· &&& ·), (· ||| ·), (· ^^^ ·), 18446744073709551615, 0⟩
theorem testBit_all (x : Nat) (h : x < 64) : (18446744073709551615 : Nat).testBit x = true := by
  have e : (18446744073709551615 : Nat) = 2 ^ 64 - 1 := by decide
  rw [e, Nat.testBit_two_pow_sub_one]; simp [h]
theorem row_hom (c : Int → Nat) (x : Nat) (hx : x < 64) : Hom (fun v : Nat => v.testBit x) (rowAlg c) (boolAlg fun k => (c k).testBit x) (fun _ => True) where
  bit _ _ := rfl
  no a := by show (18446744073709551615 ^^^ a).testBit x = !a.testBit x; rw [Nat.testBit_xor, testBit_all x hx]; simp
  an a b := by show (a &&& b).testBit x = _; rw [Nat.testBit_and]; rfl
  or_ a b := by show (a ||| b).testBit x = _; rw [Nat.testBit_or]; rfl
  xo a b := by show (a ^^^ b).testBit x = _; rw [Nat.testBit_xor]; rfl
  tt := testBit_all x hx
  ff := by show Nat.testBit 0 x = false; simp
/-- the value of an expression for bits -/
def evb (l : List Nd) (b : Int → Bool) : Bool := val (boolAlg b) l
theorem val_row (c : Int → Nat) (l : List Nd) (x : Nat) (hx : x < 64) : (val (rowAlg c) l).testBit x = evb l fun k => (c k).testBit x :=
  val_map (row_hom c x hx) (fun _ _ _ => trivial)
theorem evb_congr {l : List Nd} (a b : Int → Bool) (h : ∀ x ∈ l, x.op = 1 → a x.bit = b x.bit) : evb l a = evb l b :=
  val_map (f := id) (A := boolAlg a) (B := boolAlg b) (C := fun k => a k = b k) ⟨fun _ h => h, fun _ => rfl, fun _ _ => rfl, fun _ _ => rfl, fun _ _ => rfl, rfl, rfl⟩ h
theorem evb_valid {l : List Nd} {bits : Int} (h : lvalid l bits = true) (a b : Int → Bool) (hab : ∀ k, 0 ≤ k → k < bits → a k = b k) : evb l a = evb l b :=
  evb_congr a b fun x hx h1 => by have := valid_bits (lvalid_dep h) x hx h1; exact hab _ this.1 this.2

/-- all cells of a stack are 64 rows -/
theorem evStep_lt (c : Int → Nat) (x : Nd) (st : List Nat) (hb : x.op = 1 → c x.bit < 18446744073709551616) (hs : ∀ v ∈ st, v < 18446744073709551616) : ∀ v ∈ evStep (rowAlg c) st x, v < 18446744073709551616 := by
  have a1 : ∀ a b : Nat, a < 18446744073709551616 → a &&& b < 18446744073709551616 := fun a b h => Nat.lt_of_le_of_lt Nat.and_le_left h
  have a2 : ∀ a b : Nat, a < 18446744073709551616 → b < 18446744073709551616 → a ||| b < 18446744073709551616 := fun a b h k => Nat.or_lt_two_pow (n := 64) h k
  have a3 : ∀ a b : Nat, a < 18446744073709551616 → b < 18446744073709551616 → a ^^^ b < 18446744073709551616 := fun a b h k => Nat.xor_lt_two_pow (n := 64) h k
  unfold evStep rowAlg
  rcases st with _ | ⟨a, _ | ⟨b, r⟩⟩
  all_goals
    repeat' split
    all_goals simp_all
theorem ev_lt (c : Int → Nat) (l : List Nd) (st : List Nat) (hb : ∀ x ∈ l, x.op = 1 → c x.bit < 18446744073709551616) (hs : ∀ v ∈ st, v < 18446744073709551616) : ∀ v ∈ ev (rowAlg c) l st, v < 18446744073709551616 := by
  induction l generalizing st with
  | nil => exact hs
  | cons x l ih => exact ih _ (fun y hy => hb y (by simp [hy])) (evStep_lt c x st (hb x (by simp)) hs)
theorem val_lt (c : Int → Nat) (l : List Nd) (hb : ∀ x ∈ l, x.op = 1 → c x.bit < 18446744073709551616) : val (rowAlg c) l < 18446744073709551616 := by
  have h := ev_lt c l [] hb (by simp)
  unfold val
  cases he : ev (rowAlg c) l [] with
  | nil => show (0 : Nat) < _; omega
  | cons a r => exact h a (by rw [he]; simp)

/-- The columns of a truth table. -/
def colN (k : Nat) : Nat := match k with
  | 0 => 12297829382473034410
  | 1 => 14757395258967641292
  | 2 => 17361641481138401520
  | 3 => 18374966859414961920
  | 4 => 18446462603027742720
  | 5 => 18446744069414584320
  | _ => 0
theorem colN_bit : ∀ k, k < 6 → ∀ x, x < 64 → (colN k).testBit x = x.testBit k := by decide
theorem colN_lt (k : Nat) : colN k < 18446744073709551616 := by unfold colN; split <;> omega
def colT (k : Int) : Nat := colN k.toNat
/-- the value in row x -/
def row (l : List Nd) (x : Nat) : Bool := evb l fun k => x.testBit k.toNat
def tabN (l : List Nd) : Nat := val (rowAlg colT) l
def tabL (l : List Nd) (n : Nat) : List Bool := (List.range (2 ^ n)).map (row l)
theorem tabN_lt (l : List Nd) : tabN l < 18446744073709551616 := val_lt colT l fun _ _ _ => colN_lt _
theorem tabN_bit {l : List Nd} {n : Int} (h : lvalid l n = true) (hn : n ≤ 6) (x : Nat) (hx : x < 64) : (tabN l).testBit x = row l x := by
  unfold tabN row
  rw [val_row colT l x hx]
  exact evb_valid h _ _ fun k h1 h2 => colN_bit k.toNat (by omega) x hx
theorem tabL_length (l : List Nd) (n : Nat) : (tabL l n).length = 2 ^ n := by simp [tabL]
theorem row_mod {l : List Nd} {n : Nat} (h : lvalid l n = true) (x : Nat) : row l (x % 2 ^ n) = row l x := by
  unfold row
  refine evb_valid h _ _ fun k h1 h2 => ?_
  rw [Nat.testBit_mod_two_pow]
  simp; omega
theorem row_add {l : List Nd} {n : Nat} (h : lvalid l n = true) (x : Nat) : row l (2 ^ n + x) = row l x := by
  rw [← row_mod h (2 ^ n + x), Nat.add_mod_left, row_mod h]
theorem tabL_succ {l : List Nd} {n : Nat} (h : lvalid l n = true) : tabL l (n + 1) = tabL l n ++ tabL l n := by
  unfold tabL
  rw [Nat.pow_succ, Nat.mul_two, List.range_add, List.map_append, List.map_map]
  congr 1
  apply List.map_congr_left
  intro x _
  exact row_add h x
theorem pow_le64 {n : Nat} (h : n ≤ 6) : 2 ^ n ≤ 64 := by
  have : 2 ^ n ≤ 2 ^ 6 := Nat.pow_le_pow_right (by omega) h
  omega
theorem rows_eq {a b : List Nd} {n : Nat} (ha : lvalid a n = true) (hb : lvalid b n = true) (hn : n ≤ 6) : decide (tabN a = tabN b) = decide (tabL a n = tabL b n) := by
  rw [decide_eq_decide]
  constructor
  · intro h
    unfold tabL
    apply List.map_congr_left
    intro x hx
    have := List.mem_range.1 hx
    have h6 := pow_le64 hn
    rw [← tabN_bit ha (by omega) x (by omega), ← tabN_bit hb (by omega) x (by omega), h]
  · intro h
    apply Nat.eq_of_testBit_eq
    intro x
    by_cases hx : x < 64
    · rw [tabN_bit ha (by omega) x hx, tabN_bit hb (by omega) x hx, ← row_mod ha x, ← row_mod hb x]
      have h1 : x % 2 ^ n < 2 ^ n := Nat.mod_lt _ (Nat.two_pow_pos n)
      unfold tabL at h
      exact List.map_inj_left.1 h _ (List.mem_range.2 h1)
    · have h2 : (2 : Nat) ^ 64 ≤ 2 ^ x := Nat.pow_le_pow_right (by omega) (by omega)
      rw [Nat.testBit_lt_two_pow (Nat.lt_of_lt_of_le (tabN_lt a) h2), Nat.testBit_lt_two_pow (Nat.lt_of_lt_of_le (tabN_lt b) h2)]
/-- Does some row turn with bit k? -/
def depB (l : List Nd) (n k : Nat) : Bool := (List.range (2 ^ n)).any fun x => row l x != row l (x ^^^ 2 ^ k)
theorem xor_bit_add : ∀ k, k < 6 → ∀ x, x < 64 → x.testBit k = false → x ^^^ 2 ^ k = x + 2 ^ k ∧ x + 2 ^ k < 64 := by decide
theorem xor_bit_set : ∀ k, k < 6 → ∀ x, x < 64 → x.testBit k = true → (x ^^^ 2 ^ k).testBit k = false ∧ (x ^^^ 2 ^ k) ^^^ 2 ^ k = x ∧ x ^^^ 2 ^ k < 64 := by decide
theorem xor_lt_pow {x k n : Nat} (hx : x < 2 ^ n) (hk : k < n) : x ^^^ 2 ^ k < 2 ^ n := Nat.xor_lt_two_pow hx (Nat.pow_lt_pow_right (by omega) hk)
/-- the rows x without bit k whose value turns with bit k -/
def depN (s k : Nat) : Nat := (s ^^^ (s >>> 2 ^ k)) &&& (18446744073709551615 ^^^ colN k)
theorem depN_bit (s k x : Nat) (hk : k < 6) (hx : x < 64) : (depN s k).testBit x = ((s.testBit x != s.testBit (2 ^ k + x)) && !x.testBit k) := by
  unfold depN
  rw [Nat.testBit_and, Nat.testBit_xor, Nat.testBit_xor, Nat.testBit_shiftRight, testBit_all x hx, colN_bit k hk x hx]
  simp
theorem depN_lt (s k : Nat) : depN s k < 18446744073709551616 := by
  unfold depN
  exact Nat.lt_of_le_of_lt Nat.and_le_right (Nat.xor_lt_two_pow (n := 64) (by omega) (colN_lt k))
theorem depN_iff {l : List Nd} {n k : Nat} (h : lvalid l n = true) (hn : n ≤ 6) (hk : k < n) : decide (depN (tabN l) k ≠ 0) = depB l n k := by
  have h64 := pow_le64 hn
  rw [Bool.eq_iff_iff]
  unfold depB
  simp only [decide_eq_true_eq, List.any_eq_true, List.mem_range]
  constructor
  · intro h0
    rcases Classical.em (∃ x, x < 64 ∧ (depN (tabN l) k).testBit x = true) with ⟨x, hx, hb⟩ | hno
    · rw [depN_bit _ _ _ (by omega) hx] at hb
      simp only [Bool.and_eq_true, Bool.not_eq_true'] at hb
      obtain ⟨h1, h2⟩ := hb
      obtain ⟨e1, e2⟩ := xor_bit_add k (by omega) x hx h2
      rw [tabN_bit h (by omega) x hx, tabN_bit h (by omega) _ (by omega), Nat.add_comm, ← e1] at h1
      refine ⟨x % 2 ^ n, Nat.mod_lt _ (Nat.two_pow_pos n), ?_⟩
      have e3 : x % 2 ^ n ^^^ 2 ^ k = (x ^^^ 2 ^ k) % 2 ^ n := by
        rw [Nat.xor_mod_two_pow, Nat.mod_eq_of_lt (show 2 ^ k < 2 ^ n from Nat.pow_lt_pow_right (by omega) hk)]
      rw [e3, row_mod h, row_mod h]
      exact h1
    · exfalso
      apply h0
      apply Nat.eq_of_testBit_eq
      intro x
      by_cases hx : x < 64
      · rw [Nat.zero_testBit]
        cases hb : (depN (tabN l) k).testBit x with
        | false => rfl
        | true => exact absurd ⟨x, hx, hb⟩ hno
      · have h2 : (2 : Nat) ^ 64 ≤ 2 ^ x := Nat.pow_le_pow_right (by omega) (by omega)
        rw [Nat.testBit_lt_two_pow (Nat.lt_of_lt_of_le (depN_lt _ _) h2), Nat.zero_testBit]
  · rintro ⟨x, hx, hr⟩ h0
    have key : ∀ y, y < 64 → y.testBit k = false → row l y = row l (y ^^^ 2 ^ k) := by
      intro y hy hyk
      have hb := depN_bit (tabN l) k y (by omega) hy
      rw [h0, Nat.zero_testBit, hyk] at hb
      obtain ⟨e1, e2⟩ := xor_bit_add k (by omega) y hy hyk
      rw [tabN_bit h (by omega) y hy, tabN_bit h (by omega) _ (by omega), Nat.add_comm, ← e1] at hb
      simpa using hb.symm
    cases hk' : x.testBit k with
    | false => rw [key x (by omega) hk'] at hr; simp at hr
    | true =>
      obtain ⟨e1, e2, e3⟩ := xor_bit_set k (by omega) x (by omega) hk'
      have := key _ e3 e1
      rw [e2] at this
      rw [this] at hr; simp at hr
/-- A bit that does not occur turns nothing. -/
theorem depB_unused {l : List Nd} {n k : Nat} (h : ∀ x ∈ l, x.op = 1 → 0 ≤ x.bit ∧ x.bit ≠ k) : depB l n k = false := by
  unfold depB
  rw [List.any_eq_false]
  intro x _
  have : row l x = row l (x ^^^ 2 ^ k) := by
    unfold row
    refine evb_congr _ _ fun y hy h1 => ?_
    have := h y hy h1
    rw [Nat.testBit_xor, Nat.testBit_two_pow_of_ne (show k ≠ y.bit.toNat by omega)]
    simp
  simp [this]

/-- What NegateLogic returns. -/
def negL (l : List Nd) : List Nd := if lvalid l 16 then (if (l.getLastD ⟨0, 0⟩).op = 2 then l.dropLast else if l.length = 24 then [] else l ++ [⟨2, 0⟩]) else []
theorem evb_not (l : List Nd) (b : Int → Bool) (x : Nd) (hx : x.op = 2) {bits : Int} (h : depOf bits l 0 = some 1) : evb (l ++ [x]) b = !evb l b := by
  unfold evb val
  rw [ev_snoc]
  have hl := ev_len (boolAlg b) bits l [] 1 h
  rcases he : ev (boolAlg b) l [] with _ | ⟨a, _ | ⟨c, r⟩⟩
  · rw [he] at hl; simp at hl
  · unfold evStep; simp [hx]; rfl
  · rw [he] at hl; simp at hl
theorem dep_not (l : List Nd) (x : Nd) (hx : x.op = 2) (bits : Int) : depOf bits (l ++ [x]) 0 = some 1 ↔ (depOf bits l 0 = some 1 ∧ x.bit = 0) := by
  cases hd : depOf bits l 0 with
  | none => rw [depOf_append, hd]; simp
  | some d =>
    rw [depOf_snoc _ _ _ _ _ hd]
    unfold ndOK need bitOK
    simp [hx]
    omega
theorem last_form {l : List Nd} (h : 0 < l.length) : l = l.dropLast ++ [l.getLastD ⟨0, 0⟩] := by
  have hne : l ≠ [] := by intro e; subst e; simp at h
  rw [List.getLastD_eq_getLast?, List.getLast?_eq_some_getLast hne]
  exact (List.dropLast_concat_getLast hne).symm
structure NegOK (l x : List Nd) : Prop where
  len : 0 < x.length ∧ x.length ≤ 24
  valid : ∀ bits, lvalid x bits = lvalid l bits
  val : ∀ b, evb x b = !evb l b
theorem negL_ok {l : List Nd} (h : 0 < (negL l).length) : lvalid l 16 = true ∧ NegOK l (negL l) := by
  unfold negL at h ⊢
  split at h
  · rename_i hv
    rw [if_pos hv]
    refine ⟨hv, ?_⟩
    have hlen := lvalid_len hv
    have hne := lvalid_ne hv
    have hd := lvalid_dep hv
    split at h
    · rename_i ho
      rw [if_pos ho]
      obtain ⟨m, x, hm⟩ : ∃ m x, l = m ++ [x] ∧ l.dropLast = m ∧ l.getLastD ⟨0, 0⟩ = x := ⟨_, _, last_form hne, rfl, rfl⟩
      obtain ⟨hm, e1, e2⟩ := hm
      rw [e1] at h ⊢
      rw [e2] at ho
      subst hm
      have hx := (dep_not m x ho 16).1 hd
      simp at hlen
      refine ⟨⟨h, by omega⟩, fun bits => ?_, fun b => ?_⟩
      · have l1 : (m ++ [x]).length ≤ 24 := by simp; omega
        have l2 : m.length ≤ 24 := by omega
        rw [Bool.eq_iff_iff]
        unfold lvalid
        simp only [Bool.and_eq_true, decide_eq_true_eq, dep_not m x ho bits]
        exact ⟨fun h => ⟨l1, h.2, hx.2⟩, fun h => ⟨l2, h.2.1⟩⟩
      · rw [evb_not m b x ho hx.1]; simp
    · rename_i ho
      split at h
      · simp at h
      · rename_i h24
        rw [if_neg ho, if_neg h24]
        have l1 : (l ++ [(⟨2, 0⟩ : Nd)]).length ≤ 24 := by simp; omega
        refine ⟨⟨h, l1⟩, fun bits => ?_, fun b => evb_not l b _ rfl hd⟩
        rw [Bool.eq_iff_iff]
        unfold lvalid
        simp only [Bool.and_eq_true, decide_eq_true_eq, dep_not l ⟨2, 0⟩ rfl bits]
        exact ⟨fun h => ⟨hlen, h.2.1⟩, fun h => ⟨l1, h.2, trivial⟩⟩
  · simp at h
/-- Negating twice returns the expression, if it does not end with LogicNot twice. -/
theorem negL_twice {l : List Nd} (h : 0 < (negL l).length) (ht : ¬ (1 < l.length ∧ (l.getD (l.length - 1) ⟨0, 0⟩).op = 2 ∧ (l.getD (l.length - 2) ⟨0, 0⟩).op = 2)) : negL (negL l) = l := by
  obtain ⟨hv, hn⟩ := negL_ok h
  have hv2 : lvalid (negL l) 16 = true := by rw [hn.valid]; exact hv
  have hlen := lvalid_len hv
  have hne := lvalid_ne hv
  have hd := lvalid_dep hv
  by_cases ho : (l.getLastD ⟨0, 0⟩).op = 2
  · have e0 : negL l = l.dropLast := by unfold negL; rw [if_pos hv, if_pos ho]
    obtain ⟨m, x, hm, e1, e2⟩ : ∃ m x, l = m ++ [x] ∧ l.dropLast = m ∧ l.getLastD ⟨0, 0⟩ = x := ⟨_, _, last_form hne, rfl, rfl⟩
    rw [e0] at h hv2 ⊢
    rw [e1] at h hv2 ⊢
    rw [e2] at ho
    subst hm
    have hx := (dep_not m x ho 16).1 hd
    have hlast : ¬ (m.getLastD ⟨0, 0⟩).op = 2 := by
      intro e
      apply ht
      simp at h hlen ⊢
      refine ⟨by omega, ho, ?_⟩
      rw [List.getLastD_eq_getLast?, List.getLast?_eq_getElem?] at e
      rw [List.getElem?_append_left (by omega)]
      exact e
    unfold negL
    rw [if_pos hv2, if_neg hlast, if_neg (by simp at hlen; omega)]
    have : x = ⟨2, 0⟩ := by cases x; simp at ho hx; simp [ho, hx.2]
    rw [this]
  · have h24 : l.length ≠ 24 := by
      intro e
      unfold negL at h
      rw [if_pos hv, if_neg ho, if_pos e] at h; simp at h
    have e0 : negL l = l ++ [⟨2, 0⟩] := by unfold negL; rw [if_pos hv, if_neg ho, if_neg h24]
    rw [e0] at hv2 ⊢
    unfold negL
    rw [if_pos hv2, if_pos (by simp)]
    simp
/-- Negating twice: there is a result, and it has the same values. -/
theorem negL_neg_ne {l : List Nd} (h : 0 < (negL l).length) : 0 < (negL (negL l)).length := by
  by_cases ht : 1 < l.length ∧ (l.getD (l.length - 1) ⟨0, 0⟩).op = 2 ∧ (l.getD (l.length - 2) ⟨0, 0⟩).op = 2
  · obtain ⟨hv, hn⟩ := negL_ok h
    have hv2 : lvalid (negL l) 16 = true := by rw [hn.valid]; exact hv
    have hlen := lvalid_len hv
    have hne := lvalid_ne hv
    obtain ⟨m, x, hm, e1, e2⟩ : ∃ m x, l = m ++ [x] ∧ l.dropLast = m ∧ l.getLastD ⟨0, 0⟩ = x := ⟨_, _, last_form hne, rfl, rfl⟩
    have hx : x.op = 2 := by
      obtain ⟨-, h1, -⟩ := ht
      rw [hm] at h1; simpa using h1
    have e0 : negL l = m := by unfold negL; rw [if_pos hv, e2, if_pos hx, e1]
    rw [e0] at h hv2 ⊢
    have hml : m.length + 1 = l.length := by rw [hm]; simp
    unfold negL
    rw [if_pos hv2]
    split
    · obtain ⟨-, -, h3⟩ := ht
      have hd := lvalid_dep hv2
      rcases m with _ | ⟨a, _ | ⟨b, r⟩⟩
      · simp at h
      · simp at *
        rename_i h5
        rw [depOf_cons] at hd
        unfold ndOK need at hd; simp [h5] at hd
      · simp
    · rw [if_neg (by omega)]; simp
  · rw [negL_twice h ht]
    exact lvalid_ne (negL_ok h).1
end Go.Proofs.Ytoagnajljdbobab
