import PyProof.Rows.All
import Wide.All
import OpenK.AllK
import Wide.FinOn
import HandS.ForMost
import HandS.ForExc
import HandS.Evl
import HandS.IsInst
import HandS.ExcIs
import HandS.EndBits
import HandS.Style
import HandS.Zip
import KE.IntBitsLaws
import KE.KEqDeep
import HandS.ExcCtx
import HandS.Hot
import HandS.RevRange
import PyProof.MaxThree
import HandS.Walk
import PyProof.P3Eq
import HandS.NoneIn
import HandS.DictComp
import HandS.Lambda
import HandS.Nested
import HandS.EndOwn
import HandS.HotCalls
import HandS.FStr
import HandS.DictEq
import PyProof.NeKinds
import PySem.Challenge.RW_powerrows_k10_refused
set_option Elab.async false
set_option linter.all false
set_option maxRecDepth 100000
set_option maxHeartbeats 4000000
namespace Pw
/-! ### the mathematics of rows: sequences of whole numbers, their products, modulo p -/
abbrev Sq := Nat → Int
def tl (f : Sq) : Sq := fun n => f (n + 1)
/-- the product of two sequences -/
def cv : Sq → Sq → Nat → Int
  | f, g, 0 => f 0 * g 0
  | f, g, n + 1 => f 0 * g (n + 1) + cv (tl f) g n
def one : Sq := fun n => if n = 0 then 1 else 0
def zer : Sq := fun _ => 0
def plusS (f g : Sq) : Sq := fun n => f n + g n
def smul (c : Int) (f : Sq) : Sq := fun n => c * f n
/-- one place on -/
def sh (f : Sq) : Sq := fun n => match n with
  | 0 => 0
  | n + 1 => f n
theorem cv_add_left (f g h : Sq) (n : Nat) : cv (fun n => f n + g n) h n = cv f h n + cv g h n := by
  induction n generalizing f g with
  | zero => exact Int.add_mul _ _ _
  | succ n ih =>
    show (f 0 + g 0) * h (n + 1) + cv (fun n => tl f n + tl g n) h n = f 0 * h (n + 1) + cv (tl f) h n + (g 0 * h (n + 1) + cv (tl g) h n)
    rw [ih, Int.add_mul]
    omega
theorem cv_smul_left (c : Int) (f h : Sq) (n : Nat) : cv (fun n => c * f n) h n = c * cv f h n := by
  induction n generalizing f with
  | zero => exact Int.mul_assoc _ _ _
  | succ n ih =>
    show (c * f 0) * h (n + 1) + cv (fun n => c * tl f n) h n = c * (f 0 * h (n + 1) + cv (tl f) h n)
    rw [ih, Int.mul_add, Int.mul_assoc]
theorem cv_succ (f g : Sq) (n : Nat) : cv f g (n + 1) = cv f (tl g) n + f (n + 1) * g 0 := by
  induction n generalizing f with
  | zero => rfl
  | succ n ih =>
    show f 0 * g (n + 2) + cv (tl f) g (n + 1) = f 0 * tl g (n + 1) + cv (tl f) (tl g) n + f (n + 2) * g 0
    rw [ih (tl f)]
    show f 0 * g (n + 2) + (cv (tl f) (tl g) n + f (n + 2) * g 0) = f 0 * g (n + 2) + cv (tl f) (tl g) n + f (n + 2) * g 0
    omega
theorem cv_comm (f g : Sq) (n : Nat) : cv f g n = cv g f n := by
  induction n generalizing f g with
  | zero => exact Int.mul_comm _ _
  | succ n ih =>
    rw [cv_succ g f]
    show f 0 * g (n + 1) + cv (tl f) g n = cv g (tl f) n + g (n + 1) * f 0
    rw [ih (tl f) g, Int.mul_comm (f 0)]
    omega
theorem cv_add_right (f g h : Sq) (n : Nat) : cv f (fun n => g n + h n) n = cv f g n + cv f h n := by
  rw [cv_comm, cv_add_left, cv_comm g, cv_comm h]
theorem cv_smul_right (c : Int) (f g : Sq) (n : Nat) : cv f (fun n => c * g n) n = c * cv f g n := by
  rw [cv_comm, cv_smul_left, cv_comm g]
theorem cv_congr {f f' g g' : Sq} {n : Nat} (h1 : ∀ i, i ≤ n → f i = f' i) (h2 : ∀ i, i ≤ n → g i = g' i) : cv f g n = cv f' g' n := by
  induction n generalizing f f' with
  | zero =>
    show f 0 * g 0 = f' 0 * g' 0
    rw [h1 0 (Nat.le_refl _), h2 0 (Nat.le_refl _)]
  | succ n ih =>
    show f 0 * g (n + 1) + cv (tl f) g n = f' 0 * g' (n + 1) + cv (tl f') g' n
    rw [h1 0 (Nat.zero_le _), h2 (n + 1) (Nat.le_refl _), ih (f := tl f) (f' := tl f') (fun i hi => h1 (i + 1) (Nat.succ_le_succ hi)) (fun i hi => h2 i (Nat.le_succ_of_le hi))]
theorem cv_assoc (f g h : Sq) (n : Nat) : cv (cv f g) h n = cv f (cv g h) n := by
  induction n generalizing f g with
  | zero => exact Int.mul_assoc _ _ _
  | succ n ih =>
    show (f 0 * g 0) * h (n + 1) + cv (tl (cv f g)) h n = f 0 * (g 0 * h (n + 1) + cv (tl g) h n) + cv (tl f) (cv g h) n
    have e : cv (tl (cv f g)) h n = f 0 * cv (tl g) h n + cv (cv (tl f) g) h n := by
      have e1 : tl (cv f g) = fun n => (fun n => f 0 * tl g n) n + cv (tl f) g n := rfl
      rw [e1, cv_add_left, cv_smul_left]
    rw [e, ih, Int.mul_add, Int.mul_assoc]
    omega
theorem cv_one_left (g : Sq) (n : Nat) : cv one g n = g n := by
  have z : ∀ (n : Nat) (h : Sq), cv (tl one) h n = 0 := by
    intro n h
    have e : tl one = fun n => 0 * one n := by
      funext m
      show (if m + 1 = 0 then (1 : Int) else 0) = 0 * one m
      rw [if_neg (Nat.succ_ne_zero m), Int.zero_mul]
    rw [e, cv_smul_left, Int.zero_mul]
  cases n with
  | zero => exact Int.one_mul _
  | succ n =>
    show 1 * g (n + 1) + cv (tl one) g n = g (n + 1)
    rw [z, Int.one_mul, Int.add_zero]
theorem cv_one_right (f : Sq) (n : Nat) : cv f one n = f n := by rw [cv_comm, cv_one_left]
theorem cv_zer_left (g : Sq) (n : Nat) : cv zer g n = 0 := by
  have e : zer = fun n => 0 * zer n := by
    funext m
    show (0 : Int) = 0 * _
    rw [Int.zero_mul]
  rw [e, cv_smul_left, Int.zero_mul]
theorem cv_zer_right (f : Sq) (n : Nat) : cv f zer n = 0 := by rw [cv_comm, cv_zer_left]
theorem cv_sh_left (f g : Sq) (n : Nat) : cv (sh f) g n = sh (cv f g) n := by
  cases n with
  | zero => exact Int.zero_mul _
  | succ n =>
    show 0 * g (n + 1) + cv f g n = cv f g n
    rw [Int.zero_mul, Int.zero_add]
theorem cv_sh_right (f g : Sq) (n : Nat) : cv f (sh g) n = sh (cv f g) n := by
  rw [cv_comm, cv_sh_left]
  cases n with
  | zero => rfl
  | succ n => exact cv_comm g f n
/-! ### modulo p -/
theorem em_add {p a b c d : Int} (h1 : a % p = b % p) (h2 : c % p = d % p) : (a + c) % p = (b + d) % p := by
  rw [Int.add_emod, h1, h2, ← Int.add_emod]
theorem em_mul {p a b c d : Int} (h1 : a % p = b % p) (h2 : c % p = d % p) : (a * c) % p = (b * d) % p := by
  rw [Int.mul_emod, h1, h2, ← Int.mul_emod]
theorem em_sub {p a b c d : Int} (h1 : a % p = b % p) (h2 : c % p = d % p) : (a - c) % p = (b - d) % p := by
  rw [Int.sub_emod, h1, h2, ← Int.sub_emod]
theorem em_em {p : Int} (a : Int) : a % p % p = a % p := Int.emod_emod_of_dvd a (Int.dvd_refl p)
theorem cv_em {p : Int} {f f' g g' : Sq} {n : Nat} (h1 : ∀ i, i ≤ n → f i % p = f' i % p) (h2 : ∀ i, i ≤ n → g i % p = g' i % p) : cv f g n % p = cv f' g' n % p := by
  induction n generalizing f f' with
  | zero => exact em_mul (h1 0 (Nat.le_refl _)) (h2 0 (Nat.le_refl _))
  | succ n ih =>
    show (f 0 * g (n + 1) + cv (tl f) g n) % p = (f' 0 * g' (n + 1) + cv (tl f') g' n) % p
    exact em_add (em_mul (h1 0 (Nat.zero_le _)) (h2 (n + 1) (Nat.le_refl _))) (ih (fun i hi => h1 (i + 1) (Nat.succ_le_succ hi)) (fun i hi => h2 i (Nat.le_succ_of_le hi)))
/-! ### lists as sequences -/
def sq (xs : List Int) : Sq := fun n => xs.getD n 0
theorem sum_map_zero {α : Type} (l : List α) : (l.map fun _ => (0 : Int)).sum = 0 := by
  induction l with
  | nil => rfl
  | cons a r ih =>
    show 0 + (r.map fun _ => (0 : Int)).sum = 0
    rw [ih]
    rfl
/-- the sum over all two places that come to n -/
theorem sum_cv (f g : Sq) (n : Nat) : ((List.range (n + 1)).map fun i => f i * g (n - i)).sum = cv f g n := by
  induction n generalizing f with
  | zero =>
    show f 0 * g 0 + 0 = f 0 * g 0
    omega
  | succ n ih =>
    rw [List.range_succ_eq_map, List.map_cons, List.map_map, List.sum_cons]
    show f 0 * g (n + 1) + _ = f 0 * g (n + 1) + cv (tl f) g n
    rw [← ih (tl f)]
    congr 2
    apply List.map_congr_left
    intro i hi
    show f (i + 1) * g (n + 1 - (i + 1)) = f (i + 1) * g (n - i)
    rw [Nat.add_sub_add_right]
/-- the sum without the last of them -/
theorem sum_cv_less (f g : Sq) (n : Nat) : ((List.range n).map fun i => f i * g (n - i)).sum = cv f g n - f n * g 0 := by
  have e := sum_cv f g n
  rw [List.range_succ, List.map_append, List.sum_append] at e
  have e2 : ([n].map fun i => f i * g (n - i)).sum = f n * g 0 := by
    show f n * g (n - n) + 0 = f n * g 0
    rw [Nat.sub_self]
    omega
  rw [e2] at e
  omega
/-! ### the values that the program tells -/
/-- a row: 1 to 20 rests -/
structure Rowp (p : Int) (xs : List Int) : Prop where
  lo : 1 ≤ xs.length
  hi : xs.length ≤ 20
  rest : ∀ x ∈ xs, 0 ≤ x ∧ x < p
def prodL (p : Int) (xs ys : List Int) : List Int := (List.range (min xs.length ys.length)).map fun n => cv (sq xs) (sq ys) n % p
def plusL (p : Int) (xs ys : List Int) : List Int := (List.range (min xs.length ys.length)).map fun n => (sq xs n + sq ys n) % p
theorem prodL_len (p : Int) (xs ys : List Int) : (prodL p xs ys).length = min xs.length ys.length := by
  unfold prodL
  rw [List.length_map, List.length_range]
theorem plusL_len (p : Int) (xs ys : List Int) : (plusL p xs ys).length = min xs.length ys.length := by
  unfold plusL
  rw [List.length_map, List.length_range]
theorem sq_map_range {f : Nat → Int} {m n : Nat} (h : n < m) : sq ((List.range m).map f) n = f n := by
  unfold sq
  rw [List.getD_eq_getElem?_getD, List.getElem?_map, List.getElem?_range h]
  rfl
theorem sq_out {xs : List Int} {n : Nat} (h : xs.length ≤ n) : sq xs n = 0 := by
  unfold sq
  rw [List.getD_eq_getElem?_getD, List.getElem?_eq_none h]
  rfl
theorem sq_at {xs : List Int} {n : Nat} (h : n < xs.length) : xs[n]? = some (sq xs n) := by
  unfold sq
  rw [List.getD_eq_getElem?_getD, List.getElem?_eq_getElem h]
  rfl
theorem sq_mem {xs : List Int} {n : Nat} (h : n < xs.length) : sq xs n ∈ xs := List.mem_of_getElem? (sq_at h)
theorem sq_take {xs : List Int} {m n : Nat} (h : n < m) : sq (xs.take m) n = sq xs n := by
  unfold sq
  rw [List.getD_eq_getElem?_getD, List.getD_eq_getElem?_getD, List.getElem?_take, if_pos h]
theorem sq_append_left {xs ys : List Int} {n : Nat} (h : n < xs.length) : sq (xs ++ ys) n = sq xs n := by
  unfold sq
  rw [List.getD_eq_getElem?_getD, List.getD_eq_getElem?_getD, List.getElem?_append_left h]
theorem sq_append_at {xs : List Int} {y : Int} : sq (xs ++ [y]) xs.length = y := by
  unfold sq
  rw [List.getD_eq_getElem?_getD, List.getElem?_append_right (Nat.le_refl _), Nat.sub_self]
  rfl
/-- lists are the same if their lengths and places are -/
theorem ext_sq {xs ys : List Int} (h : xs.length = ys.length) (e : ∀ n, n < xs.length → sq xs n = sq ys n) : xs = ys := by
  apply List.ext_getElem? 
  intro n
  by_cases hn : n < xs.length
  · rw [sq_at hn, sq_at (h ▸ hn), e n hn]
  · rw [List.getElem?_eq_none (by omega), List.getElem?_eq_none (by omega)]
theorem sq_prodL {p : Int} {xs ys : List Int} {n : Nat} (h : n < min xs.length ys.length) : sq (prodL p xs ys) n = cv (sq xs) (sq ys) n % p := sq_map_range h
theorem sq_plusL {p : Int} {xs ys : List Int} {n : Nat} (h : n < min xs.length ys.length) : sq (plusL p xs ys) n = (sq xs n + sq ys n) % p := sq_map_range h
theorem Rowp.at {p : Int} {xs : List Int} (h : Rowp p xs) {n : Nat} (hn : n < xs.length) : 0 ≤ sq xs n ∧ sq xs n < p := h.rest _ (sq_mem hn)
theorem Rowp.em {p : Int} {xs : List Int} (h : Rowp p xs) {n : Nat} (hn : n < xs.length) : sq xs n % p = sq xs n := Int.emod_eq_of_lt (h.at hn).1 (h.at hn).2
theorem rowp_map {p : Int} (hp : 0 < p) {m : Nat} {f : Nat → Int} (h1 : 1 ≤ m) (h2 : m ≤ 20) : Rowp p ((List.range m).map fun n => f n % p) := by
  refine ⟨by rw [List.length_map, List.length_range]; exact h1, by rw [List.length_map, List.length_range]; exact h2, fun x hx => ?_⟩
  obtain ⟨i, _, rfl⟩ := List.mem_map.mp hx
  exact ⟨Int.emod_nonneg _ (by omega), Int.emod_lt_of_pos _ hp⟩
theorem Rowp.prod {p : Int} (hp : 0 < p) {xs ys : List Int} (h1 : Rowp p xs) (h2 : Rowp p ys) : Rowp p (prodL p xs ys) :=
  rowp_map hp (by have := h1.lo; have := h2.lo; omega) (by have := h1.hi; omega)
theorem Rowp.plus {p : Int} (hp : 0 < p) {xs ys : List Int} (h1 : Rowp p xs) (h2 : Rowp p ys) : Rowp p (plusL p xs ys) :=
  rowp_map hp (by have := h1.lo; have := h2.lo; omega) (by have := h1.hi; omega)
/-! ### primes and inverses -/
def primes : List Int := [2, 3, 5, 7, 11, 13, 17, 19, 23, 29, 31, 37, 41, 43, 47, 53, 59, 61, 67, 71, 73, 79, 83, 89, 97]
def Prm (p : Int) : Prop := p ∈ primes
theorem Prm.pos {p : Int} (h : Prm p) : 2 ≤ p ∧ p ≤ 97 := by
  unfold Prm primes at h
  simp only [List.mem_cons, List.not_mem_nil, or_false] at h
  omega
/-- what is multiplied so often, each time less all whole p -/
def powm (p r : Int) : Nat → Int
  | 0 => 1
  | n + 1 => powm p r n * r % p
def inv (p r : Int) : Int := powm p r (p - 2).toNat
def invCheck : Bool := primes.all fun p => (List.range p.toNat).all fun r => r == 0 || inv p r * r % p == 1
theorem invCheck_ok : invCheck = true := by decide +kernel
theorem inv_ok {p r : Int} (hp : Prm p) (h0 : 0 < r) (h1 : r < p) : inv p r * r % p = 1 := by
  have h := List.all_eq_true.mp invCheck_ok p hp
  have h2 := List.all_eq_true.mp h r.toNat (List.mem_range.mpr (by omega))
  have e : ((r.toNat : Nat) : Int) = r := Int.toNat_of_nonneg (Int.le_of_lt h0)
  have ne : (r.toNat == 0) = false := by
    rw [beq_eq_false_iff_ne]
    omega
  rw [ne, Bool.false_or] at h2
  have h3 := beq_iff_eq.mp h2
  rw [e] at h3
  exact h3
/-! ### the quotient -/
def quo (p c : Int) (f g : Sq) : Nat → List Int
  | 0 => []
  | n + 1 => quo p c f g n ++ [(f n - ((List.range n).map fun i => sq (quo p c f g n) i * g (n - i)).sum) * c % p]
theorem quo_len (p c : Int) (f g : Sq) (n : Nat) : (quo p c f g n).length = n := by
  induction n with
  | zero => rfl
  | succ n ih =>
    show (quo p c f g n ++ [_]).length = n + 1
    rw [List.length_append, ih]
    rfl
theorem quo_sq (p c : Int) (f g : Sq) {n m : Nat} (h : n < m) : sq (quo p c f g m) n = sq (quo p c f g (n + 1)) n := by
  induction m with
  | zero => omega
  | succ m ih =>
    by_cases e : n = m
    · rw [e]
    · show sq (quo p c f g m ++ [_]) n = _
      rw [sq_append_left (by rw [quo_len]; omega)]
      exact ih (by omega)
theorem quo_at (p c : Int) (f g : Sq) (n : Nat) : sq (quo p c f g (n + 1)) n = (f n - ((List.range n).map fun i => sq (quo p c f g n) i * g (n - i)).sum) * c % p := by
  have h := sq_append_at (xs := quo p c f g n) (y := (f n - ((List.range n).map fun i => sq (quo p c f g n) i * g (n - i)).sum) * c % p)
  rw [quo_len] at h
  exact h
theorem quo_mul {p c : Int} {f g : Sq} (hc : c * g 0 % p = 1 % p) {m n : Nat} (h : n < m) : cv (sq (quo p c f g m)) g n % p = f n % p := by
  have e : cv (sq (quo p c f g m)) g n = cv (sq (quo p c f g m)) g n - sq (quo p c f g m) n * g 0 + sq (quo p c f g m) n * g 0 := by omega
  rw [e, ← sum_cv_less]
  have e2 : ((List.range n).map fun i => sq (quo p c f g m) i * g (n - i)).sum = ((List.range n).map fun i => sq (quo p c f g n) i * g (n - i)).sum := by
    congr 1
    apply List.map_congr_left
    intro i hi
    have hi := List.mem_range.mp hi
    rw [quo_sq p c f g (Nat.lt_trans hi h), ← quo_sq p c f g hi]
  rw [e2, quo_sq p c f g h, quo_at]
  generalize ((List.range n).map fun i => sq (quo p c f g n) i * g (n - i)).sum = S
  have h3 : (f n - S) * c % p * g 0 % p = (f n - S) % p := by
    have : ((f n - S) * c % p * g 0) % p = ((f n - S) * (c * g 0)) % p := by
      rw [← Int.mul_assoc]
      exact em_mul (em_em _) rfl
    rw [this]
    have h4 : ((f n - S) * (c * g 0)) % p = ((f n - S) * 1) % p := em_mul rfl hc
    rw [h4, Int.mul_one]
  have h5 : (S + (f n - S) * c % p * g 0) % p = (S + (f n - S)) % p := em_add rfl h3
  rw [h5]
  congr 1
  omega
end Pw
namespace Pw
/-! ### what the drawing helpers tell -/
def absI (x : Int) : Int := if x < 0 then -x else x
theorem absI_nonneg (x : Int) : 0 ≤ absI x := by
  unfold absI
  split <;> omega
def blend (cell at_ whole : Int) : Int := ((cell + 977 * at_) * 48271 + whole) % 2147483647
def lnum (cell at_ whole : Int) : Int :=
  if 10 ^ 18 ≤ cell then cell / (1 + at_ % 7)
  else blend cell at_ whole * (cell + 31 * at_ + 7) * (blend cell at_ whole + cell + 5) * (blend cell at_ whole * blend cell at_ whole + 11) / (1009 + at_)
def lwhole (ns : List Int) : Int := absI (ns.take 63).sum
def lprime (ns : List Int) (by_ : Int) : Int :=
  if (lwhole ns + by_) / 60 % 2 = 0 then sq primes ((lwhole ns + by_) / 120 % 25).toNat else sq primes ((lwhole ns + by_) / 120 % 5).toNat
theorem lprime_prm (ns : List Int) (by_ : Int) : Prm (lprime ns by_) := by
  unfold lprime
  have l : primes.length = 25 := rfl
  split <;> exact sq_mem (by rw [l]; omega)
def lcells (ns : List Int) : List Int := if ns = [] then [5] else ns.take 63
theorem lcells_len (ns : List Int) : 1 ≤ (lcells ns).length ∧ (lcells ns).length ≤ 63 := by
  unfold lcells
  split
  · exact ⟨Nat.le_refl _, by decide⟩
  · rename_i h
    rw [List.length_take]
    have : 0 < ns.length := List.length_pos_iff.mpr h
    omega
theorem lcells_mem {ns : List Int} {x : Int} (h : x ∈ lcells ns) : x ∈ ns ∨ x = 5 := by
  unfold lcells at h
  split at h
  · exact .inr (List.mem_singleton.mp h)
  · exact .inl (List.mem_of_mem_take h)
/-- the place's rest -/
def lrowNum (ns : List Int) (by_ : Int) (n : Nat) : Int :=
  lnum (sq (lcells ns) (((n : Int) + by_) % ((lcells ns).length : Int)).toNat) ((n : Int) + 5 * by_) (absI (lcells ns).sum + 7 * by_) / 3
def lrowAt (ns : List Int) (by_ p : Int) (n : Nat) : Int :=
  sq [lrowNum ns by_ n % p, if lrowNum ns by_ n / 5 % 4 = 0 then lrowNum ns by_ n % p else 0, (absI (lcells ns).sum + 7 * by_) % p] ((absI (lcells ns).sum + 7 * by_) / 3 % 3).toNat
def lrow (ns : List Int) (by_ p most : Int) : List Int :=
  (List.range (1 + (absI (lcells ns).sum + 7 * by_) % most).toNat).map (lrowAt ns by_ p)
theorem lrowAt_rest {ns : List Int} {by_ p : Int} (hp : 0 < p) (n : Nat) : 0 ≤ lrowAt ns by_ p n ∧ lrowAt ns by_ p n < p := by
  have h : ∀ (x y z : Int) (k : Nat), (0 ≤ x ∧ x < p) → (0 ≤ y ∧ y < p) → (0 ≤ z ∧ z < p) → 0 ≤ sq [x, y, z] k ∧ sq [x, y, z] k < p := by
    intro x y z k hx hy hz
    match k with
    | 0 => exact hx
    | 1 => exact hy
    | 2 => exact hz
    | k + 3 =>
      have e : sq [x, y, z] (k + 3) = 0 := rfl
      rw [e]
      exact ⟨Int.le_refl _, hp⟩
  have m : ∀ x : Int, 0 ≤ x % p ∧ x % p < p := fun x => ⟨Int.emod_nonneg _ (by omega), Int.emod_lt_of_pos _ hp⟩
  refine h _ _ _ _ (m _) ?_ (m _)
  split
  · exact m _
  · exact ⟨Int.le_refl _, hp⟩
theorem lrow_len {ns : List Int} {by_ p most : Int} (hm : 0 < most) : 1 ≤ (lrow ns by_ p most).length ∧ ((lrow ns by_ p most).length : Int) ≤ most := by
  unfold lrow
  rw [List.length_map, List.length_range]
  have h1 := Int.emod_nonneg (absI (lcells ns).sum + 7 * by_) (show most ≠ 0 by omega)
  have h2 := Int.emod_lt_of_pos (absI (lcells ns).sum + 7 * by_) hm
  omega
theorem lrow_rowp {ns : List Int} {by_ p most : Int} (hp : 0 < p) (hm : 0 < most) (h20 : most ≤ 20) : Rowp p (lrow ns by_ p most) := by
  have l := lrow_len (ns := ns) (by_ := by_) (p := p) hm
  refine ⟨l.1, by omega, fun x hx => ?_⟩
  obtain ⟨n, _, rfl⟩ := List.mem_map.mp hx
  exact lrowAt_rest hp n
/-! ### the helper's product -/
/-- the sum over the first m places of the one -/
def pc (f g : Sq) : Nat → Nat → Int
  | 0, _ => 0
  | m + 1, k => pc f g m k + if m ≤ k then f m * g (k - m) else 0
theorem pc_sum (f g : Sq) (m k : Nat) (h : m ≤ k + 1) : pc f g m k = ((List.range m).map fun i => f i * g (k - i)).sum := by
  induction m with
  | zero => rfl
  | succ m ih =>
    rw [List.range_succ, List.map_append, List.sum_append, ← ih (by omega)]
    show pc f g m k + (if m ≤ k then f m * g (k - m) else 0) = pc f g m k + (f m * g (k - m) + 0)
    rw [if_pos (by omega), Int.add_zero]
theorem pc_more (f g : Sq) (k d : Nat) : pc f g (k + 1 + d) k = pc f g (k + 1) k := by
  induction d with
  | zero => rfl
  | succ d ih =>
    show pc f g (k + 1 + d) k + (if k + 1 + d ≤ k then f (k + 1 + d) * g (k - (k + 1 + d)) else 0) = _
    rw [if_neg (by omega), ih, Int.add_zero]
theorem pc_cv (f g : Sq) {m k : Nat} (h : k < m) : pc f g m k = cv f g k := by
  obtain ⟨d, rfl⟩ : ∃ d, m = k + 1 + d := ⟨m - (k + 1), by omega⟩
  rw [pc_more, pc_sum f g _ _ (Nat.le_refl _), sum_cv]
/-- .. and so many of the next one's -/
def pcx (f g : Sq) (m far k : Nat) : Int := pc f g m k + if m ≤ k ∧ k < m + far then f m * g (k - m) else 0
theorem pcx_zero (f g : Sq) (m k : Nat) : pcx f g m 0 k = pc f g m k := by
  unfold pcx
  rw [if_neg (by omega), Int.add_zero]
theorem pcx_full (f g : Sq) {m far k : Nat} (h : k < m + far) : pcx f g m far k = pc f g (m + 1) k := by
  unfold pcx
  by_cases c : m ≤ k
  · rw [if_pos ⟨c, h⟩]
    show _ = pc f g m k + (if m ≤ k then f m * g (k - m) else 0)
    rw [if_pos c]
  · rw [if_neg (fun z => c z.1)]
    show _ = pc f g m k + (if m ≤ k then f m * g (k - m) else 0)
    rw [if_neg c]
theorem pcx_at (f g : Sq) (m far : Nat) : pcx f g m (far + 1) (m + far) = pcx f g m far (m + far) + f m * g far := by
  unfold pcx
  rw [if_pos (by omega), if_neg (by omega), show m + far - m = far by omega, Int.add_zero]
theorem pcx_else (f g : Sq) {m far k : Nat} (h : k ≠ m + far) : pcx f g m (far + 1) k = pcx f g m far k := by
  unfold pcx
  by_cases c : m ≤ k ∧ k < m + far
  · rw [if_pos c, if_pos (by omega)]
  · rw [if_neg c, if_neg (by omega)]
theorem set_map_range {α : Type} (f : Nat → α) (n j : Nat) (v : α) : ((List.range n).map f).set j v = (List.range n).map fun k => if k = j then v else f k := by
  apply List.ext_getElem?
  intro i
  rw [List.getElem?_set, List.length_map, List.length_range, List.getElem?_map, List.getElem?_map]
  by_cases hi : i < n
  · rw [List.getElem?_range hi]
    by_cases e : j = i
    · subst e
      rw [if_pos rfl, if_pos hi]
      show some v = some (if j = j then v else f j)
      rw [if_pos rfl]
    · rw [if_neg e]
      show some (f i) = some (if i = j then v else f i)
      rw [if_neg (fun z => e z.symm)]
  · rw [List.getElem?_eq_none (by rw [List.length_range]; omega)]
    by_cases e : j = i
    · rw [if_pos e, if_neg (by omega)]
      rfl
    · rw [if_neg e]
      rfl
theorem dropLast_snoc (xs : List Int) (y : Int) : (xs ++ [y]).dropLast = xs := List.dropLast_concat
end Pw
namespace Pw
theorem Rowp.take {p : Int} {xs : List Int} (h : Rowp p xs) {m : Nat} (h1 : 1 ≤ m) : Rowp p (xs.take m) := by
  have := h.lo
  have := h.hi
  exact ⟨by rw [List.length_take]; omega, by rw [List.length_take]; omega, fun x hx => h.rest x (List.mem_of_mem_take hx)⟩
theorem plusL_comp (p : Int) (xs ys : List Int) : plusL p xs ys = (List.range (min xs.length ys.length)).map fun n => (sq xs n + sq ys n) % p := rfl
end Pw

namespace Pw
/-! ### powers of sequences -/
def pw (f : Sq) : Nat → Sq
  | 0 => one
  | m + 1 => cv (pw f m) f
theorem cv_fun_assoc (f g h : Sq) : cv (cv f g) h = cv f (cv g h) := funext fun n => cv_assoc f g h n
theorem cv_fun_comm (f g : Sq) : cv f g = cv g f := funext fun n => cv_comm f g n
theorem cv_fun_one (f : Sq) : cv f one = f := funext fun n => cv_one_right f n
theorem cv_fun_one_left (f : Sq) : cv one f = f := funext fun n => cv_one_left f n
theorem pw_add (f : Sq) (a b : Nat) : pw f (a + b) = cv (pw f a) (pw f b) := by
  induction b with
  | zero => exact (cv_fun_one _).symm
  | succ b ih =>
    show cv (pw f (a + b)) f = cv (pw f a) (cv (pw f b) f)
    rw [ih, cv_fun_assoc]
theorem pw_one (f : Sq) : pw f 1 = f := cv_fun_one_left f
theorem pw_mul (f : Sq) (a b : Nat) : pw f (a * b) = pw (pw f a) b := by
  induction b with
  | zero => rfl
  | succ b ih =>
    show pw f (a * (b + 1)) = cv (pw (pw f a) b) (pw f a)
    rw [Nat.mul_succ, pw_add, ih]
theorem pw_one_fun (m : Nat) : pw one m = one := by
  induction m with
  | zero => rfl
  | succ m ih =>
    show cv (pw one m) one = one
    rw [ih, cv_fun_one]
theorem pw_em {p : Int} {f g : Sq} {n : Nat} (m : Nat) (h : ∀ i, i ≤ n → f i % p = g i % p) : ∀ i, i ≤ n → pw f m i % p = pw g m i % p := by
  induction m with
  | zero => exact fun _ _ => rfl
  | succ m ih => exact fun i hi => cv_em (fun j hj => ih j (Nat.le_trans hj hi)) (fun j hj => h j (Nat.le_trans hj hi))
theorem pw_congr {f g : Sq} {n : Nat} (m : Nat) (h : ∀ i, i ≤ n → f i = g i) : ∀ i, i ≤ n → pw f m i = pw g m i := by
  induction m with
  | zero => exact fun _ _ => rfl
  | succ m ih => exact fun i hi => cv_congr (fun j hj => ih j (Nat.le_trans hj hi)) (fun j hj => h j (Nat.le_trans hj hi))
theorem pw_at0 (f : Sq) (m : Nat) : pw f m 0 = f 0 ^ m := by
  induction m with
  | zero =>
    rw [Int.pow_zero]
    rfl
  | succ m ih =>
    show pw f m 0 * f 0 = f 0 ^ (m + 1)
    rw [ih, Int.pow_succ]
/-- what begins with 0 begins with so many 0 behind its power -/
theorem cv_low {f g : Sq} {a b : Nat} (hf : ∀ i, i < a → f i = 0) (hg : ∀ i, i < b → g i = 0) : ∀ n, n < a + b → cv f g n = 0 := by
  intro n hn
  rw [← sum_cv]
  have e : (List.range (n + 1)).map (fun i => f i * g (n - i)) = (List.range (n + 1)).map fun _ => (0 : Int) := by
    apply List.map_congr_left
    intro i hi
    have hi := List.mem_range.mp hi
    by_cases c : i < a
    · rw [hf i c, Int.zero_mul]
    · rw [hg (n - i) (by omega), Int.mul_zero]
  rw [e, sum_map_zero]
theorem pw_low {f : Sq} (h0 : f 0 = 0) (m : Nat) : ∀ n, n < m → pw f m n = 0 := by
  induction m with
  | zero => exact fun n hn => absurd hn (Nat.not_lt_zero _)
  | succ m ih =>
    intro n hn
    exact cv_low (b := 1) ih (fun i hi => by rw [show i = 0 by omega, h0]) n hn
/-! ### n times the place: the rule of products -/
def th (f : Sq) : Sq := fun n => (n : Int) * f n
theorem sum_map_add (f g : Nat → Int) (l : List Nat) : (l.map fun i => f i + g i).sum = (l.map f).sum + (l.map g).sum := by
  induction l with
  | nil => rfl
  | cons a r ih =>
    simp only [List.map_cons, List.sum_cons, ih]
    omega
theorem sum_map_mul (c : Int) (f : Nat → Int) (l : List Nat) : (l.map fun i => c * f i).sum = c * (l.map f).sum := by
  induction l with
  | nil => exact (Int.mul_zero _).symm
  | cons a r ih => simp only [List.map_cons, List.sum_cons, ih, Int.mul_add]
theorem th_cv (f g : Sq) (n : Nat) : th (cv f g) n = cv (th f) g n + cv f (th g) n := by
  unfold th
  rw [← sum_cv f g, ← sum_cv (fun n => (n : Int) * f n) g, ← sum_cv f (fun n => (n : Int) * g n), ← sum_map_mul, ← sum_map_add]
  congr 1
  apply List.map_congr_left
  intro i hi
  have hi := List.mem_range.mp hi
  have e : (n : Int) = (i : Int) + ((n - i : Nat) : Int) := by omega
  rw [Int.mul_assoc, Int.mul_left_comm (f i), ← Int.add_mul, ← e]
theorem th_pw (f : Sq) (m : Nat) : ∀ n, th (pw f (m + 1)) n = ((m : Int) + 1) * cv (pw f m) (th f) n := by
  induction m with
  | zero =>
    intro n
    rw [pw_one]
    show th f n = (((0 : Nat) : Int) + 1) * cv one (th f) n
    rw [cv_one_left]
    omega
  | succ m ih =>
    intro n
    show th (cv (pw f (m + 1)) f) n = _
    rw [th_cv]
    have e : th (pw f (m + 1)) = fun n => ((m : Int) + 1) * cv (pw f m) (th f) n := funext ih
    rw [e, cv_smul_left, cv_fun_assoc, cv_fun_comm (th f) f, ← cv_fun_assoc]
    show ((m : Int) + 1) * cv (pw f (m + 1)) (th f) n + cv (pw f (m + 1)) (th f) n = _
    rw [Int.natCast_succ, Int.add_mul, Int.one_mul, Int.add_mul, Int.add_mul, Int.one_mul]
/-- a row raised by the prime has rests but 0 only where the prime goes into the place -/
theorem pw_prime {p : Int} (hp : Prm p) (f : Sq) {n : Nat} (hn : ¬ p ∣ (n : Int)) : pw f p.toNat n % p = 0 := by
  have p2 := hp.pos
  obtain ⟨m, hm⟩ : ∃ m, p.toNat = m + 1 := ⟨p.toNat - 1, by omega⟩
  have h := th_pw f m n
  rw [← hm] at h
  have hpm : (m : Int) + 1 = p := by omega
  rw [hpm] at h
  have h2 : (n : Int) * pw f p.toNat n % p = 0 := by
    have : (n : Int) * pw f p.toNat n = p * cv (pw f m) (th f) n := h
    rw [this]
    exact Int.mul_emod_right _ _
  have r0 := Int.emod_nonneg (n : Int) (show p ≠ 0 by omega)
  have r1 := Int.emod_lt_of_pos (n : Int) (show 0 < p by omega)
  have rn : (n : Int) % p ≠ 0 := fun z => hn (Int.dvd_of_emod_eq_zero z)
  have hi := inv_ok hp (show 0 < (n : Int) % p by omega) r1
  generalize pw f p.toNat n = c at h2
  have e1 : (1 * c) % p = (inv p ((n : Int) % p) * ((n : Int) % p) * c) % p := em_mul (by rw [hi]; exact Int.emod_eq_of_lt (by decide) (by omega)) rfl
  have e2 : (inv p ((n : Int) % p) * ((n : Int) % p) * c) % p = (inv p ((n : Int) % p) * ((n : Int) * c)) % p := by
    rw [← Int.mul_assoc]
    exact em_mul (em_mul rfl (em_em _)) rfl
  have e3 : (inv p ((n : Int) % p) * ((n : Int) * c)) % p = (inv p ((n : Int) % p) * 0) % p := em_mul rfl (by rw [h2, Int.zero_emod])
  rw [Int.one_mul] at e1
  rw [e1, e2, e3, Int.mul_zero, Int.zero_emod]
/-! ### places stretched -/
def dil (q : Nat) (f : Sq) : Sq := fun n => if n % q = 0 then f (n / q) else 0
def shn (f : Sq) (m : Nat) : Sq := fun n => f (m + n)
theorem cv_steps (f g : Sq) (m n : Nat) : cv f g (m + n) = ((List.range m).map fun j => f j * g (m + n - j)).sum + cv (shn f m) g n := by
  induction m generalizing f with
  | zero =>
    rw [Nat.zero_add]
    have e : shn f 0 = f := funext fun n => by
      show f (0 + n) = f n
      rw [Nat.zero_add]
    rw [e]
    show _ = 0 + _
    rw [Int.zero_add]
  | succ m ih =>
    rw [show m + 1 + n = (m + n) + 1 by omega]
    show f 0 * g (m + n + 1) + cv (tl f) g (m + n) = _
    rw [ih (tl f), List.range_succ_eq_map, List.map_cons, List.map_map, List.sum_cons]
    have e1 : (List.range m).map (fun j => tl f j * g (m + n - j)) = (List.range m).map ((fun j => f j * g (m + n + 1 - j)) ∘ Nat.succ) := by
      apply List.map_congr_left
      intro j _
      show f (j + 1) * g (m + n - j) = f (j + 1) * g (m + n + 1 - (j + 1))
      rw [Nat.add_sub_add_right]
    have e2 : shn (tl f) m = shn f (m + 1) := funext fun k => by
      show f (m + k + 1) = f (m + 1 + k)
      congr 1
      omega
    rw [e1, e2]
    show _ = f 0 * g (m + n + 1 - 0) + _ + _
    rw [Nat.sub_zero]
    omega
theorem dil_shn {q : Nat} (hq : 0 < q) (f : Sq) : shn (dil q f) q = dil q (tl f) := funext fun n => by
  show (if (q + n) % q = 0 then f ((q + n) / q) else 0) = if n % q = 0 then f (n / q + 1) else 0
  rw [Nat.add_mod_left, Nat.add_div_left _ hq]
theorem dil_low {q : Nat} (f : Sq) {n : Nat} (h : n < q) (h0 : n ≠ 0) : dil q f n = 0 := by
  show (if n % q = 0 then f (n / q) else 0) = 0
  rw [Nat.mod_eq_of_lt h, if_neg h0]
theorem dil_zero (q : Nat) (f : Sq) : dil q f 0 = f 0 := by
  show (if 0 % q = 0 then f (0 / q) else 0) = f 0
  rw [Nat.zero_mod, if_pos rfl, Nat.zero_div]
theorem sum_first {m : Nat} (f : Nat → Int) (h : ∀ j, 0 < j → j < m + 1 → f j = 0) : ((List.range (m + 1)).map f).sum = f 0 := by
  rw [List.range_succ_eq_map, List.map_cons, List.map_map, List.sum_cons]
  have e : (List.range m).map (f ∘ Nat.succ) = (List.range m).map fun _ => (0 : Int) := by
    apply List.map_congr_left
    intro j hj
    exact h (j + 1) (Nat.succ_pos _) (Nat.succ_lt_succ (List.mem_range.mp hj))
  rw [e, sum_map_zero, Int.add_zero]
theorem cv_dil {q : Nat} (hq : 0 < q) (f g : Sq) (n : Nat) : cv (dil q f) (dil q g) n = dil q (cv f g) n := by
  induction n using Nat.strongRecOn generalizing f with
  | ind n ih =>
    by_cases c : n < q
    · rw [← sum_cv, sum_first _ fun j h0 h1 => by rw [dil_low f (by omega) (by omega), Int.zero_mul]]
      rw [dil_zero, Nat.sub_zero]
      by_cases z : n = 0
      · subst z
        rw [dil_zero, dil_zero]
        rfl
      · rw [dil_low g c z, dil_low _ c z, Int.mul_zero]
    · obtain ⟨k, rfl⟩ : ∃ k, n = q + k := ⟨n - q, by omega⟩
      obtain ⟨q', rfl⟩ : ∃ q', q = q' + 1 := ⟨q - 1, by omega⟩
      rw [cv_steps, sum_first _ fun j h0 h1 => by rw [dil_low f h1 (by omega), Int.zero_mul], dil_shn hq, ih k (by omega), dil_zero, Nat.sub_zero]
      show f 0 * (if (q' + 1 + k) % (q' + 1) = 0 then g ((q' + 1 + k) / (q' + 1)) else 0) + (if k % (q' + 1) = 0 then cv (tl f) g (k / (q' + 1)) else 0) = if (q' + 1 + k) % (q' + 1) = 0 then cv f g ((q' + 1 + k) / (q' + 1)) else 0
      rw [Nat.add_mod_left, Nat.add_div_left _ hq]
      by_cases z : k % (q' + 1) = 0
      · rw [if_pos z, if_pos z, if_pos z]
        rfl
      · rw [if_neg z, if_neg z, if_neg z, Int.mul_zero, Int.add_zero]
theorem dil_one {q : Nat} : dil q one = one := funext fun n => by
  show (if n % q = 0 then (if n / q = 0 then (1 : Int) else 0) else 0) = if n = 0 then 1 else 0
  by_cases z : n = 0
  · subst z
    rw [Nat.zero_mod, Nat.zero_div]
    rfl
  · rw [if_neg z]
    by_cases y : n % q = 0
    · rw [if_pos y, if_neg]
      intro w
      have := Nat.div_add_mod n q
      rw [w, y] at this
      omega
    · rw [if_neg y]
theorem pw_dil {q : Nat} (hq : 0 < q) (f : Sq) (m : Nat) : pw (dil q f) m = dil q (pw f m) := by
  induction m with
  | zero => exact dil_one.symm
  | succ m ih =>
    show cv (pw (dil q f) m) (dil q f) = dil q (cv (pw f m) f)
    rw [ih]
    exact funext fun n => cv_dil hq _ _ n
/-- raised by a power of the prime: rests but 0 only at its multiples -/
theorem pw_primes {p : Int} (hp : Prm p) (k : Nat) : ∀ (f : Sq) (n : Nat), n % (p.toNat ^ k) ≠ 0 → pw f (p.toNat ^ k) n % p = 0 := by
  have p2 := hp.pos
  have q0 : 0 < p.toNat := by omega
  induction k with
  | zero =>
    intro f n h
    rw [Nat.pow_zero, Nat.mod_one] at h
    exact absurd rfl h
  | succ k ih =>
    intro f n h
    have e : pw f (p.toNat ^ (k + 1)) = pw (pw f p.toNat) (p.toNat ^ k) := by
      rw [Nat.pow_succ, Nat.mul_comm, pw_mul]
    have s : ∀ i, i ≤ n → pw f p.toNat i % p = dil p.toNat (fun j => pw f p.toNat (p.toNat * j)) i % p := by
      intro i _
      show _ = (if i % p.toNat = 0 then pw f p.toNat (p.toNat * (i / p.toNat)) else 0) % p
      by_cases z : i % p.toNat = 0
      · rw [if_pos z, Nat.mul_div_cancel' (Nat.dvd_of_mod_eq_zero z)]
      · rw [if_neg z, Int.zero_emod]
        refine pw_prime hp f fun d => z ?_
        have e2 : ((p.toNat : Nat) : Int) = p := Int.toNat_of_nonneg (by omega)
        rw [← e2] at d
        exact Nat.mod_eq_zero_of_dvd (Int.natCast_dvd_natCast.mp d)
    rw [e, pw_em _ s n (Nat.le_refl _), pw_dil q0]
    show (if n % p.toNat = 0 then pw (fun j => pw f p.toNat (p.toNat * j)) (p.toNat ^ k) (n / p.toNat) else 0) % p = 0
    by_cases z : n % p.toNat = 0
    · rw [if_pos z]
      refine ih _ _ fun w => h ?_
      rw [Nat.pow_succ, Nat.mul_comm, Nat.mod_mul, w, z]
      omega
    · rw [if_neg z, Int.zero_emod]
/-- Fermat -/
def fermCheck : Bool := primes.all fun p => (List.range p.toNat).all fun r => r == 0 || powm p r (p - 1).toNat == 1
theorem fermCheck_ok : fermCheck = true := by decide +kernel
theorem powm_pow {p r : Int} (n : Nat) : powm p r n % p = r ^ n % p := by
  induction n with
  | zero =>
    rw [Int.pow_zero]
    rfl
  | succ n ih =>
    show powm p r n * r % p % p = _
    rw [em_em, Int.pow_succ]
    exact em_mul ih rfl
theorem fermat {p r : Int} (hp : Prm p) (h0 : 0 < r) (h1 : r < p) : r ^ (p - 1).toNat % p = 1 := by
  have p2 := hp.pos
  have h := List.all_eq_true.mp fermCheck_ok p hp
  have h2 := List.all_eq_true.mp h r.toNat (List.mem_range.mpr (by omega))
  have e : ((r.toNat : Nat) : Int) = r := Int.toNat_of_nonneg (Int.le_of_lt h0)
  have ne : (r.toNat == 0) = false := by
    rw [beq_eq_false_iff_ne]
    omega
  rw [ne, Bool.false_or] at h2
  have h3 := beq_iff_eq.mp h2
  rw [e] at h3
  rw [← powm_pow, h3]
  exact Int.emod_eq_of_lt (by decide) (by omega)
theorem pow_emod {p a b : Int} (h : a % p = b % p) (n : Nat) : a ^ n % p = b ^ n % p := by
  induction n with
  | zero => rw [Int.pow_zero, Int.pow_zero]
  | succ n ih =>
    rw [Int.pow_succ, Int.pow_succ]
    exact em_mul ih h
/-- raised by a whole turn a row that doesn't begin with 0 is the row 1 -/
theorem pw_turn {p : Int} (hp : Prm p) {f : Sq} (h0 : f 0 % p ≠ 0) (k : Nat) {n : Nat} (hn : n < p.toNat ^ k) : pw f (p.toNat ^ k * (p - 1).toNat) n % p = one n % p := by
  have p2 := hp.pos
  rw [pw_mul]
  have s : ∀ i, i ≤ n → pw f (p.toNat ^ k) i % p = smul (f 0 ^ (p.toNat ^ k)) one i % p := by
    intro i hi
    show _ = (f 0 ^ (p.toNat ^ k) * (if i = 0 then 1 else 0)) % p
    by_cases z : i = 0
    · subst z
      rw [pw_at0, if_pos rfl, Int.mul_one]
    · rw [if_neg z, Int.mul_zero, Int.zero_emod]
      refine pw_primes hp k f i ?_
      rw [Nat.mod_eq_of_lt (by omega)]
      exact z
  rw [pw_em _ s n (Nat.le_refl _)]
  have e : ∀ m : Nat, pw (smul (f 0 ^ (p.toNat ^ k)) one) m = smul ((f 0 ^ (p.toNat ^ k)) ^ m) one := by
    intro m
    induction m with
    | zero =>
      rw [Int.pow_zero]
      exact funext fun n => (Int.one_mul _).symm
    | succ m ih =>
      show cv (pw (smul (f 0 ^ (p.toNat ^ k)) one) m) (smul (f 0 ^ (p.toNat ^ k)) one) = _
      rw [ih]
      funext n
      show cv (fun n => (f 0 ^ (p.toNat ^ k)) ^ m * one n) (fun n => f 0 ^ (p.toNat ^ k) * one n) n = (f 0 ^ (p.toNat ^ k)) ^ (m + 1) * one n
      rw [cv_smul_left, cv_smul_right, cv_one_left, Int.pow_succ, Int.mul_assoc]
  rw [e]
  have r0 := Int.emod_nonneg (f 0) (show p ≠ 0 by omega)
  have r1 := Int.emod_lt_of_pos (f 0) (show 0 < p by omega)
  have fm := fermat hp (show 0 < f 0 % p by omega) r1
  have f1 : (f 0 ^ (p - 1).toNat) % p = 1 % p := by
    rw [pow_emod (em_em (f 0)).symm, fm, Int.emod_eq_of_lt (by decide) (by omega)]
  have f2 : ((f 0 ^ (p.toNat ^ k)) ^ (p - 1).toNat) % p = 1 % p := by
    rw [← Int.pow_mul, Nat.mul_comm, Int.pow_mul, pow_emod f1, Int.one_pow]
  show ((f 0 ^ (p.toNat ^ k)) ^ (p - 1).toNat * one n) % p = one n % p
  rw [em_mul f2 rfl, Int.one_mul]
/-- a count and what it leaves by a whole turn -/
theorem pw_rest {p : Int} (hp : Prm p) {f : Sq} (h0 : f 0 % p ≠ 0) (k m : Nat) {n : Nat} (hn : n < p.toNat ^ k) : pw f m n % p = pw f (m % (p.toNat ^ k * (p - 1).toNat)) n % p := by
  have e : m = (p.toNat ^ k * (p - 1).toNat) * (m / (p.toNat ^ k * (p - 1).toNat)) + m % (p.toNat ^ k * (p - 1).toNat) := (Nat.div_add_mod _ _).symm
  conv => lhs; rw [e]
  rw [pw_add, pw_mul]
  have s : ∀ i, i ≤ n → pw (pw f (p.toNat ^ k * (p - 1).toNat)) (m / (p.toNat ^ k * (p - 1).toNat)) i % p = one i % p := by
    intro i hi
    rw [pw_em (g := one) (n := n) _ (fun j hj => pw_turn hp h0 k (by omega)) i hi, pw_one_fun]
  rw [cv_em s fun _ _ => rfl, cv_one_left]
/-! ### the values that raised tells -/
def powL (p : Int) (xs : List Int) (m : Nat) : List Int := (List.range xs.length).map fun n => pw (sq xs) m n % p
theorem powL_len (p : Int) (xs : List Int) (m : Nat) : (powL p xs m).length = xs.length := by
  unfold powL
  rw [List.length_map, List.length_range]
theorem sq_powL {p : Int} {xs : List Int} {m n : Nat} (h : n < xs.length) : sq (powL p xs m) n = pw (sq xs) m n % p := sq_map_range h
theorem powL_rowp {p : Int} (hp : 0 < p) {xs : List Int} (R : Rowp p xs) (m : Nat) : Rowp p (powL p xs m) := rowp_map hp R.lo R.hi
theorem powL_mul (p : Int) (xs : List Int) (a b : Nat) : prodL p (powL p xs a) (powL p xs b) = powL p xs (a + b) := by
  have l : (prodL p (powL p xs a) (powL p xs b)).length = xs.length := by
    rw [prodL_len, powL_len, powL_len]
    omega
  refine ext_sq (by rw [l, powL_len]) fun n hn => ?_
  rw [l] at hn
  rw [sq_prodL (by rw [powL_len, powL_len]; omega), sq_powL hn, pw_add]
  exact cv_em (fun i hi => by rw [sq_powL (by omega), em_em]) (fun i hi => by rw [sq_powL (by omega), em_em])
theorem powL_one {p : Int} {xs : List Int} (R : Rowp p xs) : powL p xs 1 = xs := by
  refine ext_sq (powL_len _ _ _) fun n hn => ?_
  rw [powL_len] at hn
  rw [sq_powL hn, pw_one, R.em hn]
theorem powL_succ {p : Int} {xs : List Int} (R : Rowp p xs) (m : Nat) : prodL p (powL p xs m) xs = powL p xs (m + 1) := by
  conv => lhs; rw [← powL_one R]
  rw [powL_one R]
  have := powL_mul p xs m 1
  rw [powL_one R] at this
  exact this
theorem powL_zero {p : Int} (hp : 1 < p) {xs : List Int} (h : 1 ≤ xs.length) : powL p xs 0 = 1 :: List.replicate (xs.length - 1) 0 := by
  refine ext_sq ?_ fun n hn => ?_
  · rw [powL_len, List.length_cons, List.length_replicate]
    omega
  · rw [powL_len] at hn
    rw [sq_powL hn]
    show (if n = 0 then (1 : Int) else 0) % p = _
    cases n with
    | zero =>
      rw [if_pos rfl]
      exact Int.emod_eq_of_lt (by decide) hp
    | succ n =>
      rw [if_neg (Nat.succ_ne_zero _), Int.zero_emod]
      show (0 : Int) = (List.replicate (xs.length - 1) 0).getD n 0
      rw [List.getD_eq_getElem?_getD, List.getElem?_replicate]
      split <;> rfl
/-- the same for counts that the rows don't tell apart -/
theorem powL_low {p : Int} {xs : List Int} (h0 : sq xs 0 = 0) (m : Nat) : powL p xs m = powL p xs (min m xs.length) := by
  by_cases c : m ≤ xs.length
  · rw [Nat.min_eq_left c]
  · rw [Nat.min_eq_right (by omega)]
    unfold powL
    apply List.map_congr_left
    intro n hn
    have hn := List.mem_range.mp hn
    rw [pw_low h0 m n (by omega), pw_low h0 xs.length n hn]
theorem powL_turn {p : Int} (hp : Prm p) {xs : List Int} (h0 : sq xs 0 % p ≠ 0) (k m : Nat) (hk : xs.length ≤ p.toNat ^ k) : powL p xs m = powL p xs (m % (p.toNat ^ k * (p - 1).toNat)) := by
  unfold powL
  apply List.map_congr_left
  intro n hn
  have hn := List.mem_range.mp hn
  exact pw_rest hp h0 k m (by omega)
end Pw

namespace Pw
/-! ### roots -/
/-- the lesser rest that multiplied by itself comes to r; 0 where there is none -/
def lroot (p r : Int) : Int := (((List.range (p / 2).toNat).map fun (i : Nat) => (i : Int) + 1).find? fun l => l * l % p == r).getD 0
def squares (p : Int) : List Int := (List.range (p - 1).toNat).map fun (i : Nat) => ((i : Int) + 1) * ((i : Int) + 1) % p
def rootCheck : Bool := primes.all fun p => p == 2 || (List.range p.toNat).all fun r => (squares p).contains (r : Int) == !(lroot p r == 0)
theorem rootCheck_ok : rootCheck = true := by decide +kernel
theorem squares_lroot {p r : Int} (hp : Prm p) (h2 : p ≠ 2) (h0 : 0 ≤ r) (h1 : r < p) : r ∈ squares p ↔ lroot p r ≠ 0 := by
  have p2 := hp.pos
  have h := List.all_eq_true.mp rootCheck_ok p hp
  have ne : (p == 2) = false := by
    rw [beq_eq_false_iff_ne]
    exact h2
  rw [ne, Bool.false_or] at h
  have h3 := beq_iff_eq.mp (List.all_eq_true.mp h r.toNat (List.mem_range.mpr (by omega)))
  have e : ((r.toNat : Nat) : Int) = r := Int.toNat_of_nonneg h0
  rw [e] at h3
  rw [← List.contains_iff_mem, h3, Bool.not_eq_true', beq_eq_false_iff_ne]
theorem lroot_some {p r : Int} (h : lroot p r ≠ 0) : 1 ≤ lroot p r ∧ lroot p r ≤ p / 2 ∧ lroot p r * lroot p r % p = r := by
  unfold lroot at h ⊢
  cases e : (((List.range (p / 2).toNat).map fun (i : Nat) => (i : Int) + 1).find? fun l => l * l % p == r) with
  | none =>
    rw [e] at h
    exact absurd rfl h
  | some l =>
    have h1 := List.find?_some e
    have h2 := List.mem_of_find?_eq_some e
    obtain ⟨i, hi, rfl⟩ := List.mem_map.mp h2
    have hi := List.mem_range.mp hi
    refine ⟨?_, ?_, beq_iff_eq.mp h1⟩
    · show 1 ≤ (i : Int) + 1
      omega
    · show (i : Int) + 1 ≤ p / 2
      omega
/-- the root's first places -/
def rtL (p half first : Int) (f : Sq) : Nat → List Int
  | 0 => [first]
  | n + 1 => rtL p half first f n ++ [(f (n + 1) - ((List.range n).map fun i => sq (rtL p half first f n) (i + 1) * sq (rtL p half first f n) (n - i)).sum) * half % p]
theorem rtL_len (p half first : Int) (f : Sq) (n : Nat) : (rtL p half first f n).length = n + 1 := by
  induction n with
  | zero => rfl
  | succ n ih =>
    show (rtL p half first f n ++ [_]).length = n + 1 + 1
    rw [List.length_append, ih]
    rfl
theorem rtL_sq (p half first : Int) (f : Sq) {n m : Nat} (h : n ≤ m) : sq (rtL p half first f m) n = sq (rtL p half first f n) n := by
  induction m with
  | zero =>
    obtain rfl : n = 0 := by omega
    rfl
  | succ m ih =>
    by_cases e : n = m + 1
    · rw [e]
    · show sq (rtL p half first f m ++ [_]) n = _
      rw [sq_append_left (by rw [rtL_len]; omega)]
      exact ih (by omega)
theorem rtL_at (p half first : Int) (f : Sq) (n : Nat) : sq (rtL p half first f (n + 1)) (n + 1) = (f (n + 1) - ((List.range n).map fun i => sq (rtL p half first f n) (i + 1) * sq (rtL p half first f n) (n - i)).sum) * half % p := by
  have h := sq_append_at (xs := rtL p half first f n) (y := (f (n + 1) - ((List.range n).map fun i => sq (rtL p half first f n) (i + 1) * sq (rtL p half first f n) (n - i)).sum) * half % p)
  rw [rtL_len] at h
  exact h
theorem rtL_zero (p half first : Int) (f : Sq) (m : Nat) : sq (rtL p half first f m) 0 = first := by
  rw [rtL_sq p half first f (Nat.zero_le m)]
  rfl
theorem rtL_rest {p half first : Int} {f : Sq} (hp : 0 < p) (h : 0 ≤ first ∧ first < p) (n : Nat) : ∀ x ∈ rtL p half first f n, 0 ≤ x ∧ x < p := by
  induction n with
  | zero =>
    intro x hx
    obtain rfl := List.mem_singleton.mp hx
    exact h
  | succ n ih =>
    intro x hx
    rcases List.mem_append.mp hx with hx | hx
    · exact ih x hx
    · obtain rfl := List.mem_singleton.mp hx
      exact ⟨Int.emod_nonneg _ (by omega), Int.emod_lt_of_pos _ hp⟩
/-- a row by itself: both ends, and what lies between -/
theorem cv_self (t : Sq) (n : Nat) : cv t t (n + 1) = 2 * t 0 * t (n + 1) + ((List.range n).map fun i => t (i + 1) * t (n - i)).sum := by
  rw [← sum_cv, List.range_succ, List.map_append, List.sum_append, List.range_succ_eq_map, List.map_cons, List.map_map, List.sum_cons]
  have e : (List.range n).map ((fun i => t i * t (n + 1 - i)) ∘ Nat.succ) = (List.range n).map fun i => t (i + 1) * t (n - i) := by
    apply List.map_congr_left
    intro i _
    show t (i + 1) * t (n + 1 - (i + 1)) = _
    rw [Nat.add_sub_add_right]
  rw [e]
  show t 0 * t (n + 1) + _ + (t (n + 1) * t (n + 1 - (n + 1)) + 0) = _
  rw [Nat.sub_self, Int.mul_comm (t (n + 1)), Int.mul_assoc, Int.two_mul]
  omega
theorem rtL_mul {p half first : Int} {f : Sq} (hh : half * (2 * first) % p = 1 % p) (h0 : first * first % p = f 0 % p) {m n : Nat} (h : n ≤ m) : cv (sq (rtL p half first f m)) (sq (rtL p half first f m)) n % p = f n % p := by
  cases n with
  | zero =>
    show sq (rtL p half first f m) 0 * sq (rtL p half first f m) 0 % p = _
    rw [rtL_zero, h0]
  | succ n =>
    rw [cv_self, rtL_zero]
    have e2 : (List.range n).map (fun i => sq (rtL p half first f m) (i + 1) * sq (rtL p half first f m) (n - i)) = (List.range n).map fun i => sq (rtL p half first f n) (i + 1) * sq (rtL p half first f n) (n - i) := by
      apply List.map_congr_left
      intro i hi
      have hi := List.mem_range.mp hi
      rw [rtL_sq p half first f (show i + 1 ≤ m by omega), ← rtL_sq p half first f (show i + 1 ≤ n by omega), rtL_sq p half first f (show n - i ≤ m by omega), ← rtL_sq p half first f (show n - i ≤ n by omega)]
    rw [e2, rtL_sq p half first f h, rtL_at]
    generalize ((List.range n).map fun i => sq (rtL p half first f n) (i + 1) * sq (rtL p half first f n) (n - i)).sum = S
    have a1 : 2 * first * ((f (n + 1) - S) * half % p) % p = (f (n + 1) - S) % p := by
      have b1 : 2 * first * ((f (n + 1) - S) * half % p) % p = (2 * first * ((f (n + 1) - S) * half)) % p := em_mul rfl (em_em _)
      have b2 : 2 * first * ((f (n + 1) - S) * half) = (f (n + 1) - S) * (half * (2 * first)) := by
        rw [Int.mul_left_comm, Int.mul_comm (2 * first) half]
      have b3 : (f (n + 1) - S) * (half * (2 * first)) % p = (f (n + 1) - S) * 1 % p := em_mul rfl hh
      rw [b1, b2, b3, Int.mul_one]
    rw [em_add a1 (rfl : S % p = S % p)]
    congr 1
    omega
/-- what root tells -/
def rootL (p : Int) (xs : List Int) : List Int := rtL p (inv p (2 * lroot p (sq xs 0))) (lroot p (sq xs 0)) (sq xs) (xs.length - 1)
theorem rootL_len {p : Int} {xs : List Int} (h : 1 ≤ xs.length) : (rootL p xs).length = xs.length := by
  unfold rootL
  rw [rtL_len]
  omega
theorem odd_half {p : Int} (hp : Prm p) (h2 : p ≠ 2) : p % 2 = 1 := by
  unfold Prm primes at hp
  simp only [List.mem_cons, List.not_mem_nil, or_false] at hp
  omega
theorem rootL_rowp {p : Int} {xs : List Int} (hp : Prm p) (R : Rowp p xs) (hr : lroot p (sq xs 0) ≠ 0) : Rowp p (rootL p xs) := by
  have p2 := hp.pos
  have l := lroot_some hr
  exact ⟨by rw [rootL_len R.lo]; exact R.lo, by rw [rootL_len R.lo]; exact R.hi, rtL_rest (by omega) (by omega) _⟩
theorem rootL_mul {p : Int} {xs : List Int} (hp : Prm p) (h2 : p ≠ 2) (R : Rowp p xs) (hr : lroot p (sq xs 0) ≠ 0) : prodL p (rootL p xs) (rootL p xs) = xs := by
  have p2 := hp.pos
  have po := odd_half hp h2
  have l := lroot_some hr
  have r0 := R.lo
  have hlen : (prodL p (rootL p xs) (rootL p xs)).length = xs.length := by
    rw [prodL_len, rootL_len r0]
    omega
  refine ext_sq hlen fun n hn => ?_
  rw [hlen] at hn
  rw [sq_prodL (by rw [rootL_len r0]; omega), ← R.em hn]
  unfold rootL
  have hi := inv_ok hp (show 0 < 2 * lroot p (sq xs 0) by omega) (by omega)
  exact rtL_mul (by rw [hi, Int.emod_eq_of_lt (by decide) (by omega)]) (by rw [l.2.2, R.em (by omega)]) (by omega)
theorem rootL_zero (p : Int) (xs : List Int) : sq (rootL p xs) 0 = lroot p (sq xs 0) := rtL_zero _ _ _ _ _
/-! ### the row 1 ahead of the prime's power -/
theorem powL_prime5 {p : Int} (hp : Prm p) {xs : List Int} (R : Rowp p xs) (h1 : sq xs 0 = 1) : powL p xs (p ^ 5).toNat = 1 :: List.replicate (xs.length - 1) 0 := by
  have p2 := hp.pos
  have hl := R.lo
  have hu := R.hi
  have ep : ((p.toNat : Nat) : Int) = p := Int.toNat_of_nonneg (by omega)
  have e5 : (p ^ 5).toNat = p.toNat ^ 5 := by
    have : p ^ 5 = ((p.toNat ^ 5 : Nat) : Int) := by rw [Int.natCast_pow, ep]
    rw [this, Int.toNat_natCast]
  have big : 32 ≤ p.toNat ^ 5 := Nat.pow_le_pow_left (show 2 ≤ p.toNat by omega) 5
  rw [e5]
  refine ext_sq ?_ fun n hn => ?_
  · rw [powL_len, List.length_cons, List.length_replicate]
    omega
  · rw [powL_len] at hn
    rw [sq_powL hn]
    cases n with
    | zero =>
      rw [pw_at0, h1, Int.one_pow]
      exact Int.emod_eq_of_lt (by decide) (by omega)
    | succ n =>
      rw [pw_primes hp 5 (sq xs) (n + 1) (by rw [Nat.mod_eq_of_lt (by omega)]; omega)]
      show (0 : Int) = (List.replicate (xs.length - 1) 0).getD n 0
      rw [List.getD_eq_getElem?_getD, List.getElem?_replicate]
      split <;> rfl
end Pw
namespace Pw
theorem find_range {m i : Nat} {f : Nat → Int} {pr : Int → Bool} (hi : i < m) (hf : ∀ j, j < i → pr (f j) = false) (ht : pr (f i) = true) : ((List.range m).map f).find? pr = some (f i) := by
  rw [List.find?_eq_some_iff_getElem]
  refine ⟨ht, i, by rw [List.length_map, List.length_range]; exact hi, by rw [List.getElem_map, List.getElem_range], fun j hj => ?_⟩
  rw [List.getElem_map, List.getElem_range, hf j hj]
  rfl
theorem find_none {m : Nat} {f : Nat → Int} {pr : Int → Bool} (hf : ∀ j, j < m → pr (f j) = false) : ((List.range m).map f).find? pr = none := by
  rw [List.find?_eq_none]
  intro x hx
  obtain ⟨j, hj, rfl⟩ := List.mem_map.mp hx
  rw [hf j (List.mem_range.mp hj)]
  exact Bool.false_ne_true
end Pw
namespace Pw
theorem Rowp.cons {p c : Int} {xs : List Int} (R : Rowp p xs) (h0 : 0 ≤ c) (h1 : c < p) (hl : xs.length ≤ 19) : Rowp p (c :: xs) :=
  ⟨by rw [List.length_cons]; omega, by rw [List.length_cons]; omega, fun x hx => by
    rcases List.mem_cons.mp hx with e | hx
    · rw [e]
      exact ⟨h0, h1⟩
    · exact R.rest x hx⟩
end Pw

namespace Pw
/-! ### sequences put in one another -/
/-- the sum over the first m places of f of its rest times the power of h -/
def com (m : Nat) (f h : Sq) (n : Nat) : Int := ((List.range m).map fun i => f i * pw h i n).sum
def co (f h : Sq) (n : Nat) : Int := com (n + 1) f h n
def xs1 : Sq := sh one
theorem com_succ (m : Nat) (f h : Sq) (n : Nat) : com (m + 1) f h n = com m f h n + f m * pw h m n := by
  unfold com
  rw [List.range_succ, List.map_append, List.sum_append]
  show _ + (f m * pw h m n + 0) = _
  rw [Int.add_zero]
theorem com_zero (f h : Sq) (n : Nat) : com 0 f h n = 0 := rfl
theorem com_congr {m : Nat} {f f' : Sq} (h : Sq) (n : Nat) (e : ∀ i, i < m → f i = f' i) : com m f h n = com m f' h n := by
  unfold com
  congr 1
  apply List.map_congr_left
  intro i hi
  rw [e i (List.mem_range.mp hi)]
theorem com_em {p : Int} {m : Nat} {f f' h h' : Sq} {n : Nat} (e : ∀ i, i < m → f i % p = f' i % p) (eh : ∀ i, i ≤ n → h i % p = h' i % p) : com m f h n % p = com m f' h' n % p := by
  induction m with
  | zero => rfl
  | succ m ih =>
    rw [com_succ, com_succ]
    exact em_add (ih fun i hi => e i (by omega)) (em_mul (e m (by omega)) (pw_em m eh n (Nat.le_refl _)))
theorem cv_com (m : Nat) (f h g : Sq) (n : Nat) : cv g (com m f h) n = ((List.range m).map fun i => f i * cv g (pw h i) n).sum := by
  induction m with
  | zero => exact cv_zer_right g n
  | succ m ih =>
    have e : com (m + 1) f h = fun n => com m f h n + (fun n => f m * pw h m n) n := funext fun n => com_succ m f h n
    rw [e, cv_add_right, cv_smul_right, ih, List.range_succ, List.map_append, List.sum_append]
    show _ = _ + (f m * cv g (pw h m) n + 0)
    rw [Int.add_zero]
theorem pw_succ_left (h : Sq) (m : Nat) : pw h (m + 1) = cv h (pw h m) := by
  show cv (pw h m) h = _
  rw [cv_fun_comm]
/-- by the first place of f and the others -/
theorem com_step (m : Nat) (f h : Sq) (n : Nat) : com (m + 1) f h n = f 0 * one n + cv h (com m (tl f) h) n := by
  rw [cv_com]
  show ((List.range (m + 1)).map fun i => f i * pw h i n).sum = _
  rw [List.range_succ_eq_map, List.map_cons, List.map_map, List.sum_cons]
  have e : (List.range m).map ((fun i => f i * pw h i n) ∘ Nat.succ) = (List.range m).map fun i => tl f i * cv h (pw h i) n := by
    apply List.map_congr_left
    intro i _
    show f (i + 1) * pw h (i + 1) n = f (i + 1) * cv h (pw h i) n
    rw [pw_succ_left]
  rw [e]
  rfl
theorem com_more {f h : Sq} (h0 : h 0 = 0) {m n : Nat} (hm : n < m) : com m f h n = co f h n := by
  obtain ⟨d, rfl⟩ : ∃ d, m = n + 1 + d := ⟨m - (n + 1), by omega⟩
  clear hm
  induction d with
  | zero => rfl
  | succ d ih =>
    rw [show n + 1 + (d + 1) = (n + 1 + d) + 1 by omega, com_succ, ih, pw_low h0 (n + 1 + d) n (by omega), Int.mul_zero, Int.add_zero]
theorem cv_congr0 {g F F' : Sq} (g0 : g 0 = 0) {n : Nat} (e : ∀ i, i < n → F i = F' i) : cv g F n = cv g F' n := by
  rw [cv_comm g, cv_comm g]
  cases n with
  | zero =>
    show F 0 * g 0 = F' 0 * g 0
    rw [g0, Int.mul_zero, Int.mul_zero]
  | succ n =>
    rw [cv_succ, cv_succ, g0, Int.mul_zero, Int.mul_zero]
    congr 1
    exact cv_congr (fun i hi => e i (by omega)) fun _ _ => rfl
theorem co_step {f h : Sq} (h0 : h 0 = 0) (n : Nat) : co f h n = f 0 * one n + cv h (co (tl f) h) n := by
  show com (n + 1) f h n = _
  rw [com_step]
  congr 1
  exact cv_congr0 h0 fun i hi => com_more h0 (by omega)
theorem co_at0 {f h : Sq} (h0 : h 0 = 0) : co f h 0 = f 0 := by
  rw [co_step h0]
  show f 0 * 1 + h 0 * _ = f 0
  rw [h0, Int.zero_mul, Int.mul_one, Int.add_zero]
theorem com_add (m : Nat) (f g h : Sq) (n : Nat) : com m (fun i => f i + g i) h n = com m f h n + com m g h n := by
  unfold com
  rw [← sum_map_add]
  congr 1
  apply List.map_congr_left
  intro i _
  exact Int.add_mul _ _ _
theorem com_smul (m : Nat) (c : Int) (f h : Sq) (n : Nat) : com m (fun i => c * f i) h n = c * com m f h n := by
  unfold com
  rw [← sum_map_mul]
  congr 1
  apply List.map_congr_left
  intro i _
  exact Int.mul_assoc _ _ _
/-- products are kept -/
theorem co_mul {h : Sq} (h0 : h 0 = 0) (n : Nat) : ∀ (f g : Sq), co (cv f g) h n = cv (co f h) (co g h) n := by
  induction n using Nat.strongRecOn with
  | ind n ih =>
    intro f g
    rw [co_step h0]
    have ef : co f h = fun k => f 0 * one k + cv h (co (tl f) h) k := funext fun k => co_step h0 k
    have eg : ∀ k, co (tl (cv f g)) h k = f 0 * co (tl g) h k + co (cv (tl f) g) h k := fun k => by
      show com (k + 1) (fun i => (fun i => f 0 * tl g i) i + cv (tl f) g i) h k = _
      rw [com_add, com_smul]
      rfl
    have e1 : cv h (co (tl (cv f g)) h) n = f 0 * cv h (co (tl g) h) n + cv h (co (cv (tl f) g) h) n := by
      rw [show co (tl (cv f g)) h = fun k => (fun k => f 0 * co (tl g) h k) k + co (cv (tl f) g) h k from funext eg, cv_add_right, cv_smul_right]
    have e2 : cv h (co (cv (tl f) g) h) n = cv h (cv (co (tl f) h) (co g h)) n := cv_congr0 h0 fun i hi => ih i hi (tl f) g
    rw [e1, e2]
    conv => rhs; rw [ef]
    rw [cv_add_left, cv_smul_left, cv_one_left, cv_assoc, co_step (f := g) h0]
    show f 0 * g 0 * one n + _ = _
    rw [Int.mul_add, Int.mul_assoc]
    omega
theorem co_one {h : Sq} (h0 : h 0 = 0) (n : Nat) : co one h n = one n := by
  rw [co_step h0]
  have e : cv h (co (tl one) h) n = 0 := by
    have z : co (tl one) h = zer := funext fun k => by
      show com (k + 1) (tl one) h k = 0
      have : tl one = fun i => 0 * one i := funext fun i => by
        show (if i + 1 = 0 then (1 : Int) else 0) = _
        rw [if_neg (Nat.succ_ne_zero _), Int.zero_mul]
      rw [this, com_smul, Int.zero_mul]
    rw [z, cv_zer_right]
  rw [e, Int.add_zero]
  show (1 : Int) * one n = one n
  rw [Int.one_mul]
theorem co_pw {h : Sq} (h0 : h 0 = 0) (g : Sq) (i : Nat) : co (pw g i) h = pw (co g h) i := by
  induction i with
  | zero => exact funext fun n => co_one h0 n
  | succ i ih =>
    funext n
    show co (cv (pw g i) g) h n = cv (pw (co g h) i) (co g h) n
    rw [co_mul h0, ih]
/-- either way round -/
theorem co_assoc {g h : Sq} (g0 : g 0 = 0) (h0 : h 0 = 0) (n : Nat) : ∀ f : Sq, co (co f g) h n = co f (co g h) n := by
  induction n using Nat.strongRecOn with
  | ind n ih =>
    intro f
    have G0 : co g h 0 = 0 := by rw [co_at0 h0, g0]
    rw [co_step (f := f) G0]
    have ef : co f g = fun k => (fun k => f 0 * one k) k + cv g (co (tl f) g) k := funext fun k => co_step g0 k
    have e1 : co (co f g) h n = f 0 * co one h n + co (cv g (co (tl f) g)) h n := by
      conv => lhs; rw [ef]
      show com (n + 1) (fun k => (fun k => f 0 * one k) k + cv g (co (tl f) g) k) h n = _
      rw [com_add, com_smul]
      rfl
    rw [e1, co_one h0, co_mul h0]
    congr 1
    exact cv_congr0 G0 fun i hi => ih i hi (tl f)
theorem xs1_pw (i n : Nat) : pw xs1 i n = if n = i then 1 else 0 := by
  induction i generalizing n with
  | zero => rfl
  | succ i ih =>
    rw [pw_succ_left]
    show cv (sh one) (pw xs1 i) n = _
    rw [cv_sh_left]
    cases n with
    | zero =>
      rw [if_neg (by omega)]
      rfl
    | succ n =>
      show cv one (pw xs1 i) n = _
      rw [cv_one_left, ih]
      by_cases c : n = i
      · rw [if_pos c, if_pos (by omega)]
      · rw [if_neg c, if_neg (by omega)]
theorem co_id_right (f : Sq) (n : Nat) : co f xs1 n = f n := by
  show com (n + 1) f xs1 n = f n
  rw [com_succ, xs1_pw, if_pos rfl, Int.mul_one]
  have : com n f xs1 n = 0 := by
    unfold com
    rw [show (List.range n).map (fun i => f i * pw xs1 i n) = (List.range n).map fun _ => (0 : Int) from List.map_congr_left fun i hi => by
      rw [xs1_pw, if_neg (by have := List.mem_range.mp hi; omega), Int.mul_zero], sum_map_zero]
  rw [this, Int.zero_add]
theorem co_id_left {h : Sq} (h0 : h 0 = 0) (n : Nat) : co xs1 h n = h n := by
  rw [co_step h0]
  have e : tl xs1 = one := rfl
  have z : cv h (co (tl xs1) h) n = h n := by
    rw [e, show co one h = one from funext fun n => co_one h0 n, cv_one_right]
  rw [z]
  show (0 : Int) * one n + h n = h n
  rw [Int.zero_mul, Int.zero_add]
theorem co_em {p : Int} {f f' h h' : Sq} {n : Nat} (e : ∀ i, i ≤ n → f i % p = f' i % p) (eh : ∀ i, i ≤ n → h i % p = h' i % p) : co f h n % p = co f' h' n % p := com_em (fun i hi => e i (by omega)) eh
/-! ### the values that put_in tells -/
def putL (p : Int) (xs ys : List Int) : List Int := (List.range (min xs.length ys.length)).map fun n => co (sq xs) (sq ys) n % p
theorem putL_len (p : Int) (xs ys : List Int) : (putL p xs ys).length = min xs.length ys.length := by
  unfold putL
  rw [List.length_map, List.length_range]
theorem sq_putL {p : Int} {xs ys : List Int} {n : Nat} (h : n < min xs.length ys.length) : sq (putL p xs ys) n = co (sq xs) (sq ys) n % p := sq_map_range h
theorem putL_rowp {p : Int} (hp : 0 < p) {xs ys : List Int} (h1 : Rowp p xs) (h2 : Rowp p ys) : Rowp p (putL p xs ys) :=
  rowp_map hp (by have := h1.lo; have := h2.lo; omega) (by have := h1.hi; omega)
theorem putL_at0 {p : Int} {xs ys : List Int} (h1 : 1 ≤ xs.length) (h2 : 1 ≤ ys.length) (h0 : sq ys 0 = 0) : sq (putL p xs ys) 0 = sq xs 0 % p := by
  rw [sq_putL (by omega), co_at0 h0]
/-- so many places of three rows, either way round -/
theorem putL_assoc {p : Int} {xs ys zs : List Int} (g0 : sq ys 0 = 0) (h0 : sq zs 0 = 0) (hy : 1 ≤ ys.length) (hz : 1 ≤ zs.length) : (putL p (putL p xs ys) zs).take (min xs.length (min ys.length zs.length)) = (putL p xs (putL p ys zs)).take (min xs.length (min ys.length zs.length)) := by
  have hG : sq (putL p ys zs) 0 = 0 := by rw [putL_at0 hy hz h0, g0, Int.zero_emod]
  refine ext_sq ?_ fun n hn => ?_
  · rw [List.length_take, List.length_take, putL_len, putL_len, putL_len, putL_len]
    omega
  · rw [List.length_take, putL_len, putL_len] at hn
    rw [sq_take (by omega), sq_take (by omega), sq_putL (by rw [putL_len]; omega), sq_putL (by rw [putL_len]; omega)]
    have a : co (sq (putL p xs ys)) (sq zs) n % p = co (co (sq xs) (sq ys)) (sq zs) n % p := co_em (fun i hi => by rw [sq_putL (by omega), em_em]) fun _ _ => rfl
    have b : co (sq xs) (sq (putL p ys zs)) n % p = co (sq xs) (co (sq ys) (sq zs)) n % p := co_em (fun _ _ => rfl) fun i hi => by rw [sq_putL (by omega), em_em]
    rw [a, b, co_assoc g0 h0]
theorem sq_set_same {xs : List Int} {n : Nat} {v : Int} (h : n < xs.length) : sq (xs.set n v) n = v := by
  unfold sq
  rw [List.getD_eq_getElem?_getD, List.getElem?_set, if_pos rfl, if_pos h]
  rfl
theorem sq_set_ne {xs : List Int} {n j : Nat} {v : Int} (h : n ≠ j) : sq (xs.set j v) n = sq xs n := by
  unfold sq
  rw [List.getD_eq_getElem?_getD, List.getElem?_set, if_neg (fun z => h z.symm), ← List.getD_eq_getElem?_getD]
/-- as it is reckoned from the last place down: so many places are done -/
def hornL (p : Int) (f g : Sq) (N m : Nat) : List Int := (List.range N).map fun n => com m (shn f (N - m)) g n % p
theorem horn_step {p : Int} {f : Sq} {ys : List Int} {N m : Nat} (hm : m < N) (hN : N ≤ ys.length) : ((prodL p (hornL p f (sq ys) N m) ys).set 0 ((sq (prodL p (hornL p f (sq ys) N m) ys) 0 + f (N - (m + 1))) % p)) = hornL p f (sq ys) N (m + 1) := by
  have l : (hornL p f (sq ys) N m).length = N := by
    unfold hornL
    rw [List.length_map, List.length_range]
  have l2 : (prodL p (hornL p f (sq ys) N m) ys).length = N := by
    rw [prodL_len, l]
    omega
  have et : shn f (N - m) = tl (shn f (N - (m + 1))) := funext fun k => by
    show f (N - m + k) = f (N - (m + 1) + (k + 1))
    congr 1
    omega
  have key : ∀ n, n < N → (sq (prodL p (hornL p f (sq ys) N m) ys) n + f (N - (m + 1)) * one n) % p = com (m + 1) (shn f (N - (m + 1))) (sq ys) n % p := fun n hn => by
    rw [sq_prodL (by rw [l]; omega), com_step, ← et]
    have e : cv (sq (hornL p f (sq ys) N m)) (sq ys) n % p = cv (sq ys) (com m (shn f (N - m)) (sq ys)) n % p := by
      rw [cv_comm (sq ys)]
      refine cv_em (fun i hi => ?_) fun _ _ => rfl
      unfold hornL
      rw [sq_map_range (by omega), em_em]
    have e2 : (cv (sq (hornL p f (sq ys) N m)) (sq ys) n % p + f (N - (m + 1)) * one n) % p = (cv (sq ys) (com m (shn f (N - m)) (sq ys)) n + f (N - (m + 1)) * one n) % p := em_add (by rw [em_em, e]) rfl
    rw [e2, Int.add_comm]
    rfl
  refine ext_sq ?_ fun n hn => ?_
  · rw [List.length_set, l2]
    unfold hornL
    rw [List.length_map, List.length_range]
  · rw [List.length_set, l2] at hn
    have k := key n hn
    have r : sq (hornL p f (sq ys) N (m + 1)) n = com (m + 1) (shn f (N - (m + 1))) (sq ys) n % p := by
      unfold hornL
      rw [sq_map_range hn]
    rw [r, ← k]
    cases n with
    | zero =>
      rw [sq_set_same (by omega)]
      show _ = (_ + f (N - (m + 1)) * 1) % p
      rw [Int.mul_one]
    | succ n =>
      rw [sq_set_ne (by omega)]
      show _ = (_ + f (N - (m + 1)) * 0) % p
      rw [Int.mul_zero, Int.add_zero, sq_prodL (by rw [l]; omega), em_em]
theorem horn_end {p : Int} {xs ys : List Int} (h0 : sq ys 0 = 0) : hornL p (sq xs) (sq ys) (min xs.length ys.length) (min xs.length ys.length) = putL p xs ys := by
  unfold hornL putL
  apply List.map_congr_left
  intro n hn
  have e : shn (sq xs) (min xs.length ys.length - min xs.length ys.length) = sq xs := funext fun k => by
    show sq xs (_ + k) = _
    rw [Nat.sub_self, Nat.zero_add]
  rw [e, com_more h0 (List.mem_range.mp hn)]
theorem horn_zero (p : Int) (f g : Sq) (N : Nat) : hornL p f g N 0 = List.replicate N 0 := by
  unfold hornL
  refine ext_sq (by rw [List.length_map, List.length_range, List.length_replicate]) fun n hn => ?_
  rw [List.length_map, List.length_range] at hn
  rw [sq_map_range hn, com_zero, Int.zero_emod]
  show (0 : Int) = (List.replicate N 0).getD n 0
  rw [List.getD_eq_getElem?_getD, List.getElem?_replicate]
  split <;> rfl
end Pw

namespace Pw
/-! ### turned inside out -/
/-- what still lacks of 0, 1, 0, 0 .. behind so many places -/
def missL (p : Int) (xs ts : List Int) (k : Nat) : List Int := (List.range xs.length).map fun n => (xs1 n - com k (sq ts) (sq xs) n) % p
def shareOf (p : Int) (xs ts : List Int) (k : Nat) : Int := sq (missL p xs ts k) k * inv p (sq (powL p xs k) k) % p
/-- the first so many places -/
def turnL (p : Int) (xs : List Int) : Nat → List Int
  | 0 => []
  | 1 => [0]
  | k + 2 => turnL p xs (k + 1) ++ [shareOf p xs (turnL p xs (k + 1)) (k + 1)]
theorem turnL_len (p : Int) (xs : List Int) (k : Nat) : (turnL p xs k).length = k := by
  induction k with
  | zero => rfl
  | succ k ih =>
    cases k with
    | zero => rfl
    | succ k =>
      show (turnL p xs (k + 1) ++ [_]).length = k + 1 + 1
      rw [List.length_append, ih]
      rfl
theorem turnL_sq (p : Int) (xs : List Int) {n m : Nat} (h : n < m) : sq (turnL p xs m) n = sq (turnL p xs (n + 1)) n := by
  induction m with
  | zero => omega
  | succ m ih =>
    by_cases e : n = m
    · rw [e]
    · cases m with
      | zero => omega
      | succ m =>
        show sq (turnL p xs (m + 1) ++ [_]) n = _
        rw [sq_append_left (by rw [turnL_len]; omega)]
        exact ih (by omega)
theorem turnL_last (p : Int) (xs : List Int) (k : Nat) : sq (turnL p xs (k + 2)) (k + 1) = shareOf p xs (turnL p xs (k + 1)) (k + 1) := by
  have h := sq_append_at (xs := turnL p xs (k + 1)) (y := shareOf p xs (turnL p xs (k + 1)) (k + 1))
  rw [turnL_len] at h
  exact h
theorem turnL_rest {p : Int} (hp : 0 < p) (xs : List Int) (k : Nat) : ∀ x ∈ turnL p xs k, 0 ≤ x ∧ x < p := by
  induction k with
  | zero => exact fun x h => nomatch h
  | succ k ih =>
    cases k with
    | zero =>
      intro x hx
      obtain rfl := List.mem_singleton.mp hx
      exact ⟨Int.le_refl _, hp⟩
    | succ k =>
      intro x hx
      rcases List.mem_append.mp hx with hx | hx
      · exact ih x hx
      · obtain rfl := List.mem_singleton.mp hx
        exact ⟨Int.emod_nonneg _ (by omega), Int.emod_lt_of_pos _ hp⟩
theorem turnL_zero (p : Int) (xs : List Int) {m : Nat} (h : 0 < m) : sq (turnL p xs m) 0 = 0 := by
  rw [turnL_sq p xs h]
  rfl
/-- what lacks, by one place more -/
theorem com_turn (p : Int) (xs : List Int) (k n : Nat) : com (k + 2) (sq (turnL p xs (k + 2))) (sq xs) n = com (k + 1) (sq (turnL p xs (k + 1))) (sq xs) n + shareOf p xs (turnL p xs (k + 1)) (k + 1) * pw (sq xs) (k + 1) n := by
  rw [com_succ, turnL_last]
  congr 1
  refine com_congr _ _ fun i hi => ?_
  rw [turnL_sq p xs (show i < k + 2 by omega), ← turnL_sq p xs hi]
theorem missL_len (p : Int) (xs ts : List Int) (k : Nat) : (missL p xs ts k).length = xs.length := by
  unfold missL
  rw [List.length_map, List.length_range]
theorem sq_missL {p : Int} {xs ts : List Int} {k n : Nat} (h : n < xs.length) : sq (missL p xs ts k) n = (xs1 n - com k (sq ts) (sq xs) n) % p := sq_map_range h
theorem miss_step {p : Int} (xs : List Int) (k n : Nat) (h : n < xs.length) : (sq (missL p xs (turnL p xs (k + 1)) (k + 1)) n - shareOf p xs (turnL p xs (k + 1)) (k + 1) * sq (powL p xs (k + 1)) n) % p = sq (missL p xs (turnL p xs (k + 2)) (k + 2)) n := by
  rw [sq_missL h, sq_missL h, com_turn, sq_powL h]
  have e : ((xs1 n - com (k + 1) (sq (turnL p xs (k + 1))) (sq xs) n) % p - shareOf p xs (turnL p xs (k + 1)) (k + 1) * (pw (sq xs) (k + 1) n % p)) % p = ((xs1 n - com (k + 1) (sq (turnL p xs (k + 1))) (sq xs) n) - shareOf p xs (turnL p xs (k + 1)) (k + 1) * pw (sq xs) (k + 1) n) % p := em_sub (em_em _) (em_mul rfl (em_em _))
  rw [e]
  congr 1
  omega
theorem pw_diag {h : Sq} (h0 : h 0 = 0) (k : Nat) : pw h k k = h 1 ^ k := by
  induction k with
  | zero =>
    rw [Int.pow_zero]
    rfl
  | succ k ih =>
    show cv (pw h k) h (k + 1) = _
    rw [cv_comm]
    show h 0 * pw h k (k + 1) + cv (tl h) (pw h k) k = _
    rw [h0, Int.zero_mul, Int.zero_add]
    have e : cv (tl h) (pw h k) k = h 1 * pw h k k := by
      cases k with
      | zero => rfl
      | succ k =>
        show h 1 * pw h (k + 1) (k + 1) + cv (tl (tl h)) (pw h (k + 1)) k = _
        have z : cv (tl (tl h)) (pw h (k + 1)) k = 0 := cv_low (a := 0) (b := k + 1) (fun i hi => absurd hi (Nat.not_lt_zero _)) (fun i hi => pw_low h0 _ i hi) k (by omega)
        rw [z, Int.add_zero]
    rw [e, ih, Int.pow_succ, Int.mul_comm]
theorem pow_ne {p r : Int} (hp : Prm p) (h0 : 0 < r) (h1 : r < p) (k : Nat) : r ^ k % p ≠ 0 := by
  have p2 := hp.pos
  induction k with
  | zero =>
    rw [Int.pow_zero, Int.emod_eq_of_lt (by decide) (by omega)]
    decide
  | succ k ih =>
    intro z
    refine ih ?_
    have hi := inv_ok hp h0 h1
    have e : r ^ k % p = (r ^ (k + 1) * inv p r) % p := by
      rw [Int.pow_succ, Int.mul_assoc, Int.mul_comm r]
      have : (r ^ k * (inv p r * r)) % p = (r ^ k * 1) % p := em_mul rfl (by rw [hi, Int.emod_eq_of_lt (by decide) (by omega)])
      rw [this, Int.mul_one]
    rw [e, em_mul (z.trans (Int.zero_emod p).symm) rfl, Int.zero_mul, Int.zero_emod]
/-- ahead of the place that is reckoned nothing lacks -/
theorem miss_zero {p : Int} (hp : Prm p) {xs : List Int} (R : Rowp p xs) (x0 : sq xs 0 = 0) (x1 : sq xs 1 ≠ 0) (k : Nat) : k + 1 ≤ xs.length → ∀ n, n < k + 1 → sq (missL p xs (turnL p xs (k + 1)) (k + 1)) n = 0 := by
  have p2 := hp.pos
  induction k with
  | zero =>
    intro hk n hn
    obtain rfl : n = 0 := by omega
    rw [sq_missL (by omega), com_succ, com_zero]
    show (0 - (0 + 0 * pw (sq xs) 0 0)) % p = 0
    rw [Int.zero_mul]
    exact Int.zero_emod p
  | succ k ih =>
    intro hk n hn
    rw [← miss_step xs k n (by omega)]
    by_cases c : n < k + 1
    · rw [ih (by omega) n c, sq_powL (by omega), pw_low x0 (k + 1) n c, Int.zero_emod, Int.mul_zero]
      exact Int.zero_emod p
    · obtain rfl : n = k + 1 := by omega
      have b1 := R.at (n := 1) (by omega)
      have d : sq (powL p xs (k + 1)) (k + 1) = sq xs 1 ^ (k + 1) % p := by rw [sq_powL (by omega), pw_diag x0]
      have nz := pow_ne hp (show 0 < sq xs 1 by omega) b1.2 (k + 1)
      have d0 := Int.emod_nonneg (sq xs 1 ^ (k + 1)) (show p ≠ 0 by omega)
      have d1 := Int.emod_lt_of_pos (sq xs 1 ^ (k + 1)) (show 0 < p by omega)
      have hi := inv_ok hp (show 0 < sq (powL p xs (k + 1)) (k + 1) by omega) (by omega)
      unfold shareOf
      generalize sq (missL p xs (turnL p xs (k + 1)) (k + 1)) (k + 1) = M
      generalize hP : sq (powL p xs (k + 1)) (k + 1) = Pw at hi ⊢
      have e : (M * inv p Pw % p * Pw) % p = M % p := by
        have e1 : (M * inv p Pw % p * Pw) % p = (M * (inv p Pw * Pw)) % p := by
          rw [← Int.mul_assoc]
          exact em_mul (em_em _) rfl
        have e2 : (M * (inv p Pw * Pw)) % p = (M * 1) % p := em_mul rfl (by rw [hi, Int.emod_eq_of_lt (by decide) (by omega)])
        rw [e1, e2, Int.mul_one]
      rw [em_sub (rfl : M % p = M % p) e, Int.sub_self, Int.zero_emod]
def outL (p : Int) (xs : List Int) : List Int := turnL p xs xs.length
theorem outL_len (p : Int) (xs : List Int) : (outL p xs).length = xs.length := turnL_len _ _ _
theorem outL_left {p : Int} (hp : Prm p) {xs : List Int} (R : Rowp p xs) (x0 : sq xs 0 = 0) (x1 : sq xs 1 ≠ 0) {n : Nat} (hn : n < xs.length) : co (sq (outL p xs)) (sq xs) n % p = xs1 n % p := by
  obtain ⟨k, hk⟩ : ∃ k, xs.length = k + 1 := ⟨xs.length - 1, by omega⟩
  have z := miss_zero hp R x0 x1 k (by omega) n (by omega)
  rw [sq_missL hn, ← hk] at z
  have e : com xs.length (sq (outL p xs)) (sq xs) n = co (sq (outL p xs)) (sq xs) n := com_more x0 hn
  have z2 : (xs1 n - co (sq (outL p xs)) (sq xs) n) % p = 0 := by
    rw [← e]
    exact z
  have h := em_add (z2.trans (Int.zero_emod p).symm) (rfl : co (sq (outL p xs)) (sq xs) n % p = co (sq (outL p xs)) (sq xs) n % p)
  rw [show xs1 n - co (sq (outL p xs)) (sq xs) n + co (sq (outL p xs)) (sq xs) n = xs1 n by omega, Int.zero_add] at h
  exact h.symm
theorem outL_zero (p : Int) {xs : List Int} (h : 1 ≤ xs.length) : sq (outL p xs) 0 = 0 := turnL_zero p xs (by omega)
theorem xs1_one : xs1 1 = 1 := rfl
/-- its place 1 isn't 0 either -/
theorem outL_one {p : Int} (hp : Prm p) {xs : List Int} (R : Rowp p xs) (h2 : 2 ≤ xs.length) (x0 : sq xs 0 = 0) (x1 : sq xs 1 ≠ 0) : sq (outL p xs) 1 ≠ 0 := by
  have p2 := hp.pos
  intro z
  have h := outL_left hp R x0 x1 (n := 1) (by omega)
  have e : co (sq (outL p xs)) (sq xs) 1 = 0 := by
    show com 2 _ _ 1 = 0
    rw [com_succ, com_succ, com_zero, z, outL_zero p (by omega)]
    omega
  rw [e, xs1_one, Int.zero_emod, Int.emod_eq_of_lt (by decide) (by omega)] at h
  exact absurd h (by decide)
theorem outL_rowp {p : Int} (hp : Prm p) {xs : List Int} (R : Rowp p xs) : Rowp p (outL p xs) :=
  ⟨by rw [outL_len]; exact R.lo, by rw [outL_len]; exact R.hi, turnL_rest (by have := hp.pos; omega) xs _⟩
/-- either way round; turned once more it is the row -/
theorem outL_both {p : Int} (hp : Prm p) {xs : List Int} (R : Rowp p xs) (h2 : 2 ≤ xs.length) (x0 : sq xs 0 = 0) (x1 : sq xs 1 ≠ 0) : outL p (outL p xs) = xs := by
  have p2 := hp.pos
  have R2 := outL_rowp hp R
  have t0 := outL_zero p (xs := xs) (by omega)
  have t1 := outL_one hp R h2 x0 x1
  have l := outL_len p xs
  refine ext_sq (by rw [outL_len, l]) fun n hn => ?_
  rw [outL_len, l] at hn
  rw [← (outL_rowp hp R2).em (by rw [outL_len, l]; exact hn), ← R.em hn]
  -- s = s put on (t put on r) = (s put on t) put on r = r
  have a : co (sq (outL p (outL p xs))) (co (sq (outL p xs)) (sq xs)) n % p = co (sq (outL p (outL p xs))) xs1 n % p := co_em (fun _ _ => rfl) fun i hi => outL_left hp R x0 x1 (by omega)
  have b : co (co (sq (outL p (outL p xs))) (sq (outL p xs))) (sq xs) n % p = co xs1 (sq xs) n % p := co_em (fun i hi => outL_left hp R2 t0 t1 (by rw [l]; omega)) fun _ _ => rfl
  rw [co_assoc t0 x0, a, co_id_right, co_id_left x0] at b
  exact b
theorem outL_right {p : Int} (hp : Prm p) {xs : List Int} (R : Rowp p xs) (h2 : 2 ≤ xs.length) (x0 : sq xs 0 = 0) (x1 : sq xs 1 ≠ 0) {n : Nat} (hn : n < xs.length) : co (sq xs) (sq (outL p xs)) n % p = xs1 n % p := by
  have R2 := outL_rowp hp R
  have h := outL_left hp R2 (outL_zero p (by omega)) (outL_one hp R h2 x0 x1) (n := n) (by rw [outL_len]; exact hn)
  rw [outL_both hp R h2 x0 x1] at h
  exact h
/-- 0, 1, 0, 0 .. -/
def plainL (n : Nat) : List Int := 0 :: 1 :: List.replicate (n - 2) 0
theorem sq_plainL {n k : Nat} : sq (plainL n) k = xs1 k := by
  match k with
  | 0 => rfl
  | 1 => rfl
  | k + 2 =>
    show (List.replicate (n - 2) (0 : Int)).getD k 0 = 0
    rw [List.getD_eq_getElem?_getD, List.getElem?_replicate]
    split <;> rfl
theorem plainL_len {n : Nat} (h : 2 ≤ n) : (plainL n).length = n := by
  unfold plainL
  rw [List.length_cons, List.length_cons, List.length_replicate]
  omega
theorem xs1_em {p : Int} (hp : Prm p) (n : Nat) : xs1 n % p = xs1 n := by
  have p2 := hp.pos
  match n with
  | 0 => exact Int.zero_emod p
  | 1 => exact Int.emod_eq_of_lt (by decide) (by show (1 : Int) < p; omega)
  | n + 2 => exact Int.zero_emod p
theorem put_out_left {p : Int} (hp : Prm p) {xs : List Int} (R : Rowp p xs) (h2 : 2 ≤ xs.length) (x0 : sq xs 0 = 0) (x1 : sq xs 1 ≠ 0) : putL p (outL p xs) xs = plainL xs.length := by
  refine ext_sq (by rw [putL_len, outL_len, plainL_len h2]; omega) fun n hn => ?_
  rw [putL_len, outL_len] at hn
  rw [sq_putL (by rw [outL_len]; omega), outL_left hp R x0 x1 (by omega), xs1_em hp, sq_plainL]
theorem put_out_right {p : Int} (hp : Prm p) {xs : List Int} (R : Rowp p xs) (h2 : 2 ≤ xs.length) (x0 : sq xs 0 = 0) (x1 : sq xs 1 ≠ 0) : putL p xs (outL p xs) = plainL xs.length := by
  refine ext_sq (by rw [putL_len, outL_len, plainL_len h2]; omega) fun n hn => ?_
  rw [putL_len, outL_len] at hn
  rw [sq_putL (by rw [outL_len]; omega), outL_right hp R h2 x0 x1 (by omega), xs1_em hp, sq_plainL]
/-- the first of what lacks -/
theorem miss_first {p : Int} (hp : Prm p) {xs : List Int} (h2 : 2 ≤ xs.length) : missL p xs (turnL p xs 1) 1 = plainL xs.length := by
  refine ext_sq (by rw [missL_len, plainL_len h2]) fun n hn => ?_
  rw [missL_len] at hn
  rw [sq_missL hn, com_succ, com_zero, sq_plainL]
  have e : xs1 n - (0 + sq (turnL p xs 1) 0 * pw (sq xs) 0 n) = xs1 n := by
    show xs1 n - (0 + 0 * pw (sq xs) 0 n) = xs1 n
    rw [Int.zero_mul]
    omega
  rw [e, xs1_em hp]
end Pw
namespace Pw
/-- as the helper reckons what is put in: so many places of the outer row are done -/
def comL (p : Int) (xs ys : List Int) (N i : Nat) : List Int := (List.range N).map fun n => com i (sq xs) (sq ys) n % p
theorem comL_len (p : Int) (xs ys : List Int) (N i : Nat) : (comL p xs ys N i).length = N := by
  unfold comL
  rw [List.length_map, List.length_range]
theorem comL_next {p : Int} (xs ys : List Int) (N i : Nat) (hN : N ≤ ys.length) : (List.range (min (comL p xs ys N i).length (powL p (ys.take N) i).length)).map (fun n => (sq (comL p xs ys N i) n + sq xs i * sq (powL p (ys.take N) i) n) % p) = comL p xs ys N (i + 1) := by
  have lt : (ys.take N).length = N := by
    rw [List.length_take]
    omega
  rw [comL_len, powL_len, lt, Nat.min_self]
  unfold comL
  apply List.map_congr_left
  intro n hn
  have hn := List.mem_range.mp hn
  rw [sq_map_range hn, sq_powL (by omega), com_succ]
  have e : pw (sq (ys.take N)) i n = pw (sq ys) i n := pw_congr i (n := n) (fun j hj => sq_take (by omega)) n (Nat.le_refl _)
  rw [e]
  exact em_add (em_em _) (em_mul rfl (em_em _))
theorem comL_end {p : Int} {xs ys : List Int} (h0 : sq ys 0 = 0) : comL p xs ys (min xs.length ys.length) (min xs.length ys.length) = putL p xs ys := by
  unfold comL putL
  apply List.map_congr_left
  intro n hn
  rw [com_more h0 (List.mem_range.mp hn)]
theorem comL_zero (p : Int) (xs ys : List Int) (N : Nat) : comL p xs ys N 0 = List.replicate N 0 := by
  unfold comL
  refine ext_sq (by rw [List.length_map, List.length_range, List.length_replicate]) fun n hn => ?_
  rw [List.length_map, List.length_range] at hn
  rw [sq_map_range hn, com_zero, Int.zero_emod]
  show (0 : Int) = (List.replicate N 0).getD n 0
  rw [List.getD_eq_getElem?_getD, List.getElem?_replicate]
  split <;> rfl
theorem comL_sml {p : Int} (h0 : 0 < p) (h1 : p ≤ 1000) (xs ys : List Int) (N i : Nat) : ∀ x ∈ comL p xs ys N i, 0 ≤ x ∧ x < 1000 := fun x hx => by
  unfold comL at hx
  obtain ⟨n, _, rfl⟩ := List.mem_map.mp hx
  have r1 := Int.emod_nonneg (com i (sq xs) (sq ys) n) (show p ≠ 0 by omega)
  have r2 := Int.emod_lt_of_pos (com i (sq xs) (sq ys) n) h0
  omega
end Pw

namespace Pw
/-! ### rows grown by rules of their own -/
structure Tm where
  r : Int
  s : Nat
  k : Nat
structure TmOk (p : Int) (t : Tm) : Prop where
  r : 0 ≤ t.r ∧ t.r < p
  s : 1 ≤ t.s ∧ t.s ≤ 4
  k : t.k ≤ 3
/-- one term's part of place n, of powers told by F -/
def tmAt (F : Nat → Sq) (t : Tm) (n : Nat) : Int := if t.s ≤ n then t.r * F t.k (n - t.s) else 0
def tmSum (F : Nat → Sq) (ts : List Tm) (n : Nat) : Int := (ts.map fun t => tmAt F t n).sum
/-- the row, its square, its cube so far -/
def pick (a b c : List Int) : Nat → Sq
  | 0 => one
  | 1 => sq a
  | 2 => sq b
  | _ => sq c
def gst (p : Int) (ts : List Tm) : Nat → List Int × List Int × List Int
  | 0 => ([], [], [])
  | n + 1 =>
    let (a, b, c) := gst p ts n
    let a' := a ++ [tmSum (pick a b c) ts n % p]
    let b' := b ++ [cv (sq a') (sq a') n % p]
    let c' := c ++ [cv (sq b') (sq a') n % p]
    (a', b', c')
def grA (p : Int) (ts : List Tm) (n : Nat) : List Int := (gst p ts n).1
def grB (p : Int) (ts : List Tm) (n : Nat) : List Int := (gst p ts n).2.1
def grC (p : Int) (ts : List Tm) (n : Nat) : List Int := (gst p ts n).2.2
theorem grA_succ (p : Int) (ts : List Tm) (n : Nat) : grA p ts (n + 1) = grA p ts n ++ [tmSum (pick (grA p ts n) (grB p ts n) (grC p ts n)) ts n % p] := rfl
theorem grB_succ (p : Int) (ts : List Tm) (n : Nat) : grB p ts (n + 1) = grB p ts n ++ [cv (sq (grA p ts (n + 1))) (sq (grA p ts (n + 1))) n % p] := rfl
theorem grC_succ (p : Int) (ts : List Tm) (n : Nat) : grC p ts (n + 1) = grC p ts n ++ [cv (sq (grB p ts (n + 1))) (sq (grA p ts (n + 1))) n % p] := rfl
theorem grA_len (p : Int) (ts : List Tm) (n : Nat) : (grA p ts n).length = n := by
  induction n with
  | zero => rfl
  | succ n ih =>
    rw [grA_succ, List.length_append, ih]
    rfl
theorem grB_len (p : Int) (ts : List Tm) (n : Nat) : (grB p ts n).length = n := by
  induction n with
  | zero => rfl
  | succ n ih =>
    rw [grB_succ, List.length_append, ih]
    rfl
theorem grC_len (p : Int) (ts : List Tm) (n : Nat) : (grC p ts n).length = n := by
  induction n with
  | zero => rfl
  | succ n ih =>
    rw [grC_succ, List.length_append, ih]
    rfl
theorem snoc_rest {p : Int} {xs : List Int} {y : Int} (hp : 0 < p) (h : ∀ x ∈ xs, 0 ≤ x ∧ x < p) : ∀ x ∈ xs ++ [y % p], 0 ≤ x ∧ x < p := fun x hx => by
  rcases List.mem_append.mp hx with h1 | h1
  · exact h x h1
  · rw [List.mem_singleton.mp h1]
    exact ⟨Int.emod_nonneg _ (by omega), Int.emod_lt_of_pos _ hp⟩
theorem grA_rest {p : Int} (hp : 0 < p) (ts : List Tm) (n : Nat) : ∀ x ∈ grA p ts n, 0 ≤ x ∧ x < p := by
  induction n with
  | zero => exact fun x h => nomatch h
  | succ n ih => exact snoc_rest hp ih
theorem grB_rest {p : Int} (hp : 0 < p) (ts : List Tm) (n : Nat) : ∀ x ∈ grB p ts n, 0 ≤ x ∧ x < p := by
  induction n with
  | zero => exact fun x h => nomatch h
  | succ n ih => exact snoc_rest hp ih
theorem grC_rest {p : Int} (hp : 0 < p) (ts : List Tm) (n : Nat) : ∀ x ∈ grC p ts n, 0 ≤ x ∧ x < p := by
  induction n with
  | zero => exact fun x h => nomatch h
  | succ n ih => exact snoc_rest hp ih
theorem grA_take (p : Int) (ts : List Tm) {n m : Nat} (h : n ≤ m) : (grA p ts m).take n = grA p ts n := by
  induction m with
  | zero =>
    obtain rfl : n = 0 := by omega
    rfl
  | succ m ih =>
    by_cases e : n = m + 1
    · rw [e, List.take_of_length_le (by rw [grA_len]; exact Nat.le_refl _)]
    · rw [grA_succ, List.take_append_of_le_length (by rw [grA_len]; omega)]
      exact ih (by omega)
/-- the places stay as they are told -/
theorem grA_sq (p : Int) (ts : List Tm) {i n m : Nat} (h : i < n) (h2 : n ≤ m) : sq (grA p ts n) i = sq (grA p ts m) i := by
  rw [← grA_take p ts h2, sq_take h]
theorem grA_at (p : Int) (ts : List Tm) {i m : Nat} (h : i < m) : sq (grA p ts m) i = tmSum (pick (grA p ts i) (grB p ts i) (grC p ts i)) ts i % p := by
  rw [← grA_sq p ts (Nat.lt_succ_self i) h, grA_succ]
  have e := sq_append_at (xs := grA p ts i) (y := tmSum (pick (grA p ts i) (grB p ts i) (grC p ts i)) ts i % p)
  rw [grA_len] at e
  exact e
theorem grB_at (p : Int) (ts : List Tm) {i m : Nat} (h : i < m) : sq (grB p ts m) i = cv (sq (grA p ts m)) (sq (grA p ts m)) i % p := by
  induction m with
  | zero => omega
  | succ m ih =>
    by_cases e : i = m
    · subst e
      rw [grB_succ]
      have e := sq_append_at (xs := grB p ts i) (y := cv (sq (grA p ts (i + 1))) (sq (grA p ts (i + 1))) i % p)
      rw [grB_len] at e
      exact e
    · rw [grB_succ, sq_append_left (by rw [grB_len]; omega), ih (by omega)]
      congr 1
      exact cv_congr (fun j hj => grA_sq p ts (by omega) (by omega)) (fun j hj => grA_sq p ts (by omega) (by omega))
theorem grB_sq (p : Int) (ts : List Tm) {i n m : Nat} (h : i < n) (h2 : n ≤ m) : sq (grB p ts n) i = sq (grB p ts m) i := by
  rw [grB_at p ts h, grB_at p ts (Nat.lt_of_lt_of_le h h2)]
  congr 1
  exact cv_congr (fun j hj => grA_sq p ts (by omega) h2) (fun j hj => grA_sq p ts (by omega) h2)
theorem grC_at (p : Int) (ts : List Tm) {i m : Nat} (h : i < m) : sq (grC p ts m) i = cv (sq (grB p ts m)) (sq (grA p ts m)) i % p := by
  induction m with
  | zero => omega
  | succ m ih =>
    by_cases e : i = m
    · subst e
      rw [grC_succ]
      have e := sq_append_at (xs := grC p ts i) (y := cv (sq (grB p ts (i + 1))) (sq (grA p ts (i + 1))) i % p)
      rw [grC_len] at e
      exact e
    · rw [grC_succ, sq_append_left (by rw [grC_len]; omega), ih (by omega)]
      congr 1
      exact cv_congr (fun j hj => grB_sq p ts (by omega) (by omega)) (fun j hj => grA_sq p ts (by omega) (by omega))
theorem grC_sq (p : Int) (ts : List Tm) {i n m : Nat} (h : i < n) (h2 : n ≤ m) : sq (grC p ts n) i = sq (grC p ts m) i := by
  rw [grC_at p ts h, grC_at p ts (Nat.lt_of_lt_of_le h h2)]
  congr 1
  exact cv_congr (fun j hj => grB_sq p ts (by omega) h2) (fun j hj => grA_sq p ts (by omega) h2)
theorem grA_rowp {p : Int} (hp : 0 < p) (ts : List Tm) {n : Nat} (h1 : 1 ≤ n) (h2 : n ≤ 20) : Rowp p (grA p ts n) := ⟨by rw [grA_len]; exact h1, by rw [grA_len]; exact h2, grA_rest hp ts n⟩
/-- the powers that are kept are the row's -/
theorem pick_pow {p : Int} (hp : 1 < p) (ts : List Tm) {k i n : Nat} (hk : k ≤ 3) (hi : i < n) : pick (grA p ts n) (grB p ts n) (grC p ts n) k i = sq (powL p (grA p ts n) k) i := by
  have l := grA_len p ts n
  have rest := fun j (h : j < n) => grA_rest (p := p) (by omega) ts n _ (sq_mem (xs := grA p ts n) (n := j) (by omega))
  have e1 : ∀ j, j < n → sq (grA p ts n) j = pw (sq (grA p ts n)) 1 j % p := fun j hj => by
    rw [pw_one, Int.emod_eq_of_lt (rest j hj).1 (rest j hj).2]
  have e2 : ∀ j, j < n → sq (grB p ts n) j = pw (sq (grA p ts n)) 2 j % p := fun j hj => by
    rw [grB_at p ts hj, show (2 : Nat) = 1 + 1 from rfl, pw_add, pw_one]
  rw [sq_powL (by omega)]
  match k, hk with
  | 0, _ =>
    show one i = one i % p
    unfold one
    split
    · exact (Int.emod_eq_of_lt (by decide) hp).symm
    · exact (Int.zero_emod _).symm
  | 1, _ => exact e1 i hi
  | 2, _ => exact e2 i hi
  | 3, _ =>
    show sq (grC p ts n) i = _
    rw [grC_at p ts hi, show (3 : Nat) = 2 + 1 from rfl, pw_add, pw_one]
    exact cv_em (fun j hj => by rw [e2 j (by omega), em_em]) (fun j hj => rfl)
theorem tmSum_congr {p : Int} {F G : Nat → Sq} {ts : List Tm} {n : Nat} (h : ∀ t ∈ ts, t.s ≤ n → F t.k (n - t.s) = G t.k (n - t.s)) : tmSum F ts n = tmSum G ts n := by
  unfold tmSum
  congr 1
  apply List.map_congr_left
  intro t ht
  unfold tmAt
  split
  · rw [h t ht (by assumption)]
  · rfl
/-- the row keeps its rule -/
theorem grA_keeps {p : Int} (hp : 1 < p) {ts : List Tm} (hts : ∀ t ∈ ts, TmOk p t) {i n : Nat} (hi : i < n) : sq (grA p ts n) i = tmSum (fun k => sq (powL p (grA p ts n) k)) ts i % p := by
  rw [grA_at p ts hi]
  congr 1
  refine tmSum_congr (p := p) fun t ht hs => ?_
  have o := hts t ht
  have os := o.s
  rw [← pick_pow hp ts o.k (show i - t.s < n by omega)]
  match t.k, o.k with
  | 0, _ => rfl
  | 1, _ => exact grA_sq p ts (by omega) (by omega)
  | 2, _ => exact grB_sq p ts (by omega) (by omega)
  | 3, _ => exact grC_sq p ts (by omega) (by omega)
theorem sum_zero {l : List Int} (h : ∀ x ∈ l, x = 0) : l.sum = 0 := by
  induction l with
  | nil => rfl
  | cons a r ih =>
    rw [List.sum_cons, h a List.mem_cons_self, ih fun x hx => h x (List.mem_cons_of_mem _ hx)]
    rfl
theorem grA_zero {p : Int} (ts : List Tm) (hts : ∀ t ∈ ts, TmOk p t) {n : Nat} (hn : 0 < n) : sq (grA p ts n) 0 = 0 := by
  rw [grA_at p ts hn]
  have e : tmSum (pick (grA p ts 0) (grB p ts 0) (grC p ts 0)) ts 0 = 0 := sum_zero fun x hx => by
    obtain ⟨t, ht, rfl⟩ := List.mem_map.mp hx
    have := (hts t ht).s
    unfold tmAt
    rw [if_neg (by omega)]
  rw [e, Int.zero_emod]
/-- the sum of those that a test lets through -/
theorem sum_given (n : Nat) (f : Nat → Bool) (v : Nat → Int) : (((List.range n).filter f).map v).sum = ((List.range n).map fun i => if f i = true then v i else 0).sum := by
  induction n with
  | zero => rfl
  | succ n ih =>
    rw [List.range_succ, List.filter_append, List.map_append, List.map_append, List.sum_append, List.sum_append, ih]
    congr 1
    cases h : f n with
    | true => simp [h]
    | false => simp [h]
/-! ### the law's own reckoning -/
def kst (p : Int) (row : List Int) (ts : List Tm) : List Int := (List.range row.length).map fun n => tmSum (fun k => sq (powL p row k)) ts n % p
def kin (p : Int) (row : List Int) (ts : List Tm) (t : Tm) (m : Nat) : List Int := (List.range row.length).map fun n => (tmSum (fun k => sq (powL p row k)) ts n + if t.s ≤ n ∧ n - t.s < m then t.r * sq (powL p row t.k) (n - t.s) else 0) % p
theorem kst_len (p : Int) (row : List Int) (ts : List Tm) : (kst p row ts).length = row.length := by
  unfold kst
  rw [List.length_map, List.length_range]
theorem kin_len (p : Int) (row : List Int) (ts : List Tm) (t : Tm) (m : Nat) : (kin p row ts t m).length = row.length := by
  unfold kin
  rw [List.length_map, List.length_range]
theorem kst_nil (p : Int) (row : List Int) : kst p row [] = List.replicate row.length 0 := by
  unfold kst
  apply List.ext_getElem?
  intro i
  by_cases h : i < row.length
  · rw [List.getElem?_map, List.getElem?_range h, List.getElem?_replicate, if_pos h]
    show some ((0 : Int) % p) = some 0
    rw [Int.zero_emod]
  · rw [List.getElem?_eq_none (by simp; omega), List.getElem?_eq_none (by simp; omega)]
theorem kin_zero (p : Int) (row : List Int) (ts : List Tm) (t : Tm) : kin p row ts t 0 = kst p row ts := by
  unfold kin kst
  apply List.map_congr_left
  intro n _
  rw [if_neg (by omega), Int.add_zero]
theorem kin_step (p : Int) (row : List Int) (ts : List Tm) (t : Tm) {m : Nat} (hm : m + t.s < row.length) : (kin p row ts t m).set (m + t.s) ((sq (kin p row ts t m) (m + t.s) + t.r * sq (powL p row t.k) m) % p) = kin p row ts t (m + 1) := by
  have e : sq (kin p row ts t m) (m + t.s) = tmSum (fun k => sq (powL p row k)) ts (m + t.s) % p := by
    unfold kin
    rw [sq_map_range hm, if_neg (by omega), Int.add_zero]
  rw [e]
  unfold kin
  rw [set_map_range]
  apply List.map_congr_left
  intro n hn
  by_cases h : n = m + t.s
  · subst h
    rw [if_pos rfl, if_pos (by omega), Nat.add_sub_cancel, Int.emod_add_emod]
  · rw [if_neg h]
    congr 2
    by_cases h2 : t.s ≤ n ∧ n - t.s < m
    · rw [if_pos h2, if_pos (by omega)]
    · rw [if_neg h2, if_neg (by omega)]
theorem kin_full (p : Int) (row : List Int) (ts : List Tm) (t : Tm) {m : Nat} (hm : row.length ≤ m + t.s) : kin p row ts t m = kst p row (ts ++ [t]) := by
  unfold kin kst
  apply List.map_congr_left
  intro n hn
  have hn := List.mem_range.mp hn
  congr 1
  unfold tmSum
  rw [List.map_append, List.sum_append]
  congr 1
  show _ = tmAt _ t n + 0
  unfold tmAt
  rw [Int.add_zero]
  by_cases h : t.s ≤ n
  · rw [if_pos h, if_pos (by omega)]
  · rw [if_neg h, if_neg (by omega)]
theorem kst_grown {p : Int} (hp : 1 < p) {ts : List Tm} (hts : ∀ t ∈ ts, TmOk p t) (n : Nat) : kst p (grA p ts n) ts = grA p ts n := by
  refine ext_sq ?_ fun i hi => ?_
  · rw [kst_len]
  · rw [kst_len, grA_len] at hi
    rw [show sq (kst p (grA p ts n) ts) i = _ from sq_map_range (by rw [grA_len]; exact hi), ← grA_keeps hp hts hi]
/-! ### the law's terms -/
def ltermsNum (ns : List Int) (by_ : Int) (n : Nat) : Int := lnum (sq (lcells ns) (((n : Int) + by_) % ((lcells ns).length : Int)).toNat) ((n : Int) + by_) (absI (lcells ns).sum + by_) / 3
def ltermAt (ns : List Int) (by_ p : Int) (n : Nat) : Tm :=
  let num := ltermsNum ns by_ n
  let free : Bool := decide (0 < n) || decide ((absI (lcells ns).sum + by_) % 3 = 0)
  ⟨num % p, if free then (1 + num / 11 % 4).toNat else 1, if free then (num / 47 % 4).toNat else 0⟩
def lterms (ns : List Int) (by_ p : Int) : List Tm := (List.range (1 + (absI (lcells ns).sum + by_) % 6).toNat).map (ltermAt ns by_ p)
theorem ltermAt_ok {ns : List Int} {by_ p : Int} (hp : 0 < p) (n : Nat) : TmOk p (ltermAt ns by_ p n) := by
  have h1 : ∀ (b : Bool) (x : Int), 1 ≤ (if b = true then (1 + x / 11 % 4).toNat else 1) ∧ (if b = true then (1 + x / 11 % 4).toNat else 1) ≤ 4 := fun b x => by
    cases b with
    | true =>
      rw [if_pos rfl]
      omega
    | false => exact ⟨Nat.le_refl 1, (by decide : 1 ≤ 4)⟩
  have h2 : ∀ (b : Bool) (x : Int), (if b = true then (x / 47 % 4).toNat else 0) ≤ 3 := fun b x => by
    cases b with
    | true =>
      rw [if_pos rfl]
      omega
    | false => exact Nat.zero_le 3
  exact ⟨⟨Int.emod_nonneg _ (by omega), Int.emod_lt_of_pos _ hp⟩, h1 _ _, h2 _ _⟩
theorem lterms_ok {ns : List Int} {by_ p : Int} (hp : 0 < p) : ∀ t ∈ lterms ns by_ p, TmOk p t := fun t ht => by
  obtain ⟨n, _, rfl⟩ := List.mem_map.mp ht
  exact ltermAt_ok hp n
theorem lterms_len {ns : List Int} {by_ p : Int} (h : 0 ≤ by_) : 1 ≤ (lterms ns by_ p).length ∧ (lterms ns by_ p).length ≤ 6 := by
  unfold lterms
  rw [List.length_map, List.length_range]
  have := absI_nonneg (lcells ns).sum
  omega
end Pw

namespace Pw
/-! ### sums by coefficients -/
/-- c 0 * b n + c 1 * b (n + 1) + .., q of them -/
def lc (c b : Sq) (n : Nat) : Nat → Int
  | 0 => 0
  | q + 1 => lc c b n q + c q * b (n + q)
theorem lc_congr {c c' b b' : Sq} {n n' q : Nat} (h1 : ∀ i, i < q → c i = c' i) (h2 : ∀ i, i < q → b (n + i) = b' (n' + i)) : lc c b n q = lc c' b' n' q := by
  induction q with
  | zero => rfl
  | succ q ih =>
    show lc c b n q + c q * b (n + q) = lc c' b' n' q + c' q * b' (n' + q)
    rw [ih (fun i hi => h1 i (by omega)) (fun i hi => h2 i (by omega)), h1 q (by omega), h2 q (by omega)]
theorem lc_em {p : Int} {c c' b b' : Sq} {n n' q : Nat} (h1 : ∀ i, i < q → c i % p = c' i % p) (h2 : ∀ i, i < q → b (n + i) % p = b' (n' + i) % p) : lc c b n q % p = lc c' b' n' q % p := by
  induction q with
  | zero => rfl
  | succ q ih =>
    show (lc c b n q + c q * b (n + q)) % p = (lc c' b' n' q + c' q * b' (n' + q)) % p
    exact em_add (ih (fun i hi => h1 i (by omega)) (fun i hi => h2 i (by omega))) (em_mul (h1 q (by omega)) (h2 q (by omega)))
theorem lc_add_c (c d b : Sq) (n q : Nat) : lc (fun i => c i + d i) b n q = lc c b n q + lc d b n q := by
  induction q with
  | zero => rfl
  | succ q ih =>
    show lc (fun i => c i + d i) b n q + (c q + d q) * b (n + q) = lc c b n q + c q * b (n + q) + (lc d b n q + d q * b (n + q))
    rw [ih, Int.add_mul]
    omega
theorem lc_mul_c (k : Int) (c b : Sq) (n q : Nat) : lc (fun i => k * c i) b n q = k * lc c b n q := by
  induction q with
  | zero => exact (Int.mul_zero k).symm
  | succ q ih =>
    show lc (fun i => k * c i) b n q + k * c q * b (n + q) = k * (lc c b n q + c q * b (n + q))
    rw [ih, Int.mul_add, Int.mul_assoc]
theorem lc_sub_c (c d b : Sq) (n q : Nat) : lc (fun i => c i - d i) b n q = lc c b n q - lc d b n q := by
  induction q with
  | zero => rfl
  | succ q ih =>
    show lc (fun i => c i - d i) b n q + (c q - d q) * b (n + q) = lc c b n q + c q * b (n + q) - (lc d b n q + d q * b (n + q))
    rw [ih, Int.sub_mul]
    omega
theorem lc_add_b (c b e : Sq) (n q : Nat) : lc c (fun m => b m + e m) n q = lc c b n q + lc c e n q := by
  induction q with
  | zero => rfl
  | succ q ih =>
    show lc c (fun m => b m + e m) n q + c q * (b (n + q) + e (n + q)) = lc c b n q + c q * b (n + q) + (lc c e n q + c q * e (n + q))
    rw [ih, Int.mul_add]
    omega
theorem lc_sub_b (c b e : Sq) (n q : Nat) : lc c (fun m => b m - e m) n q = lc c b n q - lc c e n q := by
  induction q with
  | zero => rfl
  | succ q ih =>
    show lc c (fun m => b m - e m) n q + c q * (b (n + q) - e (n + q)) = lc c b n q + c q * b (n + q) - (lc c e n q + c q * e (n + q))
    rw [ih, Int.mul_sub]
    omega
theorem lc_mul_b (k : Int) (c b : Sq) (n q : Nat) : lc c (fun m => k * b m) n q = k * lc c b n q := by
  induction q with
  | zero => exact (Int.mul_zero k).symm
  | succ q ih =>
    show lc c (fun m => k * b m) n q + c q * (k * b (n + q)) = k * (lc c b n q + c q * b (n + q))
    rw [ih, Int.mul_add, Int.mul_left_comm]
theorem lc_shift (c b : Sq) (n k q : Nat) : lc c (fun m => b (m + k)) n q = lc c b (n + k) q := lc_congr (fun _ _ => rfl) fun i _ => by
  show b (n + i + k) = b (n + k + i)
  congr 1
  omega
theorem lc_first (c b : Sq) (n q : Nat) : lc c b n (q + 1) = c 0 * b n + lc (tl c) b (n + 1) q := by
  induction q with
  | zero =>
    show 0 + c 0 * b (n + 0) = c 0 * b n + 0
    rw [Nat.add_zero]
    omega
  | succ q ih =>
    show lc c b n (q + 1) + c (q + 1) * b (n + (q + 1)) = c 0 * b n + (lc (tl c) b (n + 1) q + c (q + 1) * b (n + 1 + q))
    rw [ih, show n + (q + 1) = n + 1 + q by omega]
    omega
theorem lc_comm (c d b : Sq) (n q r : Nat) : lc c (fun m => lc d b m r) n q = lc d (fun m => lc c b m q) n r := by
  induction q generalizing n with
  | zero =>
    have : ∀ r, lc d (fun m => lc c b m 0) n r = 0 := by
      intro r
      induction r with
      | zero => rfl
      | succ r ih =>
        show lc d (fun m => lc c b m 0) n r + d r * 0 = 0
        rw [ih, Int.mul_zero]
        rfl
    exact (this r).symm
  | succ q ih =>
    show lc c (fun m => lc d b m r) n q + c q * lc d b (n + q) r = lc d (fun m => lc c b m q + c q * b (m + q)) n r
    rw [lc_add_b, ih, lc_mul_b (c q) d (fun m => b (m + q)), lc_shift]
/-- with 1 as the last coefficient -/
def mo (q : Nat) (c b : Sq) : Sq := fun n => lc c b n q + b (n + q)
theorem mo_zero (c b : Sq) : mo 0 c b = b := funext fun n => by
  show 0 + b (n + 0) = b n
  rw [Nat.add_zero, Int.zero_add]
theorem mo_add_b (q : Nat) (c b e : Sq) (n : Nat) : mo q c (fun m => b m + e m) n = mo q c b n + mo q c e n := by
  show lc c (fun m => b m + e m) n q + (b (n + q) + e (n + q)) = lc c b n q + b (n + q) + (lc c e n q + e (n + q))
  rw [lc_add_b]
  omega
theorem mo_sub_b (q : Nat) (c b e : Sq) (n : Nat) : mo q c (fun m => b m - e m) n = mo q c b n - mo q c e n := by
  show lc c (fun m => b m - e m) n q + (b (n + q) - e (n + q)) = lc c b n q + b (n + q) - (lc c e n q + e (n + q))
  rw [lc_sub_b]
  omega
theorem mo_mul_b (q : Nat) (k : Int) (c b : Sq) (n : Nat) : mo q c (fun m => k * b m) n = k * mo q c b n := by
  unfold mo
  rw [lc_mul_b, Int.mul_add]
theorem mo_shift (q : Nat) (c b : Sq) (n k : Nat) : mo q c (fun m => b (m + k)) n = mo q c b (n + k) := by
  unfold mo
  rw [lc_shift]
  show _ + b (n + q + k) = _ + b (n + k + q)
  rw [show n + q + k = n + k + q by omega]
theorem mo_comm (q r : Nat) (c d b : Sq) (n : Nat) : mo q c (mo r d b) n = mo r d (mo q c b) n := by
  show lc c (fun m => lc d b m r + b (m + r)) n q + (lc d b (n + q) r + b (n + q + r)) = lc d (fun m => lc c b m q + b (m + q)) n r + (lc c b (n + r) q + b (n + r + q))
  rw [lc_add_b, lc_add_b, lc_comm, lc_shift c b n r q, lc_shift d b n q r, show n + q + r = n + r + q by omega]
  omega
theorem mo_first (q : Nat) (c b : Sq) (n : Nat) : mo (q + 1) c b n = c 0 * b n + mo q (tl c) b (n + 1) := by
  unfold mo
  rw [lc_first, show n + (q + 1) = n + 1 + q by omega]
  omega
theorem mo_em {p : Int} {q : Nat} {c b b' : Sq} (h : ∀ n, b n % p = b' n % p) (n : Nat) : mo q c b n % p = mo q c b' n % p := em_add (lc_em (fun _ _ => rfl) fun i _ => h _) (h _)
/-- one with more coefficients parted by one with fewer -/
theorem div_mo {q : Nat} (c : Sq) (k : Nat) : ∀ e : Sq, ∃ h r : Sq, ∀ (b : Sq) (n : Nat), mo (q + 1 + k) e b n = mo (q + 1) c (mo k h b) n + lc r b n (q + 1) := by
  induction k with
  | zero =>
    intro e
    refine ⟨zer, fun i => e i - c i, fun b n => ?_⟩
    rw [mo_zero, lc_sub_c]
    unfold mo
    rw [Nat.add_zero]
    omega
  | succ k ih =>
    intro e
    obtain ⟨h, r, hr⟩ := ih (tl e)
    refine ⟨fun i => if i = 0 then r q else h (i - 1), fun i => (if i = 0 then e 0 else r (i - 1)) - r q * c i, fun b n => ?_⟩
    rw [show q + 1 + (k + 1) = q + 1 + k + 1 by omega, mo_first, hr b (n + 1), lc_sub_c, lc_mul_c]
    have e1 : mo (k + 1) (fun i => if i = 0 then r q else h (i - 1)) b = fun m => r q * b m + mo k h b (m + 1) := funext fun m => by
      rw [mo_first]
      rfl
    rw [e1, mo_add_b (q + 1) c (fun m => r q * b m) (fun m => mo k h b (m + 1)), mo_mul_b, mo_shift]
    have e2 : lc (fun i => if i = 0 then e 0 else r (i - 1)) b n (q + 1) = e 0 * b n + lc r b (n + 1) q := by
      rw [lc_first]
      rfl
    have e3 : lc r b (n + 1) (q + 1) = lc r b (n + 1) q + r q * b (n + 1 + q) := rfl
    have e4 : mo (q + 1) c b n = lc c b n (q + 1) + b (n + (q + 1)) := rfl
    rw [e2, e3, e4, Int.mul_add, show n + (q + 1) = n + 1 + q by omega]
    omega
/-! ### what leaves 0 by p -/
def Zp (p : Int) (f : Sq) : Prop := ∀ n, f n % p = 0
def Ann (p : Int) (q : Nat) (c b : Sq) : Prop := Zp p (mo q c b)
theorem inv_any {p r : Int} (hp : Prm p) (h : r % p ≠ 0) : ∃ u : Int, u * r % p = 1 := by
  have p2 := hp.pos
  have h0 := Int.emod_nonneg r (show p ≠ 0 by omega)
  have h1 := Int.emod_lt_of_pos r (show 0 < p by omega)
  refine ⟨inv p (r % p), ?_⟩
  rw [← inv_ok hp (show 0 < r % p by omega) h1]
  exact em_mul rfl (em_em r).symm
theorem mul_ne {p c x : Int} (hp : Prm p) (hc : c % p ≠ 0) (h : c * x % p = 0) : x % p = 0 := by
  obtain ⟨u, hu⟩ := inv_any hp hc
  have p2 := hp.pos
  have e : x % p = u * (c * x) % p := by
    rw [← Int.mul_assoc, Int.mul_emod (u * c), hu, Int.one_mul, em_em]
  rw [e, Int.mul_emod, h, Int.mul_zero, Int.zero_emod]
/-- what kills w makes a shorter one with 1 as the last -/
theorem strip {p : Int} (hp : Prm p) {r w : Sq} : ∀ q : Nat, (∀ n, lc r w n q % p = 0) → (∃ i, i < q ∧ r i % p ≠ 0) → ∃ k, k < q ∧ ∃ c, Ann p k c w
  | 0, _, ⟨i, hi, _⟩ => absurd hi (Nat.not_lt_zero i)
  | q + 1, h, hx => by
    by_cases hq : r q % p = 0
    · obtain ⟨k, hk, c, hc⟩ := strip hp (r := r) (w := w) q (fun n => by
        have := h n
        have e : lc r w n (q + 1) = lc r w n q + r q * w (n + q) := rfl
        rw [e, Int.add_emod, Int.mul_emod (r q), hq, Int.zero_mul, Int.zero_emod, Int.add_zero, em_em] at this
        exact this) (by
        obtain ⟨i, hi, hn⟩ := hx
        refine ⟨i, ?_, hn⟩
        by_cases e : i = q
        · rw [e] at hn
          exact absurd hq hn
        · omega)
      exact ⟨k, by omega, c, hc⟩
    · obtain ⟨u, hu⟩ := inv_any hp hq
      refine ⟨q, by omega, fun i => u * r i, fun n => ?_⟩
      show (lc (fun i => u * r i) w n q + w (n + q)) % p = 0
      have e : (lc (fun i => u * r i) w n q + w (n + q)) % p = u * lc r w n (q + 1) % p := by
        show _ = u * (lc r w n q + r q * w (n + q)) % p
        rw [lc_mul_c, Int.mul_add, ← Int.mul_assoc]
        refine em_add rfl ?_
        rw [Int.mul_emod (u * r q), hu, Int.one_mul, em_em]
      rw [e, Int.mul_emod, h n, Int.mul_zero, Int.zero_emod]
/-! ### lists without repeats; orbits -/
theorem nodup_len {α : Type} [DecidableEq α] : ∀ {A B : List α}, A.Nodup → (∀ x ∈ A, x ∈ B) → A.length ≤ B.length
  | [], _, _, _ => Nat.zero_le _
  | a :: A, B, nd, h => by
    have nd' := List.nodup_cons.mp nd
    have ha := h a List.mem_cons_self
    have ih := nodup_len (A := A) (B := B.erase a) nd'.2 fun x hx => by
      have ne : x ≠ a := fun e => nd'.1 (e ▸ hx)
      exact (List.mem_erase_of_ne ne).mpr (h x (List.mem_cons_of_mem _ hx))
    rw [List.length_erase_of_mem ha] at ih
    have := List.length_pos_of_mem ha
    rw [List.length_cons]
    omega
def itn {α : Type} (T : α → α) : Nat → α → α
  | 0, x => x
  | n + 1, x => T (itn T n x)
theorem itn_add {α : Type} (T : α → α) (m n : Nat) (x : α) : itn T (m + n) x = itn T m (itn T n x) := by
  induction m with
  | zero => rw [Nat.zero_add]; rfl
  | succ m ih =>
    rw [Nat.succ_add]
    show T (itn T (m + n) x) = T (itn T m (itn T n x))
    rw [ih]
theorem itn_mul {α : Type} (T : α → α) {m : Nat} {x : α} (h : itn T m x = x) (k : Nat) : itn T (m * k) x = x := by
  induction k with
  | zero => rfl
  | succ k ih => rw [Nat.mul_succ, itn_add, h, ih]
theorem least {P : Nat → Prop} (h : ∃ n, P n) : ∃ n, P n ∧ ∀ m, m < n → ¬ P m := by
  obtain ⟨n, hn⟩ := h
  induction n using Nat.strongRecOn with
  | ind n ih =>
    by_cases c : ∃ m, m < n ∧ P m
    · obtain ⟨m, h1, h2⟩ := c
      exact ih m h1 h2
    · exact ⟨n, hn, fun m h1 h2 => c ⟨m, h1, h2⟩⟩
theorem nodup_map_range {α : Type} {f : Nat → α} {n : Nat} (h : ∀ i j, i < j → j < n → f i ≠ f j) : ((List.range n).map f).Nodup := by
  unfold List.Nodup
  rw [List.pairwise_map]
  refine List.Pairwise.imp_of_mem ?_ (List.pairwise_lt_range (n := n))
  intro a b ha hb hab
  exact h a b hab (List.mem_range.mp hb)
section
variable {α : Type} [DecidableEq α] {T : α → α}
/-- all orbits have m places: so has the whole a whole number of them -/
theorem orbits_div {m : Nat} (hm : 0 < m) : ∀ (n : Nat) (L : List α), L.length ≤ n → L.Nodup → (∀ x ∈ L, T x ∈ L) → (∀ x ∈ L, itn T m x = x) → (∀ x ∈ L, ∀ j, 0 < j → j < m → itn T j x ≠ x) → m ∣ L.length
  | _, [], _, _, _, _, _ => ⟨0, rfl⟩
  | 0, _ :: _, h, _, _, _, _ => by
    rw [List.length_cons] at h
    omega
  | n + 1, x :: L0, hn, nd, cl, per, mi => by
    have hx : x ∈ x :: L0 := List.mem_cons_self
    generalize hL : x :: L0 = L at *
    have inL : ∀ k, itn T k x ∈ L := fun k => by
      induction k with
      | zero => exact hx
      | succ k ih => exact cl _ ih
    have px := per x hx
    have inO : ∀ k, ∃ i, i < m ∧ itn T k x = itn T i x := fun k => by
      induction k with
      | zero => exact ⟨0, hm, rfl⟩
      | succ k ih =>
        obtain ⟨i, hi, e⟩ := ih
        by_cases c : i + 1 < m
        · exact ⟨i + 1, c, by show T (itn T k x) = T (itn T i x); rw [e]⟩
        · refine ⟨0, hm, ?_⟩
          have e2 : itn T (i + 1) x = x := by
            rw [show i + 1 = m by omega]
            exact px
          show T (itn T k x) = x
          rw [e]
          exact e2
    have ndO : ((List.range m).map fun i => itn T i x).Nodup := nodup_map_range fun i j hij hj e => by
      have h1 : itn T (m - j + i) x = x := by
        rw [itn_add, e, ← itn_add, show m - j + j = m by omega, px]
      exact mi x hx (m - j + i) (by omega) (by omega) h1
    have memO : ∀ y, y ∈ ((List.range m).map fun i => itn T i x) ↔ ∃ i, i < m ∧ itn T i x = y := fun y => by
      rw [List.mem_map]
      constructor
      · rintro ⟨i, hi, e⟩
        exact ⟨i, List.mem_range.mp hi, e⟩
      · rintro ⟨i, hi, e⟩
        exact ⟨i, List.mem_range.mpr hi, e⟩
    generalize hO : ((List.range m).map fun i => itn T i x) = O at ndO memO
    have lO : O.length = m := by
      rw [← hO, List.length_map, List.length_range]
    have len := List.length_eq_countP_add_countP (fun y => decide (y ∈ O)) (l := L)
    rw [List.countP_eq_length_filter, List.countP_eq_length_filter] at len
    have l1 : (L.filter fun y => decide (y ∈ O)).length = m := by
      rw [← lO]
      refine Nat.le_antisymm (nodup_len (nd.filter _) fun y hy => ?_) (nodup_len ndO fun y hy => ?_)
      · exact of_decide_eq_true (List.mem_filter.mp hy).2
      · obtain ⟨i, _, e⟩ := (memO y).mp hy
        rw [List.mem_filter]
        exact ⟨e ▸ inL i, decide_eq_true hy⟩
    have dv := orbits_div hm n (L.filter fun y => decide ¬(decide (y ∈ O) = true)) (by omega) (nd.filter _) (fun y hy => by
      have hy := List.mem_filter.mp hy
      have hyL := hy.1
      have hyO : ¬ y ∈ O := by
        have := of_decide_eq_true hy.2
        exact fun z => this (decide_eq_true z)
      rw [List.mem_filter]
      refine ⟨cl y hyL, decide_eq_true fun z => hyO ?_⟩
      have z := of_decide_eq_true z
      obtain ⟨i, _, e⟩ := (memO _).mp z
      have e2 : itn T (m - 1 + i) x = y := by
        rw [itn_add, e]
        show itn T (m - 1) (itn T 1 y) = y
        rw [← itn_add, show m - 1 + 1 = m by omega, per y hyL]
      obtain ⟨i', hi', e3⟩ := inO (m - 1 + i)
      exact (memO y).mpr ⟨i', hi', by rw [← e3, e2]⟩) (fun y hy => per y (List.mem_filter.mp hy).1) (fun y hy => mi y (List.mem_filter.mp hy).1)
    rw [len, l1]
    exact Nat.dvd_add (Nat.dvd_refl m) dv
/-- where all come round alike, they do so behind as many turns as there are -/
theorem orbit {L : List α} (nd : L.Nodup) (cl : ∀ x ∈ L, T x ∈ L) (inj : ∀ x ∈ L, ∀ y ∈ L, T x = T y → x = y) (U : ∀ j, ∀ x ∈ L, ∀ y ∈ L, itn T j x = x → itn T j y = y) : ∀ x ∈ L, itn T L.length x = x := by
  intro x hx
  have inL : ∀ k, itn T k x ∈ L := fun k => by
    induction k with
    | zero => exact hx
    | succ k ih => exact cl _ ih
  have cancel : ∀ i k, itn T i x = itn T (i + k) x → x = itn T k x := fun i => by
    induction i with
    | zero =>
      intro k e
      rw [Nat.zero_add] at e
      exact e
    | succ i ih =>
      intro k e
      rw [Nat.succ_add] at e
      exact ih k (inj _ (inL _) _ (inL _) e)
  have ex : ∃ j, 0 < j ∧ itn T j x = x := by
    by_cases c : ∃ j, 0 < j ∧ itn T j x = x
    · exact c
    · exfalso
      have nd2 : ((List.range (L.length + 1)).map fun i => itn T i x).Nodup := nodup_map_range fun i j hij hj e => by
        refine c ⟨j - i, by omega, ?_⟩
        rw [show j = i + (j - i) by omega] at e
        exact (cancel i (j - i) e).symm
      have := nodup_len nd2 (B := L) fun y hy => by
        obtain ⟨i, _, e⟩ := List.mem_map.mp hy
        exact e ▸ inL i
      rw [List.length_map, List.length_range] at this
      omega
  obtain ⟨m, ⟨hm, pm⟩, mi⟩ := least ex
  obtain ⟨k, hk⟩ := orbits_div (T := T) hm L.length L (Nat.le_refl _) nd cl (fun y hy => U m x hx y hy pm) fun y hy j h0 hj e => mi j hj ⟨h0, U j y hy x hx e⟩
  rw [hk]
  exact itn_mul T pm k
end
/-! ### all lists of d rests -/
def vecs (p : Nat) : Nat → List (List Int)
  | 0 => [[]]
  | d + 1 => (List.range p).flatMap fun (c : Nat) => (vecs p d).map fun v => (c : Int) :: v
theorem vecs_len (p d : Nat) : (vecs p d).length = p ^ d := by
  induction d with
  | zero => rfl
  | succ d ih =>
    have : ∀ k, ((List.range k).flatMap fun (c : Nat) => (vecs p d).map fun v => (c : Int) :: v).length = k * p ^ d := by
      intro k
      induction k with
      | zero => rw [Nat.zero_mul]; rfl
      | succ k ih2 =>
        rw [List.range_succ, List.flatMap_append, List.length_append, ih2, Nat.succ_mul]
        congr 1
        rw [List.flatMap_cons, List.flatMap_nil, List.append_nil, List.length_map, ih]
    rw [Nat.pow_succ, Nat.mul_comm]
    exact this p
theorem vecs_mem {p d : Nat} {v : List Int} : v ∈ vecs p d ↔ v.length = d ∧ ∀ x ∈ v, 0 ≤ x ∧ x < (p : Int) := by
  induction d generalizing v with
  | zero =>
    show v ∈ [[]] ↔ _
    rw [List.mem_singleton]
    constructor
    · rintro rfl
      exact ⟨rfl, fun x hx => nomatch hx⟩
    · intro h
      exact List.length_eq_zero_iff.mp h.1
  | succ d ih =>
    show v ∈ (List.range p).flatMap (fun (c : Nat) => (vecs p d).map fun v => (c : Int) :: v) ↔ _
    rw [List.mem_flatMap]
    constructor
    · rintro ⟨c, hc, hv⟩
      obtain ⟨u, hu, rfl⟩ := List.mem_map.mp hv
      have := ih.mp hu
      have hc := List.mem_range.mp hc
      refine ⟨by rw [List.length_cons, this.1], fun x hx => ?_⟩
      rcases List.mem_cons.mp hx with rfl | hx
      · omega
      · exact this.2 x hx
    · intro h
      match v, h with
      | [], h => exact absurd h.1 (by rw [List.length_nil]; omega)
      | c :: u, h =>
        have hc := h.2 c List.mem_cons_self
        refine ⟨c.toNat, List.mem_range.mpr (by omega), List.mem_map.mpr ⟨u, ih.mpr ⟨Nat.succ.inj h.1, fun x hx => h.2 x (List.mem_cons_of_mem _ hx)⟩, ?_⟩⟩
        rw [Int.toNat_of_nonneg hc.1]
theorem vecs_nodup (p d : Nat) : (vecs p d).Nodup := by
  induction d with
  | zero => exact List.nodup_cons.mpr ⟨(fun h => nomatch h), List.nodup_nil⟩
  | succ d ih =>
    show ((List.range p).flatMap fun (c : Nat) => (vecs p d).map fun v => (c : Int) :: v).Nodup
    unfold List.Nodup
    rw [List.pairwise_flatMap]
    refine ⟨fun c _ => ?_, ?_⟩
    · rw [List.pairwise_map]
      exact List.Pairwise.imp (fun h e => h (List.cons.inj e).2) ih
    · refine List.Pairwise.imp ?_ (List.nodup_range (n := p))
      intro a b hab x hx y hy e
      obtain ⟨u, _, rfl⟩ := List.mem_map.mp hx
      obtain ⟨v, _, rfl⟩ := List.mem_map.mp hy
      have := (List.cons.inj e).1
      omega
end Pw

namespace Pw
/-! ### where no shorter one kills a part, all goes round alike -/
/-- times the sign, less whole multiples of the one with c -/
def tv (p : Int) (c : Sq) (d : Nat) (R : List Int) : List Int := (List.range d).map fun i => ((if i = 0 then 0 else sq R (i - 1)) - sq R (d - 1) * c i) % p
theorem tv_len (p : Int) (c : Sq) (d : Nat) (R : List Int) : (tv p c d R).length = d := by
  unfold tv
  rw [List.length_map, List.length_range]
theorem tv_phi {p : Int} {c a : Sq} {d : Nat} (hd : 0 < d) (h : Ann p d c a) (R : List Int) (n : Nat) : lc (sq (tv p c d R)) a n d % p = lc (sq R) a (n + 1) d % p := by
  obtain ⟨q, rfl⟩ : ∃ q, d = q + 1 := ⟨d - 1, by omega⟩
  have e1 : lc (sq (tv p c (q + 1) R)) a n (q + 1) % p = lc (fun i => (if i = 0 then 0 else sq R (i - 1)) - sq R q * c i) a n (q + 1) % p := lc_em (fun i hi => by
    rw [show sq (tv p c (q + 1) R) i = ((if i = 0 then 0 else sq R (i - 1)) - sq R q * c i) % p from sq_map_range hi, em_em]) fun i _ => rfl
  have e2 : lc (fun i => if i = 0 then (0 : Int) else sq R (i - 1)) a n (q + 1) = lc (sq R) a (n + 1) q := by
    rw [lc_first]
    show 0 * a n + lc (sq R) a (n + 1) q = _
    rw [Int.zero_mul, Int.zero_add]
  have e3 : lc (sq R) a (n + 1) (q + 1) = lc (sq R) a (n + 1) q + sq R q * a (n + 1 + q) := rfl
  have e4 : (lc c a n (q + 1) + a (n + (q + 1))) % p = 0 := h n
  rw [e1, lc_sub_c, lc_mul_c, e2, e3]
  have e5 : lc (sq R) a (n + 1) q + sq R q * a (n + 1 + q) = lc (sq R) a (n + 1) q - sq R q * lc c a n (q + 1) + sq R q * (lc c a n (q + 1) + a (n + (q + 1))) := by
    rw [Int.mul_add, show n + (q + 1) = n + 1 + q by omega]
    omega
  rw [e5, Int.add_emod, Int.mul_emod (sq R q) (lc c a n (q + 1) + a (n + (q + 1))), e4, Int.mul_zero, Int.zero_emod, Int.add_zero, em_em]
theorem zero_list {d : Nat} : ∀ {R : List Int}, R.length = d → (∀ i, i < d → sq R i = 0) → R = List.replicate d 0 := fun {R} hl h => by
  refine ext_sq (by rw [List.length_replicate]; exact hl) fun n hn => ?_
  rw [h n (by omega)]
  unfold sq
  rw [List.getD_eq_getElem?_getD, List.getElem?_replicate]
  split <;> rfl
theorem irr_turn {p : Int} (hp : Prm p) {d : Nat} (hd : 0 < d) {c a : Sq} (hc : c 0 % p ≠ 0) (h : Ann p d c a) (irr : ∀ v : Sq, Ann p d c v → (∃ k, k < d ∧ ∃ e, Ann p k e v) → Zp p v) : ∀ n, a (n + (p.toNat ^ d - 1)) % p = a n % p := by
  by_cases ha : Zp p a
  · intro n
    rw [ha, ha]
  have p2 := hp.pos
  have pt : ((p.toNat : Nat) : Int) = p := Int.toNat_of_nonneg (by omega)
  have phi_add : ∀ (R : List Int) (j n : Nat), lc (sq (itn (tv p c d) j R)) a n d % p = lc (sq R) a (n + j) d % p := fun R j => by
    induction j with
    | zero => exact fun n => rfl
    | succ j ih =>
      intro n
      show lc (sq (tv p c d (itn (tv p c d) j R))) a n d % p = _
      rw [tv_phi hd h, ih, show n + 1 + j = n + (j + 1) by omega]
  -- what is told of a tells the rests
  have inj0 : ∀ r : Sq, (∀ n, lc r a n d % p = 0) → ∀ i, i < d → r i % p = 0 := fun r hr i hi => by
    by_cases z : r i % p = 0
    · exact z
    · exact absurd (irr a h (strip hp d hr ⟨i, hi, z⟩)) ha
  have vm : ∀ {R : List Int}, R ∈ vecs p.toNat d → R.length = d ∧ ∀ i, i < d → 0 ≤ sq R i ∧ sq R i < p := fun {R} hR => by
    have := vecs_mem.mp hR
    rw [pt] at this
    exact ⟨this.1, fun i hi => this.2 _ (sq_mem (by omega))⟩
  have inj : ∀ R ∈ vecs p.toNat d, ∀ R' ∈ vecs p.toNat d, (∀ n, lc (sq R) a n d % p = lc (sq R') a n d % p) → R = R' := fun R hR R' hR' e => by
    have m1 := vm hR
    have m2 := vm hR'
    refine ext_sq (by rw [m1.1, m2.1]) fun i hi => ?_
    have z := inj0 (fun i => sq R i - sq R' i) (fun n => by
      rw [lc_sub_c, Int.sub_emod, e n, Int.sub_self, Int.zero_emod]) i (by omega)
    have z : (sq R i - sq R' i) % p = 0 := z
    have b1 := m1.2 i (by omega)
    have b2 := m2.2 i (by omega)
    have := Int.emod_emod_of_dvd (sq R i) (Int.dvd_refl p)
    have d1 : sq R i % p = sq R' i % p := by
      have := Int.emod_eq_emod_iff_emod_sub_eq_zero.mpr z
      exact this
    rw [Int.emod_eq_of_lt b1.1 b1.2, Int.emod_eq_of_lt b2.1 b2.2] at d1
    exact d1
  have tvm : ∀ R, tv p c d R ∈ vecs p.toNat d := fun R => vecs_mem.mpr ⟨tv_len _ _ _ _, fun x hx => by
    obtain ⟨i, _, rfl⟩ := List.mem_map.mp hx
    rw [pt]
    exact ⟨Int.emod_nonneg _ (by omega), Int.emod_lt_of_pos _ (by omega)⟩⟩
  have back : ∀ f : Sq, Ann p d c f → (∀ n, f (n + 1) % p = 0) → Zp p f := fun f hf h1 n => by
    cases n with
    | succ n => exact h1 n
    | zero =>
      obtain ⟨q, rfl⟩ : ∃ q, d = q + 1 := ⟨d - 1, by omega⟩
      have e := hf 0
      rw [mo_first] at e
      have e2 : mo q (tl c) f (0 + 1) % p = 0 := by
        have : mo q (tl c) f (0 + 1) % p = mo q (tl c) (fun _ => 0) (0 + 1) % p := em_add (lc_em (fun _ _ => rfl) fun i _ => by
          show f (0 + 1 + i) % p = 0 % p
          rw [show 0 + 1 + i = i + 1 by omega, h1, Int.zero_emod]) (by
          show f (0 + 1 + q) % p = 0 % p
          rw [show 0 + 1 + q = q + 1 by omega, h1, Int.zero_emod])
        rw [this]
        have z : mo q (tl c) (fun _ => 0) (0 + 1) = 0 * mo q (tl c) (fun _ => 0) (0 + 1) := by
          rw [← mo_mul_b q 0]
          rfl
        rw [z, Int.zero_mul, Int.zero_emod]
      refine mul_ne hp hc ?_
      rw [Int.add_emod, e2, Int.add_zero, em_em] at e
      exact e
  have ann_phi : ∀ r : Sq, Ann p d c (fun n => lc r a n d) := fun r n => by
    have e : mo d c (fun n => lc r a n d) n = lc r (mo d c a) n d := by
      show lc c (fun m => lc r a m d) n d + lc r a (n + d) d = lc r (fun m => lc c a m d + a (m + d)) n d
      rw [lc_add_b, lc_comm, lc_shift]
    rw [e]
    have : lc r (mo d c a) n d % p = lc r (fun _ => 0) n d % p := lc_em (fun _ _ => rfl) fun i _ => by rw [h (n + i), Int.zero_emod]
    rw [this]
    have z : lc r (fun _ => 0) n d = 0 * lc r (fun _ => 0) n d := by
      rw [← lc_mul_b 0]
      rfl
    rw [z, Int.zero_mul, Int.zero_emod]
  have tinj : ∀ R ∈ vecs p.toNat d, ∀ R' ∈ vecs p.toNat d, tv p c d R = tv p c d R' → R = R' := fun R hR R' hR' e => inj R hR R' hR' fun n => by
    have z := back (fun n => lc (fun i => sq R i - sq R' i) a n d) (ann_phi _) (fun n => by
      have e1 := tv_phi hd h R n
      have e2 := tv_phi hd h R' n
      show lc (fun i => sq R i - sq R' i) a (n + 1) d % p = 0
      rw [lc_sub_c, Int.sub_emod, ← e1, ← e2, e, Int.sub_self, Int.zero_emod]) n
    have z : lc (fun i => sq R i - sq R' i) a n d % p = 0 := z
    rw [lc_sub_c] at z
    exact Int.emod_eq_emod_iff_emod_sub_eq_zero.mpr z
  -- the rests but the zeros
  generalize hz : List.replicate d (0 : Int) = zr
  have zm : zr ∈ vecs p.toNat d := vecs_mem.mpr ⟨by rw [← hz, List.length_replicate], fun x hx => by
    rw [← hz] at hx
    rw [(List.mem_replicate.mp hx).2, pt]
    omega⟩
  have zs : ∀ i, sq zr i = 0 := fun i => by
    rw [← hz]
    unfold sq
    rw [List.getD_eq_getElem?_getD, List.getElem?_replicate]
    split <;> rfl
  have tz : tv p c d zr = zr := by
    rw [← hz]
    refine zero_list (tv_len _ _ _ _) fun i hi => ?_
    rw [hz]
    show sq ((List.range d).map fun i => ((if i = 0 then 0 else sq zr (i - 1)) - sq zr (d - 1) * c i) % p) i = 0
    rw [sq_map_range hi, zs, zs, Int.zero_mul]
    split <;> exact Int.zero_emod _
  have nd := vecs_nodup p.toNat d
  have len : ((vecs p.toNat d).erase zr).length = p.toNat ^ d - 1 := by rw [List.length_erase_of_mem zm, vecs_len]
  have mE : ∀ x, x ∈ (vecs p.toNat d).erase zr ↔ x ≠ zr ∧ x ∈ vecs p.toNat d := fun x => by
    rw [List.Nodup.mem_erase_iff nd]
  have orb := orbit (T := tv p c d) (L := (vecs p.toNat d).erase zr) (nd.erase zr) (fun x hx => (mE _).mpr ⟨fun e => ((mE _).mp hx).1 (tinj _ ((mE _).mp hx).2 _ zm (by rw [e, tz])), tvm _⟩)
    (fun x hx y hy e => tinj _ ((mE _).mp hx).2 _ ((mE _).mp hy).2 e) (fun j x hx y hy e => by
      obtain ⟨x1, x2⟩ := (mE _).mp hx
      obtain ⟨y1, y2⟩ := (mE _).mp hy
      have mx := vm x2
      have w0 : Zp p (fun n => a (n + j) - a n) := by
        refine irr _ (fun n => ?_) (strip hp (r := sq x) d (fun n => ?_) ?_)
        · rw [mo_sub_b d c (fun m => a (m + j)) a, mo_shift, Int.sub_emod, h, h]
          rfl
        · rw [lc_sub_b (sq x) (fun m => a (m + j)) a, lc_shift, Int.sub_emod, ← phi_add, e, Int.sub_self, Int.zero_emod]
        · by_cases z : ∃ i, i < d ∧ sq x i % p ≠ 0
          · exact z
          · exfalso
            refine x1 ?_
            rw [← hz]
            refine zero_list mx.1 fun i hi => ?_
            have b := mx.2 i hi
            rw [← Int.emod_eq_of_lt b.1 b.2]
            by_cases z2 : sq x i % p = 0
            · exact z2
            · exact absurd ⟨i, hi, z2⟩ z
      have im : itn (tv p c d) j y ∈ vecs p.toNat d := by
        cases j with
        | zero => exact y2
        | succ j => exact tvm _
      refine inj _ im _ y2 fun n => ?_
      rw [phi_add]
      refine lc_em' (fun i => ?_)
      have := w0 (n + i)
      have := Int.emod_eq_emod_iff_emod_sub_eq_zero.mpr this
      rw [show n + j + i = n + i + j by omega]
      exact this)
  -- the plain one
  generalize he : (1 : Int) :: List.replicate (d - 1) 0 = e0
  have e0m : e0 ∈ (vecs p.toNat d).erase zr := (mE _).mpr ⟨fun z => by
    have := zs 0
    rw [← z, ← he] at this
    have this : (1 : Int) = 0 := this
    omega, vecs_mem.mpr ⟨by rw [← he, List.length_cons, List.length_replicate]; omega, fun x hx => by
    rw [← he] at hx
    rw [pt]
    rcases List.mem_cons.mp hx with rfl | hx
    · omega
    · rw [(List.mem_replicate.mp hx).2]
      omega⟩⟩
  have pe : ∀ n, lc (sq e0) a n d = a n := fun n => by
    obtain ⟨q, rfl⟩ : ∃ q, d = q + 1 := ⟨d - 1, by omega⟩
    rw [lc_first]
    have z : lc (tl (sq e0)) a (n + 1) q = lc (fun i => 0 * a i) a (n + 1) q := lc_congr (fun i hi => by
      show sq e0 (i + 1) = 0 * a i
      rw [Int.zero_mul, ← he]
      show sq (List.replicate (q + 1 - 1) 0) i = 0
      unfold sq
      rw [List.getD_eq_getElem?_getD, List.getElem?_replicate]
      split <;> rfl) fun i _ => rfl
    rw [z, lc_mul_c, Int.zero_mul, Int.add_zero, ← he]
    show 1 * a n = a n
    rw [Int.one_mul]
  intro n
  have o := orb e0 e0m
  rw [len] at o
  have := phi_add e0 (p.toNat ^ d - 1) n
  rw [o, pe, pe] at this
  exact this.symm
where
  lc_em' {p : Int} {c b : Sq} {n n' q : Nat} (h2 : ∀ i, b (n + i) % p = b (n' + i) % p) : lc c b n q % p = lc c b n' q % p := lc_em (fun _ _ => rfl) fun i _ => h2 i
/-! ### behind so many turns: the steps less one, so often -/
def nil (M : Nat) : Nat → Sq → Sq
  | 0, a => a
  | k + 1, a => fun n => nil M k a (n + M) - nil M k a n
theorem nil_add (M k l : Nat) (a : Sq) : nil M (k + l) a = nil M k (nil M l a) := by
  induction k with
  | zero => rw [Nat.zero_add]; rfl
  | succ k ih =>
    rw [Nat.succ_add]
    show (fun n => nil M (k + l) a (n + M) - nil M (k + l) a n) = _
    rw [ih]
    rfl
theorem nil_em {p : Int} {M k : Nat} {a b : Sq} (h : ∀ n, a n % p = b n % p) : ∀ n, nil M k a n % p = nil M k b n % p := by
  induction k with
  | zero => exact h
  | succ k ih => exact fun n => em_sub (ih _) (ih _)
theorem nil_zero {M k : Nat} : nil M k (fun _ => 0) = fun _ => 0 := by
  induction k with
  | zero => rfl
  | succ k ih =>
    show (fun n => nil M k (fun _ => 0) (n + M) - nil M k (fun _ => 0) n) = _
    rw [ih]
    rfl
theorem nil_z {p : Int} {M k : Nat} {a : Sq} (h : Zp p a) : Zp p (nil M k a) := fun n => by
  rw [nil_em (b := fun _ => 0) (fun n => by rw [h n, Int.zero_emod]) n, nil_zero, Int.zero_emod]
theorem nil_mo (M k q : Nat) (c a : Sq) : mo q c (nil M k a) = nil M k (mo q c a) := by
  induction k with
  | zero => rfl
  | succ k ih =>
    funext n
    show mo q c (fun n => nil M k a (n + M) - nil M k a n) n = nil M k (mo q c a) (n + M) - nil M k (mo q c a) n
    rw [mo_sub_b q c (fun n => nil M k a (n + M)) (nil M k a), mo_shift, ih]
theorem turn_many {p : Int} {a : Sq} {m : Nat} (h : ∀ n, a (n + m) % p = a n % p) (k : Nat) : ∀ n, a (n + m * k) % p = a n % p := by
  induction k with
  | zero => exact fun n => rfl
  | succ k ih =>
    intro n
    rw [Nat.mul_succ, ← Nat.add_assoc, h, ih]
theorem mo_far (q : Nat) (c : Sq) (n : Nat) : mo q c one (n + 1) = 0 := by
  have z : ∀ q, lc c one (n + 1) q = 0 := fun q => by
    induction q with
    | zero => rfl
    | succ q ih =>
      show lc c one (n + 1) q + c q * one (n + 1 + q) = 0
      rw [ih, show one (n + 1 + q) = 0 from if_neg (by omega), Int.mul_zero]
      rfl
  show lc c one (n + 1) q + one (n + 1 + q) = 0
  rw [z, show one (n + 1 + q) = 0 from if_neg (by omega)]
  rfl
/-- the claim, by how many coefficients there are -/
theorem nil_all {p : Int} (hp : Prm p) {M : Nat} : ∀ d : Nat, (∀ j, 0 < j → j ≤ d → (p.toNat ^ j - 1) ∣ M) → ∀ c a : Sq, (0 < d → c 0 % p ≠ 0) → Ann p d c a → Zp p (nil M d a) := by
  intro d
  induction d using Nat.strongRecOn with
  | ind d ih =>
    intro hM c a hc h
    by_cases d0 : d = 0
    · subst d0
      have : Zp p (mo 0 c a) := h
      rw [mo_zero] at this
      exact this
    have dp : 0 < d := by omega
    have hc0 := hc dp
    by_cases irr : ∀ v : Sq, Ann p d c v → (∃ k, k < d ∧ ∃ e, Ann p k e v) → Zp p v
    · obtain ⟨k, hk⟩ := hM d dp (Nat.le_refl _)
      have t := turn_many (irr_turn hp dp hc0 h irr) k
      rw [← hk] at t
      have z1 : Zp p (nil M 1 a) := fun n => by
        show (a (n + M) - a n) % p = 0
        rw [Int.sub_emod, t, Int.sub_self, Int.zero_emod]
      obtain ⟨q, rfl⟩ : ∃ q, d = q + 1 := ⟨d - 1, by omega⟩
      rw [nil_add]
      exact nil_z z1
    · have ⟨v, hv⟩ := Classical.not_forall.mp irr
      have ⟨v1, hv⟩ := Classical.not_imp.mp hv
      have ⟨v2, v3⟩ := Classical.not_imp.mp hv
      obtain ⟨q, ⟨hq, e, he⟩, mi⟩ := least v2
      have q0 : q ≠ 0 := fun z => by
        subst z
        have : Zp p (mo 0 e v) := he
        rw [mo_zero] at this
        exact v3 this
      obtain ⟨q', rfl⟩ : ∃ q', q = q' + 1 := ⟨q - 1, by omega⟩
      obtain ⟨k, rfl⟩ : ∃ k, d = q' + 1 + k := ⟨d - (q' + 1), by omega⟩
      obtain ⟨g, r, hr⟩ := div_mo (q := q') e k c
      have r0 : ∀ i, i < q' + 1 → r i % p = 0 := fun i hi => by
        by_cases z : r i % p = 0
        · exact z
        · exfalso
          obtain ⟨k2, hk2, e2, he2⟩ := strip hp (r := r) (w := v) (q' + 1) (fun n => by
            have h1 := v1 n
            rw [hr v n, mo_comm, Int.add_emod] at h1
            have h2 : mo k g (mo (q' + 1) e v) n % p = 0 := by
              rw [mo_em (b' := fun _ => 0) (fun n => by rw [he n, Int.zero_emod]) n]
              have z : mo k g (fun _ => 0) n = 0 * mo k g (fun _ => 0) n := by
                rw [← mo_mul_b k 0]
                rfl
              rw [z, Int.zero_mul, Int.zero_emod]
            rw [h2, Int.zero_add, em_em] at h1
            exact h1) ⟨i, hi, z⟩
          exact mi k2 hk2 ⟨by omega, e2, he2⟩
      have hr' : ∀ (b : Sq) (n : Nat), mo (q' + 1 + k) c b n % p = mo (q' + 1) e (mo k g b) n % p := fun b n => by
        rw [hr b n, Int.add_emod]
        have : lc r b n (q' + 1) % p = lc (fun i => 0 * b i) b n (q' + 1) % p := lc_em (fun i hi => by rw [r0 i hi, Int.zero_mul, Int.zero_emod]) fun i _ => rfl
        rw [this, lc_mul_c, Int.zero_mul, Int.zero_emod, Int.add_zero, em_em]
      -- the first coefficients
      have first : c 0 % p = mo (q' + 1) e (mo k g one) 0 % p := by
        rw [← hr' one 0, show q' + 1 + k = q' + k + 1 by omega, mo_first]
        rw [mo_far]
        show c 0 % p = (c 0 * 1 + 0) % p
        rw [Int.mul_one, Int.add_zero]
      have e0 : e 0 % p ≠ 0 ∧ (0 < k → g 0 % p ≠ 0) := by
        have far := mo_far
        have g0 : mo k g one 0 = (if k = 0 then 1 else g 0) := by
          cases k with
          | zero =>
            rw [mo_zero]
            rfl
          | succ k =>
            rw [mo_first, far, if_neg (by omega)]
            show g 0 * 1 + 0 = g 0
            omega
        have gm : mo k g one = fun n => mo k g one 0 * one n := funext fun n => by
          cases n with
          | zero => exact (Int.mul_one _).symm
          | succ n =>
            rw [far]
            exact (Int.mul_zero _).symm
        rw [gm, mo_mul_b, mo_first, far, g0] at first
        have f2 : c 0 % p = (if k = 0 then 1 else g 0) * e 0 % p := by
          rw [first]
          show _ * (e 0 * 1 + 0) % p = _
          rw [Int.mul_one, Int.add_zero]
        refine ⟨fun z => hc0 ?_, fun hk z => hc0 ?_⟩
        · rw [f2, Int.mul_emod, z, Int.mul_zero, Int.zero_emod]
        · rw [f2, if_neg (by omega), Int.mul_emod, z, Int.zero_mul, Int.zero_emod]
      have i1 := ih (q' + 1) (by omega) (fun j j0 j1 => hM j j0 (by omega)) e (mo k g a) (fun _ => e0.1) (fun n => by rw [← hr']; exact h n)
      rw [← nil_mo] at i1
      have i2 := ih k (by omega) (fun j j0 j1 => hM j j0 (by omega)) g (nil M (q' + 1) a) e0.2 i1
      rw [Nat.add_comm, nil_add]
      exact i2
/-! ### the steps less one, the prime's third power of times -/
def cf : Nat → List Int
  | 0 => [1]
  | k + 1 => (List.range (k + 2)).map fun i => (if i = 0 then 0 else sq (cf k) (i - 1)) - sq (cf k) i
theorem cf_len (k : Nat) : (cf k).length = k + 1 := by
  cases k with
  | zero => rfl
  | succ k =>
    show ((List.range (k + 2)).map _).length = _
    rw [List.length_map, List.length_range]
theorem nil_cf (M k : Nat) (a : Sq) (n : Nat) : nil M k a n = lc (sq (cf k)) (fun i => a (n + i * M)) 0 (k + 1) := by
  induction k generalizing n with
  | zero =>
    show a n = 0 + 1 * a (n + (0 + 0) * M)
    rw [Nat.add_zero, Nat.zero_mul, Nat.add_zero, Int.one_mul, Int.zero_add]
  | succ k ih =>
    show nil M k a (n + M) - nil M k a n = _
    rw [ih, ih]
    have e1 : lc (sq (cf (k + 1))) (fun i => a (n + i * M)) 0 (k + 2) = lc (fun i => (if i = 0 then 0 else sq (cf k) (i - 1)) - sq (cf k) i) (fun i => a (n + i * M)) 0 (k + 2) := lc_congr (fun i hi => sq_map_range hi) fun i _ => rfl
    rw [e1, lc_sub_c]
    congr 1
    · conv => rhs; rw [lc_first]
      show _ = 0 * _ + lc (sq (cf k)) (fun i => a (n + i * M)) (0 + 1) (k + 1)
      rw [Int.zero_mul, Int.zero_add]
      exact lc_congr (fun _ _ => rfl) fun i _ => by
        show a (n + M + (0 + i) * M) = a (n + (0 + 1 + i) * M)
        congr 1
        rw [show 0 + 1 + i = (0 + i) + 1 by omega, Nat.succ_mul]
        omega
    · show _ = lc (sq (cf k)) (fun i => a (n + i * M)) 0 (k + 1) + sq (cf k) (k + 1) * _
      rw [sq_out (by rw [cf_len]; exact Nat.le_refl _), Int.zero_mul, Int.add_zero]
def cfLast (p : Nat) : List Int := (List.range (p + 1)).map fun i => if i = p then 1 else if i = 0 then (p : Int) - 1 else 0
/-- the coefficients, row by row, by lists -/
def cfRow (p : Int) (xs : List Int) : List Int := List.zipWith (fun x y => (x - y) % p) (0 :: xs) (xs ++ [0])
def cfRows (p : Int) : Nat → List Int
  | 0 => [1]
  | k + 1 => cfRow p (cfRows p k)
def cfCheck : Bool := primes.all fun p => cfRows p p.toNat == cfLast p.toNat
theorem cfCheck_ok : cfCheck = true := by decide +kernel
theorem cfRows_ok (p : Int) (k : Nat) : (cfRows p k).length = k + 1 ∧ ∀ i, sq (cfRows p k) i % p = sq (cf k) i % p := by
  induction k with
  | zero => exact ⟨rfl, fun i => rfl⟩
  | succ k ih =>
    have l : (cfRows p (k + 1)).length = k + 2 := by
      show (List.zipWith _ (0 :: cfRows p k) (cfRows p k ++ [0])).length = k + 2
      rw [List.length_zipWith, List.length_cons, List.length_append, ih.1]
      show min (k + 1 + 1) (k + 1 + 1) = k + 2
      omega
    refine ⟨l, fun i => ?_⟩
    by_cases hi : i < k + 2
    · have e1 : sq (cfRows p (k + 1)) i = (sq (0 :: cfRows p k) i - sq (cfRows p k ++ [0]) i) % p := by
        show (List.zipWith (fun x y => (x - y) % p) (0 :: cfRows p k) (cfRows p k ++ [0])).getD i 0 = _
        rw [List.getD_eq_getElem?_getD, List.getElem?_zipWith, sq_at (xs := 0 :: cfRows p k) (by rw [List.length_cons, ih.1]; exact hi), sq_at (xs := cfRows p k ++ [0]) (by rw [List.length_append, ih.1]; exact hi)]
        rfl
      have e2 : sq (cf (k + 1)) i = (if i = 0 then 0 else sq (cf k) (i - 1)) - sq (cf k) i := sq_map_range hi
      have e3 : sq (cfRows p k ++ [0]) i = sq (cfRows p k) i := by
        by_cases h : i < k + 1
        · exact sq_append_left (by rw [ih.1]; exact h)
        · rw [sq_out (xs := cfRows p k) (by rw [ih.1]; omega)]
          obtain rfl : i = (cfRows p k).length := by rw [ih.1]; omega
          exact sq_append_at
      rw [e1, e2, e3, em_em]
      refine em_sub ?_ (ih.2 i)
      cases i with
      | zero => rfl
      | succ i =>
        rw [if_neg (by omega)]
        exact ih.2 i
    · rw [sq_out (by rw [l]; omega), sq_out (by rw [cf_len]; omega)]
theorem nil_prime {p : Int} (hp : Prm p) (M : Nat) (a : Sq) (n : Nat) : nil M p.toNat a n % p = (a (n + p.toNat * M) - a n) % p := by
  have p2 := hp.pos
  have pt : ((p.toNat : Nat) : Int) = p := Int.toNat_of_nonneg (by omega)
  obtain ⟨q, hq⟩ : ∃ q, p.toNat = q + 1 := ⟨p.toNat - 1, by omega⟩
  have ck := beq_iff_eq.mp (List.all_eq_true.mp cfCheck_ok p hp)
  rw [nil_cf]
  have e1 : lc (sq (cf p.toNat)) (fun i => a (n + i * M)) 0 (p.toNat + 1) % p = lc (fun i => if i = p.toNat then 1 else if i = 0 then (-1 : Int) else 0) (fun i => a (n + i * M)) 0 (p.toNat + 1) % p := lc_em (fun i hi => by
    rw [← (cfRows_ok p p.toNat).2 i, ck, show sq (cfLast p.toNat) i = (if i = p.toNat then 1 else if i = 0 then ((p.toNat : Nat) : Int) - 1 else 0) from sq_map_range hi, pt]
    by_cases h1 : i = p.toNat
    · rw [if_pos h1, if_pos h1]
    · rw [if_neg h1, if_neg h1]
      by_cases h2 : i = 0
      · rw [if_pos h2, if_pos h2, show p - 1 = -1 + p by omega, Int.add_emod_right]
      · rw [if_neg h2, if_neg h2]) fun i _ => rfl
  rw [e1]
  congr 1
  show lc _ _ 0 p.toNat + (if p.toNat = p.toNat then 1 else _) * a (n + (0 + p.toNat) * M) = _
  rw [if_pos rfl, Int.one_mul, Nat.zero_add, hq, lc_first]
  have z : lc (tl fun i => if i = q + 1 then 1 else if i = 0 then (-1 : Int) else 0) (fun i => a (n + i * M)) (0 + 1) q = lc (fun i => 0 * a i) (fun i => a (n + i * M)) (0 + 1) q := lc_congr (fun i hi => by
    show (if i + 1 = q + 1 then 1 else if i + 1 = 0 then (-1 : Int) else 0) = 0 * a i
    rw [if_neg (by omega), if_neg (by omega), Int.zero_mul]) fun i _ => rfl
  rw [z, lc_mul_c, Int.zero_mul, Int.add_zero]
  show (if 0 = q + 1 then 1 else if 0 = 0 then (-1 : Int) else 0) * a (n + 0 * M) + _ = _
  rw [if_neg (by omega), if_pos rfl, Nat.zero_mul, Nat.add_zero]
  omega
theorem nil_times {p : Int} (hp : Prm p) (M k : Nat) : ∀ (a : Sq) (n : Nat), nil M (p.toNat * k) a n % p = nil (p.toNat * M) k a n % p := by
  induction k with
  | zero => exact fun a n => rfl
  | succ k ih =>
    intro a n
    rw [Nat.mul_succ, Nat.add_comm, nil_add, nil_prime hp]
    show _ = (nil (p.toNat * M) k a (n + p.toNat * M) - nil (p.toNat * M) k a n) % p
    exact em_sub (ih a _) (ih a _)
/-- how far all goes round -/
def aroundM (p : Nat) : Nat := (p ^ 1 - 1) * (p ^ 2 - 1) * (p ^ 3 - 1) * (p ^ 4 - 1) * (p ^ 5 - 1) * (p ^ 6 - 1) * (p ^ 7 - 1)
theorem dvd_aroundM (p j : Nat) (h0 : 0 < j) (h7 : j ≤ 7) : (p ^ j - 1) ∣ aroundM p := by
  unfold aroundM
  match j, h0, h7 with
  | 1, _, _ => exact Nat.dvd_trans (Nat.dvd_trans (Nat.dvd_trans (Nat.dvd_trans (Nat.dvd_trans (Nat.dvd_mul_right _ _) (Nat.dvd_mul_right _ _)) (Nat.dvd_mul_right _ _)) (Nat.dvd_mul_right _ _)) (Nat.dvd_mul_right _ _)) (Nat.dvd_mul_right _ _)
  | 2, _, _ => exact Nat.dvd_trans (Nat.dvd_trans (Nat.dvd_trans (Nat.dvd_trans (Nat.dvd_trans (Nat.dvd_mul_left _ _) (Nat.dvd_mul_right _ _)) (Nat.dvd_mul_right _ _)) (Nat.dvd_mul_right _ _)) (Nat.dvd_mul_right _ _)) (Nat.dvd_mul_right _ _)
  | 3, _, _ => exact Nat.dvd_trans (Nat.dvd_trans (Nat.dvd_trans (Nat.dvd_trans (Nat.dvd_mul_left _ _) (Nat.dvd_mul_right _ _)) (Nat.dvd_mul_right _ _)) (Nat.dvd_mul_right _ _)) (Nat.dvd_mul_right _ _)
  | 4, _, _ => exact Nat.dvd_trans (Nat.dvd_trans (Nat.dvd_trans (Nat.dvd_mul_left _ _) (Nat.dvd_mul_right _ _)) (Nat.dvd_mul_right _ _)) (Nat.dvd_mul_right _ _)
  | 5, _, _ => exact Nat.dvd_trans (Nat.dvd_trans (Nat.dvd_mul_left _ _) (Nat.dvd_mul_right _ _)) (Nat.dvd_mul_right _ _)
  | 6, _, _ => exact Nat.dvd_trans (Nat.dvd_mul_left _ _) (Nat.dvd_mul_right _ _)
  | 7, _, _ => exact Nat.dvd_mul_left _ _
theorem turn_all {p : Int} (hp : Prm p) {d : Nat} (hd : d ≤ 7) {c a : Sq} (hc : 0 < d → c 0 % p ≠ 0) (h : Ann p d c a) (n : Nat) : a (n + p.toNat * (p.toNat * (p.toNat * aroundM p.toNat))) % p = a n % p := by
  have p2 := hp.pos
  have z := nil_all hp d (fun j j0 j1 => dvd_aroundM p.toNat j j0 (by omega)) c a hc h
  have ge : 8 ≤ p.toNat * (p.toNat * (p.toNat * 1)) := by
    have h2 : 2 ≤ p.toNat := by omega
    have h4 : 2 * 2 ≤ p.toNat * p.toNat := Nat.mul_le_mul h2 h2
    have h8 : 2 * (2 * 2) ≤ p.toNat * (p.toNat * p.toNat) := Nat.mul_le_mul h2 h4
    rw [Nat.mul_one]
    omega
  have z8 : Zp p (nil (aroundM p.toNat) (p.toNat * (p.toNat * (p.toNat * 1))) a) := by
    rw [show p.toNat * (p.toNat * (p.toNat * 1)) = (p.toNat * (p.toNat * (p.toNat * 1)) - d) + d by omega, nil_add]
    exact nil_z z
  have e := z8 n
  rw [nil_times hp, nil_times hp, nil_times hp] at e
  have e : (a (n + p.toNat * (p.toNat * (p.toNat * aroundM p.toNat))) - a n) % p = 0 := e
  exact Int.emod_eq_emod_iff_emod_sub_eq_zero.mpr e
end Pw

namespace Pw
/-! ### the row of a rule -/
def ser (p : Int) (t b : Sq) : Sq := fun n => sq (quo p 1 t b (n + 1)) n
theorem ser_quo (p : Int) (t b : Sq) (n : Nat) : quo p 1 t b n = (List.range n).map (ser p t b) := by
  refine ext_sq ?_ fun i hi => ?_
  · rw [quo_len, List.length_map, List.length_range]
  · rw [quo_len] at hi
    rw [sq_map_range hi]
    exact quo_sq p 1 t b hi
theorem quo_congr {p c : Int} {t t' b b' : Sq} (n : Nat) (h1 : ∀ i, i < n → t i = t' i) (h2 : ∀ i, i ≤ n → b i = b' i) : quo p c t b n = quo p c t' b' n := by
  induction n with
  | zero => rfl
  | succ n ih =>
    show quo p c t b n ++ [_] = quo p c t' b' n ++ [_]
    rw [ih (fun i hi => h1 i (by omega)) (fun i hi => h2 i (by omega)), h1 n (by omega)]
    congr 6
    apply List.map_congr_left
    intro i _
    rw [h2 (n - i) (by omega)]
theorem quo_in {p c : Int} {f g : Sq} (hp : 0 < p) (n : Nat) : ∀ x ∈ quo p c f g n, 0 ≤ x ∧ x < p := by
  induction n with
  | zero => exact fun x h => nomatch h
  | succ n ih =>
    intro x h
    rcases List.mem_append.mp h with h | h
    · exact ih x h
    · obtain rfl := List.mem_singleton.mp h
      exact ⟨Int.emod_nonneg _ (by omega), Int.emod_lt_of_pos _ hp⟩
theorem ser_rest {p : Int} (hp : 0 < p) (t b : Sq) (n : Nat) : 0 ≤ ser p t b n ∧ ser p t b n < p := quo_in hp (n + 1) _ (sq_mem (by rw [quo_len]; exact Nat.lt_succ_self n))
theorem ser_mul {p : Int} {t b : Sq} (hb : b 0 = 1) (n : Nat) : cv (ser p t b) b n % p = t n % p := by
  have h := quo_mul (p := p) (c := 1) (f := t) (g := b) (by rw [hb]; rfl) (Nat.lt_succ_self n)
  rw [← h]
  congr 1
  refine cv_congr (fun i hi => ?_) fun i _ => rfl
  exact (quo_sq p 1 t b (show i < n + 1 by omega)).symm
theorem cv_last (f g : Sq) (n : Nat) : cv f g n = ((List.range n).map fun i => f i * g (n - i)).sum + f n * g 0 := by
  rw [sum_cv_less]
  omega
theorem ser_uniq {p : Int} (hp : 0 < p) {t b f : Sq} (hb : b 0 = 1) (N : Nat) (h1 : ∀ n, n ≤ N → 0 ≤ f n ∧ f n < p) (h2 : ∀ n, n ≤ N → cv f b n % p = t n % p) : ∀ n, n ≤ N → f n = ser p t b n := by
  intro n
  induction n using Nat.strongRecOn with
  | ind n ih =>
    intro hn
    have e1 := h2 n hn
    rw [← ser_mul (p := p) (t := t) hb n, cv_last, cv_last, hb] at e1
    have e2 : ((List.range n).map fun i => f i * b (n - i)) = (List.range n).map fun i => ser p t b i * b (n - i) := by
      apply List.map_congr_left
      intro i hi
      have := List.mem_range.mp hi
      rw [ih i this (by omega)]
    rw [e2, Int.mul_one, Int.mul_one] at e1
    have e3 := em_sub e1 (rfl : ((List.range n).map fun i => ser p t b i * b (n - i)).sum % p = _)
    rw [Int.add_comm, Int.add_sub_cancel, Int.add_comm, Int.add_sub_cancel] at e3
    have s := ser_rest hp t b n
    have s1 := h1 n hn
    rw [Int.emod_eq_of_lt s1.1 s1.2, Int.emod_eq_of_lt s.1 s.2] at e3
    exact e3
/-- the first places, told one by one -/
theorem ser_step {p : Int} (hp : 0 < p) {t b : Sq} (hb : b 0 = 1) (n : Nat) : ser p t b n = (t n - ((List.range n).map fun i => ser p t b i * b (n - i)).sum) % p := by
  have e := ser_mul (p := p) (t := t) hb n
  rw [cv_last, hb, Int.mul_one] at e
  have e3 := em_sub e (rfl : ((List.range n).map fun i => ser p t b i * b (n - i)).sum % p = _)
  rw [Int.add_comm, Int.add_sub_cancel] at e3
  rw [← e3]
  have s := ser_rest hp t b n
  exact (Int.emod_eq_of_lt s.1 s.2).symm
theorem ser_congr {p : Int} {t t' b b' : Sq} {N : Nat} (h1 : ∀ i, i ≤ N → t i = t' i) (h2 : ∀ i, i ≤ N → b i = b' i) : ∀ n, n ≤ N → ser p t b n = ser p t' b' n := fun n hn => by
  unfold ser
  congr 1
  show quo p 1 t b n ++ [_] = quo p 1 t' b' n ++ [_]
  rw [quo_congr n (fun i hi => h1 i (by omega)) (fun i hi => h2 i (by omega)), h1 n hn]
  congr 6
  apply List.map_congr_left
  intro i _
  rw [h2 (n - i) (by omega)]
/-! ### at half the place -/
def alt (f : Sq) : Sq := fun n => if n % 2 = 1 then -f n else f n
theorem alt_tl (f : Sq) : tl (alt f) = fun n => -(alt (tl f) n) := funext fun n => by
  show (if (n + 1) % 2 = 1 then -f (n + 1) else f (n + 1)) = -(if n % 2 = 1 then -f (n + 1) else f (n + 1))
  by_cases h : n % 2 = 1
  · rw [if_pos h, if_neg (by omega), Int.neg_neg]
  · rw [if_neg h, if_pos (by omega)]
theorem cv_neg_left (f g : Sq) (n : Nat) : cv (fun n => -f n) g n = -cv f g n := by
  have e : (fun n => -f n) = fun n => (-1) * f n := funext fun n => (Int.neg_one_mul _).symm
  rw [e, cv_smul_left, Int.neg_one_mul]
theorem cv_alt (f g : Sq) (n : Nat) : cv (alt f) (alt g) n = alt (cv f g) n := by
  induction n generalizing f with
  | zero => rfl
  | succ n ih =>
    show alt f 0 * alt g (n + 1) + cv (tl (alt f)) (alt g) n = _
    rw [alt_tl, cv_neg_left, ih]
    show f 0 * (if (n + 1) % 2 = 1 then -g (n + 1) else g (n + 1)) + -(if n % 2 = 1 then -cv (tl f) g n else cv (tl f) g n) = (if (n + 1) % 2 = 1 then -(f 0 * g (n + 1) + cv (tl f) g n) else f 0 * g (n + 1) + cv (tl f) g n)
    by_cases h : n % 2 = 1
    · rw [if_pos h, if_neg (by omega), if_neg (by omega), Int.neg_neg]
    · rw [if_neg h, if_pos (by omega), if_pos (by omega), Int.mul_neg]
      omega
theorem alt_alt (f : Sq) : alt (alt f) = f := funext fun n => by
  show (if n % 2 = 1 then -(if n % 2 = 1 then -f n else f n) else (if n % 2 = 1 then -f n else f n)) = f n
  split <;> omega
theorem cv_odd (f : Sq) (n : Nat) (h : n % 2 = 1) : cv f (alt f) n = 0 := by
  have e := cv_alt f (alt f) n
  rw [alt_alt, cv_comm] at e
  have e : cv f (alt f) n = -cv f (alt f) n := by
    rw [show alt (cv f (alt f)) n = -cv f (alt f) n from if_pos h] at e
    exact e
  omega
def ev2 (f : Sq) (r : Nat) : Sq := fun m => f (2 * m + r)
theorem cv_half {D f : Sq} (h : ∀ k, D (2 * k + 1) = 0) {r : Nat} (hr : r < 2) (m : Nat) : cv D f (2 * m + r) = cv (ev2 D 0) (ev2 f r) m := by
  induction m generalizing D with
  | zero =>
    match r, hr with
    | 0, _ => rfl
    | 1, _ =>
      show D 0 * f 1 + D 1 * f 0 = D 0 * f 1
      rw [show D 1 = 0 from h 0, Int.zero_mul, Int.add_zero]
  | succ m ih =>
    rw [show 2 * (m + 1) + r = (2 * m + r) + 1 + 1 by omega]
    show D 0 * f (2 * m + r + 2) + (D 1 * f (2 * m + r + 1) + cv (tl (tl D)) f (2 * m + r)) = D 0 * f (2 * (m + 1) + r) + cv (tl (ev2 D 0)) (ev2 f r) m
    rw [show D 1 = 0 from h 0, Int.zero_mul, Int.zero_add, ih (D := tl (tl D)) (fun k => h (k + 1)), show 2 * (m + 1) + r = 2 * m + r + 2 by omega]
    rfl
theorem ser_half {p : Int} (hp : 1 < p) {t b : Sq} (hb : b 0 = 1) {r : Nat} (hr : r < 2) (m : Nat) :
    ser p (ev2 (fun n => cv t (alt b) n % p) r) (ev2 (fun n => cv b (alt b) n % p) 0) m = ser p t b (2 * m + r) := by
  have hD : ∀ k, (fun n => cv b (alt b) n % p) (2 * k + 1) = 0 := fun k => by
    show cv b (alt b) (2 * k + 1) % p = 0
    rw [cv_odd b _ (by omega), Int.zero_emod]
  have hD0 : ev2 (fun n => cv b (alt b) n % p) 0 0 = 1 := by
    show b 0 * b 0 % p = 1
    rw [hb]
    exact Int.emod_eq_of_lt (by decide) hp
  refine (ser_uniq (p := p) (by omega) (f := fun m => ser p t b (2 * m + r)) hD0 m (fun n _ => ser_rest (by omega) t b _) (fun n _ => ?_) m (Nat.le_refl m)).symm
  have e1 : cv (fun m => ser p t b (2 * m + r)) (ev2 (fun n => cv b (alt b) n % p) 0) n = cv (fun n => cv b (alt b) n % p) (ser p t b) (2 * n + r) := by
    rw [cv_half hD hr, cv_comm]
    rfl
  rw [e1]
  show _ = cv t (alt b) (2 * n + r) % p % p
  rw [em_em]
  have e2 : cv (fun n => cv b (alt b) n % p) (ser p t b) (2 * n + r) % p = cv (cv b (alt b)) (ser p t b) (2 * n + r) % p := cv_em (fun i _ => em_em _) fun i _ => rfl
  have e3 : cv (cv b (alt b)) (ser p t b) (2 * n + r) = cv (cv (ser p t b) b) (alt b) (2 * n + r) := by
    rw [cv_comm, ← cv_assoc]
  rw [e2, e3]
  exact cv_em (fun i _ => ser_mul hb i) fun i _ => rfl
/-! ### by lists -/
theorem cv_high {f g : Sq} {a b : Nat} (hf : ∀ i, a ≤ i → f i = 0) (hg : ∀ i, b ≤ i → g i = 0) : ∀ n, a + b ≤ n → cv f g n = 0 := by
  intro n hn
  have h := sum_cv f g n
  rw [← h]
  have : ((List.range (n + 1)).map fun i => f i * g (n - i)) = (List.range (n + 1)).map fun _ => (0 : Int) := by
    apply List.map_congr_left
    intro i hi
    by_cases c : a ≤ i
    · rw [hf i c, Int.zero_mul]
    · rw [hg (n - i) (by omega), Int.mul_zero]
  rw [this]
  exact sum_map_zero _
def wholeL (p : Int) (xs ys : List Int) : List Int := (List.range (xs.length + ys.length)).map fun n => cv (sq xs) (sq ys) n % p
theorem wholeL_len (p : Int) (xs ys : List Int) : (wholeL p xs ys).length = xs.length + ys.length := by
  unfold wholeL
  rw [List.length_map, List.length_range]
theorem sq_whole (p : Int) (xs ys : List Int) (n : Nat) : sq (wholeL p xs ys) n = cv (sq xs) (sq ys) n % p := by
  by_cases h : n < xs.length + ys.length
  · exact sq_map_range h
  · rw [sq_out (by rw [wholeL_len]; omega), cv_high (a := xs.length) (b := ys.length) (fun i hi => sq_out hi) (fun i hi => sq_out hi) n (by omega), Int.zero_emod]
theorem wholeL_rest {p : Int} (hp : 0 < p) (xs ys : List Int) : ∀ x ∈ wholeL p xs ys, 0 ≤ x ∧ x < p := fun x hx => by
  obtain ⟨i, _, rfl⟩ := List.mem_map.mp hx
  exact ⟨Int.emod_nonneg _ (by omega), Int.emod_lt_of_pos _ hp⟩
def turnedL (ys : List Int) : List Int := (List.range ys.length).map fun i => alt (sq ys) i
theorem turnedL_len (ys : List Int) : (turnedL ys).length = ys.length := by
  unfold turnedL
  rw [List.length_map, List.length_range]
theorem sq_turned (ys : List Int) (n : Nat) : sq (turnedL ys) n = alt (sq ys) n := by
  by_cases h : n < ys.length
  · exact sq_map_range h
  · rw [sq_out (by rw [turnedL_len]; omega)]
    unfold alt
    rw [sq_out (by omega)]
    split <;> rfl
/-- padded with zeros, cut -/
def firstL (xs : List Int) (m : Nat) : List Int := (List.range m).map (sq xs)
theorem firstL_len (xs : List Int) (m : Nat) : (firstL xs m).length = m := by
  unfold firstL
  rw [List.length_map, List.length_range]
theorem sq_first {xs : List Int} {m n : Nat} (h : n < m) : sq (firstL xs m) n = sq xs n := sq_map_range h
theorem sq_zeros (xs : List Int) (m n : Nat) : sq (xs ++ List.replicate m 0) n = sq xs n := by
  by_cases h : n < xs.length
  · exact sq_append_left h
  · rw [sq_out (xs := xs) (by omega)]
    unfold sq
    rw [List.getD_eq_getElem?_getD, List.getElem?_append_right (by omega), List.getElem?_replicate]
    split <;> rfl
theorem firstL_take (xs : List Int) (m : Nat) : (xs ++ List.replicate m 0).take m = firstL xs m := by
  refine ext_sq ?_ fun n hn => ?_
  · rw [List.length_take, List.length_append, List.length_replicate, firstL_len]
    omega
  · rw [List.length_take, List.length_append, List.length_replicate] at hn
    rw [sq_take (by omega), sq_zeros, sq_first (by omega)]
theorem whole_prod (p : Int) (xs ys : List Int) : prodL p (firstL xs (xs.length + ys.length)) (firstL ys (xs.length + ys.length)) = wholeL p xs ys := by
  refine ext_sq ?_ fun n hn => ?_
  · rw [prodL_len, wholeL_len, firstL_len, firstL_len, Nat.min_self]
  · rw [prodL_len, firstL_len, firstL_len, Nat.min_self] at hn
    rw [sq_prodL (by rw [firstL_len, firstL_len, Nat.min_self]; exact hn), sq_whole]
    congr 1
    exact cv_congr (fun i hi => sq_first (by omega)) fun i hi => sq_first (by omega)
/-! ### all goes round -/
theorem cv_lc {s : Sq} : ∀ (e N : Nat) (b : Sq), (∀ i, e < i → b i = 0) → e ≤ N → cv b s N = lc (fun j => b (e - j)) s (N - e) (e + 1) := by
  intro e
  induction e with
  | zero =>
    intro N b hb _
    have z : ∀ n, cv (tl b) s n = 0 := fun n => by
      have : tl b = zer := funext fun i => hb (i + 1) (by omega)
      rw [this, cv_zer_left]
    cases N with
    | zero =>
      show b 0 * s 0 = 0 + b 0 * s 0
      omega
    | succ N =>
      show b 0 * s (N + 1) + cv (tl b) s N = 0 + b 0 * s (N + 1 - 0 + 0)
      rw [z]
      show b 0 * s (N + 1) + 0 = 0 + b 0 * s (N + 1)
      omega
  | succ e ih =>
    intro N b hb hN
    obtain ⟨N, rfl⟩ : ∃ M, N = M + 1 := ⟨N - 1, by omega⟩
    show b 0 * s (N + 1) + cv (tl b) s N = lc (fun j => b (e + 1 - j)) s (N + 1 - (e + 1)) (e + 1) + b (e + 1 - (e + 1)) * s (N + 1 - (e + 1) + (e + 1))
    rw [ih N (tl b) (fun i hi => hb (i + 1) (by omega)) (by omega), Nat.sub_self, show N + 1 - (e + 1) + (e + 1) = N + 1 by omega, Int.add_comm]
    congr 1
    refine lc_congr (fun i hi => ?_) fun i _ => ?_
    · show b (e - i + 1) = b (e + 1 - i)
      congr 1
      omega
    · rw [show N + 1 - (e + 1) = N - e by omega]
def around (p : Nat) : Nat := p * (p * (p * aroundM p))
theorem ser_turn {p : Int} (hp : Prm p) {t b : Sq} (hb : b 0 = 1) (h8 : ∀ i, 8 ≤ i → t i = 0) (hb8 : ∀ i, 8 ≤ i → b i = 0) (hbr : ∀ i, 0 ≤ b i ∧ b i < p) (k : Nat) : ser p t b (8 + k + around p.toNat) = ser p t b (8 + k) := by
  have p2 := hp.pos
  -- the last that isn't 0
  obtain ⟨e, he7, hen, heh⟩ : ∃ e, e ≤ 7 ∧ b e ≠ 0 ∧ ∀ i, e < i → b i = 0 := by
    obtain ⟨g, ⟨hg7, hg⟩, mi⟩ := least (P := fun g => g ≤ 7 ∧ b (7 - g) ≠ 0) ⟨7, Nat.le_refl _, by show b 0 ≠ 0; rw [hb]; decide⟩
    refine ⟨7 - g, by omega, hg, fun i hi => ?_⟩
    by_cases c : 8 ≤ i
    · exact hb8 i c
    · by_cases z : b i = 0
      · exact z
      · exfalso
        refine mi (7 - i) (by omega) ⟨by omega, ?_⟩
        rw [show 7 - (7 - i) = i by omega]
        exact z
  have ann : Ann p e (fun j => b (e - j)) (fun n => ser p t b (8 - e + n)) := fun n => by
    have h := ser_mul (p := p) (t := t) hb (8 + n)
    rw [cv_comm, cv_lc e (8 + n) b heh (by omega), h8 (8 + n) (by omega), Int.zero_emod] at h
    have e1 : mo e (fun j => b (e - j)) (fun n => ser p t b (8 - e + n)) n = lc (fun j => b (e - j)) (ser p t b) (8 + n - e) (e + 1) := by
      show lc _ _ n e + ser p t b (8 - e + (n + e)) = lc _ _ (8 + n - e) e + b (e - e) * ser p t b (8 + n - e + e)
      rw [Nat.sub_self, hb, Int.one_mul, show 8 - e + (n + e) = 8 + n - e + e by omega]
      congr 1
      exact lc_congr (fun _ _ => rfl) fun i _ => by
        show ser p t b (8 - e + (n + i)) = _
        congr 1
        omega
    rw [e1]
    exact h
  have z := turn_all hp he7 (c := fun j => b (e - j)) (a := fun n => ser p t b (8 - e + n)) (fun h0 => by
    show b (e - 0) % p ≠ 0
    have := hbr e
    rw [Nat.sub_zero, Int.emod_eq_of_lt this.1 this.2]
    exact hen) ann (e + k)
  have z : ser p t b (8 - e + (e + k + around p.toNat)) % p = ser p t b (8 - e + (e + k)) % p := z
  have s1 := ser_rest (p := p) (by omega) t b (8 - e + (e + k + around p.toNat))
  have s2 := ser_rest (p := p) (by omega) t b (8 - e + (e + k))
  rw [Int.emod_eq_of_lt s1.1 s1.2, Int.emod_eq_of_lt s2.1 s2.2] at z
  rw [show 8 + k + around p.toNat = 8 - e + (e + k + around p.toNat) by omega, show 8 + k = 8 - e + (e + k) by omega]
  exact z
theorem ser_far {p : Int} (hp : Prm p) {t b : Sq} (hb : b 0 = 1) (h8 : ∀ i, 8 ≤ i → t i = 0) (hb8 : ∀ i, 8 ≤ i → b i = 0) (hbr : ∀ i, 0 ≤ b i ∧ b i < p) (k : Nat) : ser p t b (8 + k) = ser p t b (8 + k % around p.toNat) := by
  have : ∀ m k, ser p t b (8 + (k + around p.toNat * m)) = ser p t b (8 + k) := fun m k => by
    induction m with
    | zero => rfl
    | succ m ih =>
      rw [← ih, Nat.mul_succ, ← Nat.add_assoc k, ← Nat.add_assoc 8]
      exact ser_turn hp hb h8 hb8 hbr _
  have e := this (k / around p.toNat) (k % around p.toNat)
  rw [Nat.mod_add_div] at e
  exact e
theorem around_pos {p : Int} (hp : Prm p) : 0 < around p.toNat := by
  have p2 := hp.pos
  have h2 : 2 ≤ p.toNat := by omega
  have g : ∀ j, 0 < j → 0 < p.toNat ^ j - 1 := fun j hj => by
    have : 2 ^ 1 ≤ p.toNat ^ j := Nat.le_trans (Nat.pow_le_pow_right (by decide) hj) (Nat.pow_le_pow_left h2 j)
    omega
  unfold around aroundM
  have m : ∀ {a b : Nat}, 0 < a → 0 < b → 0 < a * b := fun {a b} ha hb => Nat.mul_pos ha hb
  exact m (by omega) (m (by omega) (m (by omega) (m (m (m (m (m (m (g 1 (by decide)) (g 2 (by decide))) (g 3 (by decide))) (g 4 (by decide))) (g 5 (by decide))) (g 6 (by decide))) (g 7 (by decide)))))
/-- a nearer place with the same rest -/
def lesserP (p : Int) (at_ : Int) : Int := if at_ < 8 then at_ else 8 + (at_ - 8) % ((around p.toNat : Nat) : Int)
theorem lesserP_ok {p : Int} (hp : Prm p) {t b : Sq} (hb : b 0 = 1) (h8 : ∀ i, 8 ≤ i → t i = 0) (hb8 : ∀ i, 8 ≤ i → b i = 0) (hbr : ∀ i, 0 ≤ b i ∧ b i < p) {n : Int} (hn : 0 ≤ n) : 0 ≤ lesserP p n ∧ ser p t b (lesserP p n).toNat = ser p t b n.toNat := by
  have ap := around_pos hp
  unfold lesserP
  by_cases c : n < 8
  · rw [if_pos c]
    exact ⟨hn, rfl⟩
  · rw [if_neg c]
    have m0 := Int.emod_nonneg (n - 8) (show ((around p.toNat : Nat) : Int) ≠ 0 by omega)
    refine ⟨by omega, ?_⟩
    have e1 : (8 + (n - 8) % ((around p.toNat : Nat) : Int)).toNat = 8 + (n.toNat - 8) % around p.toNat := by
      have : ((((n.toNat - 8) % around p.toNat : Nat)) : Int) = (n - 8) % ((around p.toNat : Nat) : Int) := by
        rw [Int.natCast_emod, Int.natCast_sub (by omega), Int.toNat_of_nonneg hn]
        rfl
      omega
    rw [e1, ← ser_far hp hb h8 hb8 hbr, show 8 + (n.toNat - 8) = n.toNat by omega]
end Pw

namespace Pw
/-! ### the law's rules -/
structure RuleOk (p : Int) (xs ys : List Int) : Prop where
  t8 : xs.length ≤ 8
  tr : ∀ x ∈ xs, 0 ≤ x ∧ x < p
  b1 : 1 ≤ ys.length
  b8 : ys.length ≤ 8
  br : ∀ x ∈ ys, 0 ≤ x ∧ x < p
  b0 : sq ys 0 = 1
theorem RuleOk.tz {p : Int} {xs ys : List Int} (h : RuleOk p xs ys) : ∀ i, 8 ≤ i → sq xs i = 0 := fun i hi => sq_out (by have := h.t8; omega)
theorem RuleOk.bz {p : Int} {xs ys : List Int} (h : RuleOk p xs ys) : ∀ i, 8 ≤ i → sq ys i = 0 := fun i hi => sq_out (by have := h.b8; omega)
theorem in_rest {p : Int} (hp : 0 < p) {ys : List Int} (h : ∀ x ∈ ys, 0 ≤ x ∧ x < p) (i : Nat) : 0 ≤ sq ys i ∧ sq ys i < p := by
  by_cases c : i < ys.length
  · exact h _ (sq_mem c)
  · rw [sq_out (by omega)]
    omega
theorem RuleOk.far {p : Int} {xs ys : List Int} (hp : Prm p) (h : RuleOk p xs ys) {n : Int} (hn : 0 ≤ n) : 0 ≤ lesserP p n ∧ ser p (sq xs) (sq ys) (lesserP p n).toNat = ser p (sq xs) (sq ys) n.toNat :=
  lesserP_ok hp h.b0 h.tz h.bz (in_rest (by have := hp.pos; omega) h.br) hn
def lruleT (ns : List Int) (by_ p : Int) : List Int := (lrow ns by_ p 9).drop 1
def lruleB (ns : List Int) (by_ p : Int) : List Int := 1 :: (lrow ns (by_ + 1) p 8).drop 1
theorem lrow_in {ns : List Int} {by_ p most : Int} (hp : 0 < p) : ∀ x ∈ lrow ns by_ p most, 0 ≤ x ∧ x < p := fun x hx => by
  unfold lrow at hx
  obtain ⟨n, _, rfl⟩ := List.mem_map.mp hx
  exact lrowAt_rest hp n
theorem lrule_ok {ns : List Int} {by_ p : Int} (hp : 1 < p) : RuleOk p (lruleT ns by_ p) (lruleB ns by_ p) := by
  have l1 := lrow_len (ns := ns) (by_ := by_) (p := p) (most := 9) (by decide)
  have l2 := lrow_len (ns := ns) (by_ := by_ + 1) (p := p) (most := 8) (by decide)
  refine ⟨?_, fun x hx => lrow_in (by omega) x (List.mem_of_mem_drop hx), ?_, ?_, fun x hx => ?_, rfl⟩
  · unfold lruleT
    rw [List.length_drop]
    omega
  · unfold lruleB
    rw [List.length_cons]
    omega
  · unfold lruleB
    rw [List.length_cons, List.length_drop]
    omega
  · rcases List.mem_cons.mp hx with rfl | hx
    · omega
    · exact lrow_in (by omega) x (List.mem_of_mem_drop hx)
/-! ### the law's places, one by one -/
theorem sum_more {g : Nat → Int} {n m : Nat} (h : n ≤ m) (hz : ∀ i, n ≤ i → g i = 0) : ((List.range m).map g).sum = ((List.range n).map g).sum := by
  obtain ⟨k, rfl⟩ : ∃ k, m = n + k := ⟨m - n, by omega⟩
  induction k with
  | zero => rfl
  | succ k ih =>
    rw [← Nat.add_assoc, List.range_succ, List.map_append, List.sum_append, ih (by omega)]
    show _ + (g (n + k) + 0) = _
    rw [hz (n + k) (by omega)]
    omega
def opAt (s b : Sq) (at_ far : Nat) : Int := if 0 < far ∧ far ≤ at_ then b far * s (at_ - far) else 0
def opIn (t b s : Sq) (at_ m : Nat) : Int := t at_ - ((List.range m).map (opAt s b at_)).sum
theorem opIn_succ (t b s : Sq) (at_ m : Nat) : opIn t b s at_ (m + 1) = opIn t b s at_ m - opAt s b at_ m := by
  unfold opIn
  rw [List.range_succ, List.map_append, List.sum_append]
  show _ - (_ + (opAt s b at_ m + 0)) = _
  omega
theorem opIn_end {p : Int} (hp : 0 < p) {t b : Sq} (hb : b 0 = 1) (n : Nat) {m : Nat} (hm : ∀ i, m ≤ i → b i = 0) : opIn t b (ser p t b) n m % p = ser p t b n := by
  rw [ser_step hp hb n]
  unfold opIn
  congr 2
  have e1 : ((List.range m).map (opAt (ser p t b) b n)).sum = ((List.range (m + (n + 1))).map (opAt (ser p t b) b n)).sum := (sum_more (by omega) fun i hi => by
    unfold opAt
    rw [hm i hi, Int.zero_mul]
    split <;> rfl).symm
  have e2 : ((List.range (m + (n + 1))).map (opAt (ser p t b) b n)).sum = ((List.range (n + 1)).map (opAt (ser p t b) b n)).sum := sum_more (by omega) fun i hi => by
    unfold opAt
    rw [if_neg (by omega)]
  rw [e1, e2, sum_cv_less, cv_comm, hb, Int.mul_one]
  have e3 := sum_cv b (ser p t b) n
  rw [← e3, List.range_succ_eq_map, List.map_cons, List.map_cons, List.sum_cons, List.sum_cons, List.map_map, List.map_map]
  have e4 : (List.range n).map (opAt (ser p t b) b n ∘ Nat.succ) = (List.range n).map ((fun i => b i * ser p t b (n - i)) ∘ Nat.succ) := by
    apply List.map_congr_left
    intro i hi
    have := List.mem_range.mp hi
    show opAt (ser p t b) b n (i + 1) = b (i + 1) * ser p t b (n - (i + 1))
    unfold opAt
    rw [if_pos (by omega)]
  have e5 : opAt (ser p t b) b n 0 = 0 := if_neg (by omega)
  rw [e4, e5, hb, Nat.sub_zero]
  omega
/-- far off each rest is what the bottom tells of those ahead -/
theorem ser_rule {p : Int} {t b : Sq} (hb : b 0 = 1) {m n : Nat} (hm : ∀ i, m ≤ i → b i = 0) (ht : t n = 0) (hn : m ≤ n + 1) : ((List.range m).map fun i => b i * ser p t b (n - i)).sum % p = 0 := by
  have h := ser_mul (p := p) (t := t) hb n
  rw [ht, Int.zero_emod, cv_comm, ← sum_cv, sum_more hn fun i hi => by rw [hm i hi, Int.zero_mul]] at h
  exact h
/-- all its turns alike -/
theorem ser_steps {p : Int} (hp : 1 < p) {w : Int} (hw : 0 ≤ w ∧ w < p) {step : Nat} (h1 : 1 ≤ step) {t b : Sq} (ht0 : t 0 = w) (ht : ∀ i, 0 < i → t i = 0) (hb0 : b 0 = 1) (hbs : b step = p - 1) (hb : ∀ i, i ≠ 0 → i ≠ step → b i = 0) (n : Nat) : ser p t b n = if n % step = 0 then w else 0 := by
  refine (ser_uniq (p := p) (by omega) (f := fun n => if n % step = 0 then w else 0) hb0 n (fun n _ => ?_) (fun n _ => ?_) n (Nat.le_refl n)).symm
  · show 0 ≤ (if n % step = 0 then w else 0) ∧ (if n % step = 0 then w else 0) < p
    split
    · exact hw
    · omega
  · have key : cv (fun n => if n % step = 0 then w else 0) b n = (if n % step = 0 then w else 0) + (if step ≤ n then (p - 1) * (if (n - step) % step = 0 then w else 0) else 0) := by
      rw [cv_comm, ← sum_cv, List.range_succ_eq_map, List.map_cons, List.sum_cons, List.map_map, hb0, Int.one_mul, Nat.sub_zero]
      congr 1
      have one : ∀ (m : Nat) (g : Nat → Int) (v : Int), (∀ i, i + 1 ≠ step → g i = 0) → g (step - 1) = v → ((List.range m).map g).sum = if step ≤ m then v else 0 := by
        intro m g v hg hv
        induction m with
        | zero => rw [if_neg (by omega)]; rfl
        | succ m ih =>
          rw [List.range_succ, List.map_append, List.sum_append, ih]
          show _ + (g m + 0) = _
          by_cases c : m + 1 = step
          · rw [if_neg (by omega), if_pos (by omega), show m = step - 1 by omega, hv]
            omega
          · rw [hg m c]
            by_cases c2 : step ≤ m
            · rw [if_pos c2, if_pos (by omega)]
              omega
            · rw [if_neg c2, if_neg (by omega)]
              rfl
      refine one n _ _ (fun i hi => ?_) ?_
      · show b (i + 1) * _ = 0
        rw [hb (i + 1) (by omega) hi, Int.zero_mul]
      · show b (step - 1 + 1) * (if (n - (step - 1 + 1)) % step = 0 then w else 0) = _
        rw [show step - 1 + 1 = step by omega, hbs]
    rw [key]
    by_cases c : step ≤ n
    · rw [if_pos c, show (n - step) % step = n % step by rw [← Nat.mod_eq_sub_mod c], ht n (by omega), Int.zero_emod]
      have : (if n % step = 0 then w else 0) + (p - 1) * (if n % step = 0 then w else 0) = p * (if n % step = 0 then w else 0) := by
        rw [Int.sub_mul, Int.one_mul]
        omega
      rw [this, Int.mul_emod_right]
    · rw [if_neg c, Int.add_zero]
      by_cases c2 : n = 0
      · subst c2
        rw [Nat.zero_mod, if_pos rfl, ht0]
      · rw [Nat.mod_eq_of_lt (by omega), if_neg c2, ht n (by omega)]
theorem lrow_nonneg_len {ns : List Int} {b p m : Int} (hm : 0 < m) : 1 ≤ (lrow ns b p m).length := (lrow_len hm).1
end Pw

namespace Pw
/-! ### what rows and rules have to do with each other -/
theorem pw_sub_one (v : Sq) : ∀ k m n, nil 1 k (fun i => pw v i n) m = cv (pw v m) (pw (fun j => v j - one j) k) n := by
  intro k
  induction k with
  | zero =>
    intro m n
    show pw v m n = cv (pw v m) one n
    rw [cv_one_right]
  | succ k ih =>
    intro m n
    show nil 1 k (fun i => pw v i n) (m + 1) - nil 1 k (fun i => pw v i n) m = _
    rw [ih, ih]
    show cv (cv (pw v m) v) (pw (fun j => v j - one j) k) n - cv (pw v m) (pw (fun j => v j - one j) k) n = cv (pw v m) (cv (pw (fun j => v j - one j) k) fun j => v j - one j) n
    have e : cv (pw (fun j => v j - one j) k) (fun j => v j - one j) = fun j => cv v (pw (fun j => v j - one j) k) j + (-1) * cv one (pw (fun j => v j - one j) k) j := funext fun j => by
      rw [cv_comm, show (fun j => v j - one j) = fun j => v j + (-1) * one j from funext fun j => by omega, cv_add_left, cv_smul_left]
    rw [e, cv_add_right, cv_smul_right, cv_assoc, cv_fun_one_left]
    omega
/-- (v - 1) by itself p times -/
theorem frob_one {p : Int} (hp : Prm p) (v : Sq) (n : Nat) : pw (fun j => v j - one j) p.toNat n % p = (pw v p.toNat n - one n) % p := by
  have h := nil_prime hp 1 (fun i => pw v i n) 0
  rw [pw_sub_one] at h
  show pw _ _ n % p = (pw v p.toNat n - pw v 0 n) % p
  rw [← show cv (pw v 0) (pw (fun j => v j - one j) p.toNat) n = pw (fun j => v j - one j) p.toNat n from cv_one_left _ _, h]
  simp only [Nat.mul_one, Nat.zero_add]
theorem pw_smul (d : Int) (f : Sq) : ∀ k n, pw (fun j => d * f j) k n = d ^ k * pw f k n := by
  intro k
  induction k with
  | zero =>
    intro n
    show one n = d ^ 0 * one n
    rw [Int.pow_zero, Int.one_mul]
  | succ k ih =>
    intro n
    show cv (pw (fun j => d * f j) k) (fun j => d * f j) n = d ^ (k + 1) * cv (pw f k) f n
    rw [show pw (fun j => d * f j) k = fun n => d ^ k * pw f k n from funext (ih ·), cv_smul_left, cv_smul_right, Int.pow_succ, Int.mul_assoc]
def shs : Nat → Sq → Sq
  | 0, f => f
  | k + 1, f => sh (shs k f)
theorem shs_at (f : Sq) : ∀ k n, shs k f (k + n) = f n := by
  intro k
  induction k with
  | zero =>
    intro n
    rw [Nat.zero_add]
    rfl
  | succ k ih =>
    intro n
    rw [Nat.succ_add]
    exact ih n
theorem cv_shs (f g : Sq) : ∀ k, cv (shs k f) g = shs k (cv f g) := by
  intro k
  induction k with
  | zero => rfl
  | succ k ih =>
    funext n
    show cv (sh (shs k f)) g n = sh (shs k (cv f g)) n
    rw [cv_sh_left, ih]
theorem pw_sh (f : Sq) : ∀ k, pw (sh f) k = shs k (pw f k) := by
  intro k
  induction k with
  | zero => rfl
  | succ k ih =>
    funext n
    show cv (pw (sh f) k) (sh f) n = sh (shs k (cv (pw f k) f)) n
    rw [cv_sh_right, ih, cv_shs]
theorem shs_low (f : Sq) : ∀ k n, n < k → shs k f n = 0 := by
  intro k
  induction k with
  | zero => intro n h; omega
  | succ k ih =>
    intro n h
    cases n with
    | zero => rfl
    | succ n => exact ih n (by omega)
theorem fermat_all {p : Int} (hp : Prm p) (c : Int) : c ^ p.toNat % p = c % p := by
  have p2 := hp.pos
  have e : c ^ p.toNat % p = (c % p) ^ p.toNat % p := (pow_emod (em_em c) _).symm
  rw [e]
  have h0 := Int.emod_nonneg c (show p ≠ 0 by omega)
  have h1 := Int.emod_lt_of_pos c (show 0 < p by omega)
  generalize c % p = r at h0 h1
  by_cases hr : r = 0
  · subst hr
    rw [Int.zero_pow (by omega)]
    exact Int.zero_emod p
  · have f := fermat hp (show 0 < r by omega) h1
    rw [show p.toNat = (p - 1).toNat + 1 by omega, Int.pow_succ, Int.mul_emod, f, Int.one_mul, em_em]
    exact Int.emod_eq_of_lt h0 h1
/-- the constant and the rest, each by itself -/
theorem frob_split {p : Int} (hp : Prm p) (f : Sq) (n : Nat) : pw f p.toNat n % p = (f 0 * one n + pw (sh (tl f)) p.toNat n) % p := by
  have p2 := hp.pos
  have ef : f = fun j => f 0 * one j + sh (tl f) j := funext fun j => by
    cases j with
    | zero =>
      show f 0 = f 0 * 1 + 0
      omega
    | succ j =>
      show f (j + 1) = f 0 * 0 + f (j + 1)
      omega
  by_cases hc : f 0 % p = 0
  · have h : pw f p.toNat n % p = pw (sh (tl f)) p.toNat n % p := by
      refine pw_em p.toNat (fun i _ => ?_) n (Nat.le_refl n)
      cases i with
      | zero => exact hc
      | succ i => rfl
    rw [h, Int.add_emod, Int.mul_emod, hc, Int.zero_mul, Int.zero_emod, Int.zero_add, em_em]
  · generalize hcc : f 0 = c at hc ef
    have hd : (-c) % p ≠ 0 := fun z => hc (Int.emod_eq_zero_of_dvd (Int.dvd_neg.mp (Int.dvd_of_emod_eq_zero z)))
    obtain ⟨u, hu⟩ := inv_any hp hd
    have h : pw f p.toNat n % p = pw (fun j => (-c) * ((fun i => u * sh (tl f) i) j - one j)) p.toNat n % p := by
      refine pw_em p.toNat (fun i _ => ?_) n (Nat.le_refl n)
      have e1 : f i = c * one i + sh (tl f) i := congrFun ef i
      show f i % p = (-c) * (u * sh (tl f) i - one i) % p
      rw [Int.mul_sub, ← Int.mul_assoc, Int.mul_comm (-c) u, e1]
      have e2 : u * -c * sh (tl f) i % p = sh (tl f) i % p := by
        rw [Int.mul_emod, hu, Int.one_mul, em_em]
      have e3 := em_sub (p := p) e2 (show (-c * one i) % p = (-c * one i) % p from rfl)
      rw [e3]
      congr 1
      rw [Int.neg_mul]
      omega
    rw [h, pw_smul]
    have e4 := em_mul (p := p) (show ((-c) ^ p.toNat) % p = ((-c) ^ p.toNat) % p from rfl) (frob_one hp (fun i => u * sh (tl f) i) n)
    rw [e4, Int.mul_sub, ← pw_smul]
    have e5 : pw (fun j => (-c) * (u * sh (tl f) j)) p.toNat n % p = pw (sh (tl f)) p.toNat n % p := by
      refine pw_em p.toNat (fun i _ => ?_) n (Nat.le_refl n)
      show (-c) * (u * sh (tl f) i) % p = _
      rw [← Int.mul_assoc, Int.mul_comm (-c) u, Int.mul_emod, hu, Int.one_mul, em_em]
    have e6 : (-c) ^ p.toNat * one n % p = (-c) * one n % p := em_mul (fermat_all hp (-c)) rfl
    rw [em_sub e5 e6]
    congr 1
    rw [Int.neg_mul]
    omega
theorem frob {p : Int} (hp : Prm p) : ∀ (m : Nat) (f : Sq), pw f p.toNat (p.toNat * m) % p = f m % p := by
  have p2 := hp.pos
  intro m
  induction m with
  | zero =>
    intro f
    rw [Nat.mul_zero, frob_split hp f 0, pw_sh, shs_low _ _ _ (by omega)]
    show (f 0 * 1 + 0) % p = _
    congr 1
    omega
  | succ m ih =>
    intro f
    rw [frob_split hp, show p.toNat * (m + 1) = p.toNat + p.toNat * m from Nat.mul_succ _ _ ▸ Nat.add_comm _ _, pw_sh, shs_at, show one (p.toNat + p.toNat * m) = 0 from if_neg (by omega), Int.mul_zero, Int.zero_add, ih]
    rfl
theorem frob_row {p : Int} (hp : Prm p) {xs : List Int} (R : Rowp p xs) {n : Nat} (h : n < xs.length) : sq (powL p xs p.toNat) n = if n % p.toNat = 0 then sq xs (n / p.toNat) else 0 := by
  have p2 := hp.pos
  rw [sq_powL h]
  by_cases c : n % p.toNat = 0
  · rw [if_pos c]
    have e : n = p.toNat * (n / p.toNat) := by
      have := Nat.div_add_mod n p.toNat
      omega
    conv => lhs; rw [e]
    rw [frob hp]
    exact R.em (Nat.lt_of_le_of_lt (Nat.div_le_self _ _) h)
  · rw [if_neg c]
    refine pw_prime hp (sq xs) fun z => c ?_
    have : ((p.toNat : Nat) : Int) ∣ (n : Int) := by rwa [Int.toNat_of_nonneg (by omega)]
    exact Nat.mod_eq_zero_of_dvd (Int.natCast_dvd_natCast.mp this)
/-! ### rules put together -/
theorem cv_four (a b c d : Sq) : cv (cv a b) (cv c d) = cv (cv a c) (cv b d) := by
  rw [cv_fun_assoc, cv_fun_assoc, ← cv_fun_assoc b c d, cv_fun_comm b c, cv_fun_assoc c b d]
theorem ser_times {p : Int} (hp : 1 < p) {t b t' b' : Sq} (hb : b 0 = 1) (hb' : b' 0 = 1) (n : Nat) : cv (ser p t b) (ser p t' b') n % p = ser p (fun n => cv t t' n % p) (fun n => cv b b' n % p) n := by
  refine ser_uniq (p := p) (by omega) (f := fun n => cv (ser p t b) (ser p t' b') n % p) (b := fun n => cv b b' n % p) ?_ n (fun k _ => ⟨Int.emod_nonneg _ (by omega), Int.emod_lt_of_pos _ (by omega)⟩) (fun k _ => ?_) n (Nat.le_refl n)
  · show b 0 * b' 0 % p = 1
    rw [hb, hb']
    exact Int.emod_eq_of_lt (by decide) hp
  · rw [em_em, cv_em (f' := cv (ser p t b) (ser p t' b')) (g' := cv b b') (fun i _ => em_em _) (fun i _ => em_em _), cv_four]
    exact cv_em (fun i _ => ser_mul hb i) (fun i _ => ser_mul hb' i)
theorem ser_plus {p : Int} (hp : 1 < p) {t b t' b' : Sq} (hb : b 0 = 1) (hb' : b' 0 = 1) (n : Nat) : (ser p t b n + ser p t' b' n) % p = ser p (fun n => (cv t b' n % p + cv t' b n % p) % p) (fun n => cv b b' n % p) n := by
  refine ser_uniq (p := p) (by omega) (f := fun n => (ser p t b n + ser p t' b' n) % p) (b := fun n => cv b b' n % p) ?_ n (fun k _ => ⟨Int.emod_nonneg _ (by omega), Int.emod_lt_of_pos _ (by omega)⟩) (fun k _ => ?_) n (Nat.le_refl n)
  · show b 0 * b' 0 % p = 1
    rw [hb, hb']
    exact Int.emod_eq_of_lt (by decide) hp
  · rw [em_em, cv_em (f' := fun n => ser p t b n + ser p t' b' n) (g' := cv b b') (fun i _ => em_em _) (fun i _ => em_em _), cv_add_left]
    refine em_add ?_ ?_
    · rw [← cv_fun_assoc, em_em]
      exact cv_em (fun i _ => ser_mul hb i) (fun i _ => rfl)
    · rw [cv_fun_comm b b', ← cv_fun_assoc, em_em]
      exact cv_em (fun i _ => ser_mul hb' i) (fun i _ => rfl)
theorem ser_sh {p : Int} (hp : 0 < p) {t b : Sq} (hb : b 0 = 1) (n : Nat) : ser p (sh t) b n = sh (ser p t b) n := by
  refine (ser_uniq hp hb n (f := sh (ser p t b)) (t := sh t) (fun k _ => ?_) (fun k _ => ?_) n (Nat.le_refl n)).symm
  · cases k with
    | zero => exact ⟨Int.le_refl 0, hp⟩
    | succ k => exact ser_rest hp t b k
  · rw [cv_sh_left]
    cases k with
    | zero => rfl
    | succ k => exact ser_mul hb k
end Pw

namespace Pw
/-! ### taps by elimination: lines, what they lead with -/
abbrev Lead := Nat × List Int
/-- a line less what the lead takes of it at its column -/
def clr (p : Int) (l e : List Int) (c : Nat) : List Int := (List.range (min l.length e.length)).map fun i => (sq l i - sq l c * sq e i) % p
theorem clr_len (p : Int) (l e : List Int) (c : Nat) : (clr p l e c).length = min l.length e.length := by
  unfold clr
  rw [List.length_map, List.length_range]
theorem sq_clr {p : Int} {l e : List Int} {c n : Nat} (h : n < min l.length e.length) : sq (clr p l e c) n = (sq l n - sq l c * sq e n) % p := sq_map_range h
theorem clr_rest {p : Int} (hp : 0 < p) (l e : List Int) (c : Nat) : ∀ x ∈ clr p l e c, 0 ≤ x ∧ x < p := fun x hx => by
  obtain ⟨i, _, rfl⟩ := List.mem_map.mp hx
  exact ⟨Int.emod_nonneg _ (by omega), Int.emod_lt_of_pos _ hp⟩
def clrAll (p : Int) (l : List Int) (ls : List Lead) : List Int := ls.foldl (fun l e => clr p l e.2 e.1) l
/-- the lead that a line makes at its column -/
def mkLead (p : Int) (l : List Int) (c : Nat) : List Int := (List.range l.length).map fun i => sq l i * inv p (sq l c) % p
theorem mkLead_len (p : Int) (l : List Int) (c : Nat) : (mkLead p l c).length = l.length := by
  unfold mkLead
  rw [List.length_map, List.length_range]
theorem sq_mkLead {p : Int} {l : List Int} {c n : Nat} (h : n < l.length) : sq (mkLead p l c) n = sq l n * inv p (sq l c) % p := sq_map_range h
def addLead (p : Int) (ls : List Lead) (l : List Int) (c : Nat) : List Lead := ls.map (fun e => (e.1, clr p e.2 (mkLead p l c) c)) ++ [(c, mkLead p l c)]
def cols (ls : List Lead) : List Nat := ls.map (·.1)
/-- the columns up to m where the line isn't 0 -/
def stand (m : Nat) (l : List Int) : List Nat := (List.range (m + 1)).filter fun c => !decide (sq l c = 0)
/-- sizes, rests, columns, each lead's own column 1, the others' 0 -/
structure Leads (p : Int) (W m : Nat) (ls : List Lead) : Prop where
  len : ∀ e ∈ ls, e.2.length = W
  rest : ∀ e ∈ ls, ∀ x ∈ e.2, 0 ≤ x ∧ x < p
  col : ∀ e ∈ ls, e.1 < m
  nd : (cols ls).Nodup
  red : ∀ e ∈ ls, ∀ c ∈ cols ls, sq e.2 c = if e.1 = c then 1 else 0
/-- what the leads make of f at a column -/
def lsum (f : Nat → Int) (ls : List Lead) (c : Nat) : Int := (ls.map fun e => f e.1 * sq e.2 c).sum
theorem lsum_nil (f : Nat → Int) (c : Nat) : lsum f [] c = 0 := rfl
theorem lsum_cons (f : Nat → Int) (e : Lead) (r : List Lead) (c : Nat) : lsum f (e :: r) c = f e.1 * sq e.2 c + lsum f r c := by
  unfold lsum
  rw [List.map_cons, List.sum_cons]
theorem lsum_append (f : Nat → Int) (r r' : List Lead) (c : Nat) : lsum f (r ++ r') c = lsum f r c + lsum f r' c := by
  unfold lsum
  rw [List.map_append, List.sum_append]
theorem lsum_zero (f : Nat → Int) {c : Nat} : ∀ {ls : List Lead}, (∀ e ∈ ls, sq e.2 c = 0) → lsum f ls c = 0
  | [], _ => rfl
  | e :: r, h => by
    rw [lsum_cons, h e (List.mem_cons_self ..), Int.mul_zero, lsum_zero f fun e he => h e (List.mem_cons_of_mem _ he)]
    rfl
theorem lsum_own (f : Nat → Int) {c : Nat} : ∀ {ls : List Lead}, (cols ls).Nodup → c ∈ cols ls → (∀ e ∈ ls, sq e.2 c = if e.1 = c then 1 else 0) → lsum f ls c = f c
  | [], _, hc, _ => by cases hc
  | e :: r, nd, hc, h => by
    have nd' : e.1 ∉ cols r ∧ (cols r).Nodup := List.nodup_cons.mp nd
    rw [lsum_cons, h e (List.mem_cons_self ..)]
    by_cases q : e.1 = c
    · rw [if_pos q, Int.mul_one, lsum_zero, q, Int.add_zero]
      intro e' he'
      rw [h e' (List.mem_cons_of_mem _ he'), if_neg]
      intro z
      exact nd'.1 (by rw [q, ← z]; exact List.mem_map.mpr ⟨e', he', rfl⟩)
    · rw [if_neg q, Int.mul_zero, Int.zero_add]
      refine lsum_own f nd'.2 ?_ fun e' he' => h e' (List.mem_cons_of_mem _ he')
      rcases List.mem_cons.mp hc with z | z
      · exact absurd z.symm q
      · exact z
theorem lsum_em {p : Int} {f g : Nat → Int} {c : Nat} : ∀ {ls : List Lead}, (∀ e ∈ ls, f e.1 % p = g e.1 % p) → lsum f ls c % p = lsum g ls c % p
  | [], _ => rfl
  | e :: r, h => by
    rw [lsum_cons, lsum_cons]
    exact em_add (em_mul (h e (List.mem_cons_self ..)) rfl) (lsum_em fun e' he' => h e' (List.mem_cons_of_mem _ he'))
/-- a line less all the leads -/
theorem clrAll_ok {p : Int} (hp : 0 < p) {W : Nat} : ∀ (ls : List Lead) (l : List Int), l.length = W → (∀ x ∈ l, 0 ≤ x ∧ x < p) → (∀ e ∈ ls, e.2.length = W) → (cols ls).Nodup → (∀ e ∈ ls, e.1 < W) → (∀ e ∈ ls, ∀ c ∈ cols ls, sq e.2 c = if e.1 = c then 1 else 0) →
    (clrAll p l ls).length = W ∧ (∀ x ∈ clrAll p l ls, 0 ≤ x ∧ x < p) ∧ ∀ c, c < W → sq (clrAll p l ls) c % p = (sq l c - lsum (sq l) ls c) % p
  | [], l, hl, hr, _, _, _, _ => ⟨hl, hr, fun c _ => by rw [lsum_nil, Int.sub_zero]; rfl⟩
  | e :: r, l, hl, hr, h1, h2, h3, h4 => by
    have nd : e.1 ∉ cols r ∧ (cols r).Nodup := List.nodup_cons.mp h2
    have le := h1 e (List.mem_cons_self ..)
    have lc : (clr p l e.2 e.1).length = W := by rw [clr_len, hl, le, Nat.min_self]
    obtain ⟨g1, g2, g3⟩ := clrAll_ok hp r (clr p l e.2 e.1) lc (clr_rest hp _ _ _) (fun e' he' => h1 e' (List.mem_cons_of_mem _ he')) nd.2 (fun e' he' => h3 e' (List.mem_cons_of_mem _ he')) fun e' he' c hc => h4 e' (List.mem_cons_of_mem _ he') c (List.mem_cons_of_mem _ hc)
    refine ⟨g1, g2, fun c hc => ?_⟩
    show sq (clrAll p (clr p l e.2 e.1) r) c % p = _
    rw [g3 c hc, lsum_cons]
    have k : ∀ n, n < W → sq (clr p l e.2 e.1) n % p = (sq l n - sq l e.1 * sq e.2 n) % p := fun n hn => by
      rw [sq_clr (by rw [hl, le, Nat.min_self]; exact hn), em_em]
    have s : lsum (sq (clr p l e.2 e.1)) r c % p = lsum (sq l) r c % p := lsum_em fun e' he' => by
      have z : e'.1 ∈ cols r := List.mem_map.mpr ⟨e', he', rfl⟩
      rw [k e'.1 (h3 e' (List.mem_cons_of_mem _ he')), h4 e (List.mem_cons_self ..) e'.1 (List.mem_cons_of_mem _ z), if_neg fun q => nd.1 (by rw [q]; exact z), Int.mul_zero, Int.sub_zero]
    rw [em_sub (k c hc) s]
    congr 1
    omega
theorem in_rest' {p : Int} (hp : 0 < p) {ys : List Int} (h : ∀ x ∈ ys, 0 ≤ x ∧ x < p) (i : Nat) : 0 ≤ sq ys i ∧ sq ys i < p := by
  by_cases c : i < ys.length
  · exact h _ (sq_mem c)
  · rw [sq_out (by omega)]
    omega
theorem Leads.clear {p : Int} (hp : 0 < p) {W m : Nat} (hm : m < W) {ls : List Lead} (L : Leads p W m ls) {l : List Int} (hl : l.length = W) (hr : ∀ x ∈ l, 0 ≤ x ∧ x < p) :
    (clrAll p l ls).length = W ∧ (∀ x ∈ clrAll p l ls, 0 ≤ x ∧ x < p) ∧ (∀ c, c < W → sq (clrAll p l ls) c % p = (sq l c - lsum (sq l) ls c) % p) ∧ ∀ c ∈ cols ls, sq (clrAll p l ls) c = 0 := by
  obtain ⟨g1, g2, g3⟩ := clrAll_ok hp ls l hl hr L.len L.nd (fun e he => Nat.lt_trans (L.col e he) hm) L.red
  refine ⟨g1, g2, g3, fun c hc => ?_⟩
  obtain ⟨e, he, rfl⟩ := List.mem_map.mp hc
  have r := in_rest' hp g2 e.1
  have h := g3 e.1 (Nat.lt_trans (L.col e he) hm)
  rw [lsum_own (sq l) L.nd hc fun e' he' => L.red e' he' e.1 hc, Int.sub_self, Int.zero_emod, Int.emod_eq_of_lt r.1 r.2] at h
  exact h
theorem mkLead_one {p : Int} (hp : Prm p) {l : List Int} (hr : ∀ x ∈ l, 0 ≤ x ∧ x < p) {c : Nat} (hc : c < l.length) (h0 : sq l c ≠ 0) : sq (mkLead p l c) c = 1 := by
  have r := in_rest' (p := p) (by have := hp.pos; omega) hr c
  rw [sq_mkLead hc, Int.mul_comm]
  exact inv_ok hp (by omega) r.2
/-- with one lead more -/
theorem Leads.add {p : Int} (hp : Prm p) {W m : Nat} (hm : m < W) {ls : List Lead} (L : Leads p W m ls) {l : List Int} (hl : l.length = W) (hr : ∀ x ∈ l, 0 ≤ x ∧ x < p) (hz : ∀ c ∈ cols ls, sq l c = 0) {c : Nat} (hc : c < m) (h0 : sq l c ≠ 0) : Leads p W m (addLead p ls l c) := by
  have p2 := hp.pos
  have p0 : 0 < p := by omega
  have ml := mkLead_len p l c
  have nin : c ∉ cols ls := fun z => h0 (hz c z)
  have mz : ∀ c' ∈ cols ls, sq (mkLead p l c) c' = 0 := fun c' hc' => by
    obtain ⟨e, he, rfl⟩ := List.mem_map.mp hc'
    rw [sq_mkLead (by have := L.col e he; omega), hz _ hc', Int.zero_mul, Int.zero_emod]
  have m1 := mkLead_one hp hr (c := c) (by omega) h0
  have ec : cols (addLead p ls l c) = cols ls ++ [c] := by
    unfold cols addLead
    rw [List.map_append, List.map_map]
    rfl
  have mem : ∀ e ∈ addLead p ls l c, (∃ e' ∈ ls, e = (e'.1, clr p e'.2 (mkLead p l c) c)) ∨ e = (c, mkLead p l c) := fun e he => by
    rcases List.mem_append.mp he with q | q
    · obtain ⟨e', h1, h2⟩ := List.mem_map.mp q
      exact .inl ⟨e', h1, h2.symm⟩
    · exact .inr (List.mem_singleton.mp q)
  refine ⟨fun e he => ?_, fun e he => ?_, fun e he => ?_, ?_, fun e he c' hc' => ?_⟩
  · rcases mem e he with ⟨e', h1, rfl⟩ | rfl
    · rw [clr_len, ml, hl, L.len e' h1, Nat.min_self]
    · rw [ml, hl]
  · rcases mem e he with ⟨e', h1, rfl⟩ | rfl
    · exact clr_rest p0 _ _ _
    · intro x hx
      obtain ⟨i, _, rfl⟩ := List.mem_map.mp hx
      exact ⟨Int.emod_nonneg _ (by omega), Int.emod_lt_of_pos _ p0⟩
  · rcases mem e he with ⟨e', h1, rfl⟩ | rfl
    · exact L.col e' h1
    · exact hc
  · rw [ec, List.nodup_append]
    refine ⟨L.nd, by simp, fun a ha b hb => ?_⟩
    rw [List.mem_singleton.mp hb]
    intro z
    exact nin (by rw [← z]; exact ha)
  · rw [ec] at hc'
    rcases mem e he with ⟨e', h1, rfl⟩ | rfl
    · have le := L.len e' h1
      have ne : e'.1 ≠ c := fun z => nin (by rw [← z]; exact List.mem_map.mpr ⟨e', h1, rfl⟩)
      rcases List.mem_append.mp hc' with q | q
      · obtain ⟨e2, h2, rfl⟩ := List.mem_map.mp q
        have hw : e2.1 < W := Nat.lt_trans (L.col e2 h2) hm
        rw [sq_clr (by rw [ml, hl, le, Nat.min_self]; exact hw), mz _ q, Int.mul_zero, Int.sub_zero, L.red e' h1 _ q]
        show (if e'.1 = e2.1 then (1 : Int) else 0) % p = if e'.1 = e2.1 then 1 else 0
        split
        · exact Int.emod_eq_of_lt (by decide) (by omega)
        · exact Int.zero_emod p
      · have q := List.mem_singleton.mp q
        rw [q, sq_clr (by rw [ml, hl, le, Nat.min_self]; omega), m1, Int.mul_one, Int.sub_self, Int.zero_emod]
        show (0 : Int) = if e'.1 = c then 1 else 0
        rw [if_neg ne]
    · rcases List.mem_append.mp hc' with q | q
      · show sq (mkLead p l c) c' = if c = c' then 1 else 0
        rw [mz c' q, if_neg fun z => nin (by rw [z]; exact q)]
      · have q := List.mem_singleton.mp q
        show sq (mkLead p l c) c' = if c = c' then 1 else 0
        rw [q, m1, if_pos rfl]
/-! ### what the lines are made of, what the leads tell -/
def comb (D : Nat → Nat → Int) (m K : Nat) (l : List Int) (c : Nat) : Int := ((List.range K).map fun j => sq l (m + 1 + j) * D j c).sum
/-- a line is so much of each demand as its last places say -/
def CombOk (p : Int) (D : Nat → Nat → Int) (m K : Nat) (l : List Int) : Prop := ∀ c, c ≤ m → sq l c % p = comb D m K l c % p
theorem sum_em {p : Int} {f g : Nat → Int} : ∀ {l : List Nat}, (∀ i ∈ l, f i % p = g i % p) → (l.map f).sum % p = (l.map g).sum % p
  | [], _ => rfl
  | a :: r, h => by
    rw [List.map_cons, List.map_cons, List.sum_cons, List.sum_cons]
    exact em_add (h a (List.mem_cons_self ..)) (sum_em fun i hi => h i (List.mem_cons_of_mem _ hi))
theorem sum_single {f : Nat → Int} {k : Nat} : ∀ {l : List Nat}, l.Nodup → k ∈ l → (l.map fun i => (if i = k then 1 else 0) * f i).sum = f k
  | [], _, h => by cases h
  | a :: r, nd, h => by
    have nd' := List.nodup_cons.mp nd
    rw [List.map_cons, List.sum_cons]
    by_cases q : a = k
    · rw [if_pos q, q, Int.one_mul]
      have z : (r.map fun i => (if i = k then 1 else 0) * f i).sum = 0 := by
        have e : (r.map fun i => (if i = k then (1 : Int) else 0) * f i) = r.map fun _ => 0 := List.map_congr_left fun i hi => by
          rw [if_neg fun z => nd'.1 (by rw [q, ← z]; exact hi), Int.zero_mul]
        rw [e, sum_map_zero]
      rw [z, Int.add_zero]
    · rw [if_neg q, Int.zero_mul, Int.zero_add]
      refine sum_single nd'.2 ?_
      rcases List.mem_cons.mp h with z | z
      · exact absurd z.symm q
      · exact z
theorem comb_unit {p : Int} {D : Nat → Nat → Int} {m K i : Nat} (hi : i < K) {l : List Int} (h1 : ∀ c, c ≤ m → sq l c = D i c) (h2 : ∀ j, j < K → sq l (m + 1 + j) = if j = i then 1 else 0) : CombOk p D m K l := fun c hc => by
  unfold comb
  rw [h1 c hc, show ((List.range K).map fun j => sq l (m + 1 + j) * D j c) = (List.range K).map fun j => (if j = i then 1 else 0) * D j c from List.map_congr_left fun j hj => by rw [h2 j (List.mem_range.mp hj)], sum_single List.nodup_range (List.mem_range.mpr hi)]
theorem comb_clr {p : Int} {D : Nat → Nat → Int} {m K : Nat} {l e : List Int} {c0 : Nat} (hl : l.length = m + 1 + K) (he : e.length = m + 1 + K) (h1 : CombOk p D m K l) (h2 : CombOk p D m K e) : CombOk p D m K (clr p l e c0) := fun c hc => by
  have k : ∀ n, n < m + 1 + K → sq (clr p l e c0) n = (sq l n - sq l c0 * sq e n) % p := fun n hn => sq_clr (by rw [hl, he, Nat.min_self]; exact hn)
  rw [k c (by omega), em_em]
  have s : comb D m K (clr p l e c0) c % p = (comb D m K l c + (-sq l c0) * comb D m K e c) % p := by
    unfold comb
    rw [← sum_map_mul, ← sum_map_add]
    refine sum_em fun j hj => ?_
    rw [k (m + 1 + j) (by have := List.mem_range.mp hj; omega), em_mul (em_em _) rfl]
    congr 1
    rw [Int.sub_mul, Int.neg_mul, Int.mul_assoc, Int.sub_eq_add_neg]
  rw [s, em_add (h1 c hc).symm (em_mul (show (-sq l c0) % p = (-sq l c0) % p from rfl) (h2 c hc).symm)]
  congr 1
  rw [Int.neg_mul, Int.sub_eq_add_neg]
theorem comb_mk {p : Int} {D : Nat → Nat → Int} {m K : Nat} {l : List Int} {c0 : Nat} (hl : l.length = m + 1 + K) (h1 : CombOk p D m K l) : CombOk p D m K (mkLead p l c0) := fun c hc => by
  have k : ∀ n, n < m + 1 + K → sq (mkLead p l c0) n = sq l n * inv p (sq l c0) % p := fun n hn => sq_mkLead (by rw [hl]; exact hn)
  rw [k c (by omega), em_em]
  have s : comb D m K (mkLead p l c0) c % p = (inv p (sq l c0) * comb D m K l c) % p := by
    unfold comb
    rw [← sum_map_mul]
    refine sum_em fun j hj => ?_
    rw [k (m + 1 + j) (by have := List.mem_range.mp hj; omega), em_mul (em_em _) rfl]
    congr 1
    rw [Int.mul_comm (sq l (m + 1 + j)), Int.mul_assoc]
  rw [s, Int.mul_comm (sq l c)]
  exact em_mul rfl (h1 c hc)
theorem comb_all {p : Int} {D : Nat → Nat → Int} {m K : Nat} : ∀ (ls : List Lead) (l : List Int), l.length = m + 1 + K → (∀ e ∈ ls, e.2.length = m + 1 + K) → CombOk p D m K l → (∀ e ∈ ls, CombOk p D m K e.2) → CombOk p D m K (clrAll p l ls)
  | [], _, _, _, h, _ => h
  | e :: r, l, hl, h1, h2, h3 => comb_all r (clr p l e.2 e.1) (by rw [clr_len, hl, h1 e (List.mem_cons_self ..), Nat.min_self]) (fun e' he' => h1 e' (List.mem_cons_of_mem _ he')) (comb_clr hl (h1 e (List.mem_cons_self ..)) h2 (h3 e (List.mem_cons_self ..))) fun e' he' => h3 e' (List.mem_cons_of_mem _ he')
theorem comb_add {p : Int} {D : Nat → Nat → Int} {m K : Nat} {ls : List Lead} {l : List Int} {c : Nat} (hl : l.length = m + 1 + K) (h1 : ∀ e ∈ ls, e.2.length = m + 1 + K) (h2 : CombOk p D m K l) (h3 : ∀ e ∈ ls, CombOk p D m K e.2) : ∀ e ∈ addLead p ls l c, CombOk p D m K e.2 := fun e he => by
  rcases List.mem_append.mp he with q | q
  · obtain ⟨e', g1, rfl⟩ := List.mem_map.mp q
    exact comb_clr (h1 e' g1) (by rw [mkLead_len, hl]) (h3 e' g1) (comb_mk hl h2)
  · rw [List.mem_singleton.mp q]
    exact comb_mk hl h2
/-- each demand ahead of i is what the leads make of it -/
def Spn (p : Int) (D : Nat → Nat → Int) (m i : Nat) (ls : List Lead) : Prop := ∀ j, j < i → ∀ c, c ≤ m → D j c % p = lsum (D j) ls c % p
theorem lsum_add {p : Int} (f : Nat → Int) {m W : Nat} {l : List Int} {c0 c : Nat} (hl : l.length = W) (hc : c < W) : ∀ {ls : List Lead}, (∀ e ∈ ls, e.2.length = W) → lsum f (ls.map fun e => (e.1, clr p e.2 (mkLead p l c0) c0)) c % p = (lsum f ls c - lsum f ls c0 * sq (mkLead p l c0) c) % p
  | [], _ => by
    show (0 : Int) % p = (0 - 0 * _) % p
    rw [Int.zero_mul, Int.sub_zero]
  | e :: r, h => by
    have ih := lsum_add (p := p) f (m := m) (c0 := c0) hl hc (ls := r) fun e' he' => h e' (List.mem_cons_of_mem _ he')
    rw [List.map_cons, lsum_cons, lsum_cons, lsum_cons]
    have k : f e.1 * sq (clr p e.2 (mkLead p l c0) c0) c % p = f e.1 * (sq e.2 c - sq e.2 c0 * sq (mkLead p l c0) c) % p := em_mul rfl (by rw [sq_clr (by rw [mkLead_len, hl, h e (List.mem_cons_self ..), Nat.min_self]; exact hc), em_em])
    rw [em_add k ih]
    congr 1
    rw [Int.mul_sub, Int.add_mul, Int.mul_assoc]
    omega
theorem spn_keep {p : Int} {f : Nat → Int} {m W : Nat} {ls : List Lead} {l : List Int} {c0 : Nat} (hW : m < W) (hc0 : c0 ≤ m) (hl : l.length = W) (h1 : ∀ e ∈ ls, e.2.length = W) (m1 : sq (mkLead p l c0) c0 = 1) {s : Int} (h : ∀ c, c ≤ m → f c % p = (lsum f ls c + s * sq (mkLead p l c0) c) % p) (c : Nat) (hc : c ≤ m) : f c % p = lsum f (addLead p ls l c0) c % p := by
  unfold addLead
  rw [lsum_append]
  have g := lsum_add (p := p) f (m := m) (c0 := c0) (c := c) hl (by omega) h1
  have t : lsum f [(c0, mkLead p l c0)] c % p = (lsum f ls c0 + s) * sq (mkLead p l c0) c % p := by
    rw [lsum_cons, lsum_nil, Int.add_zero]
    refine em_mul ?_ rfl
    show f c0 % p = _
    rw [h c0 hc0, m1, Int.mul_one]
  rw [em_add g t, h c hc]
  congr 1
  rw [Int.add_mul]
  omega
theorem Spn.add {p : Int} (hp : Prm p) {D : Nat → Nat → Int} {m W i : Nat} (hW : m < W) {ls : List Lead} (L : Leads p W m ls) (S : Spn p D m i ls) {d : List Int} (hd : d.length = W) (hr : ∀ x ∈ d, 0 ≤ x ∧ x < p) (hD : ∀ c, c ≤ m → sq d c = D i c) {c0 : Nat} (hc0 : c0 < m) (h0 : sq (clrAll p d ls) c0 ≠ 0) : Spn p D m (i + 1) (addLead p ls (clrAll p d ls) c0) := by
  have p2 := hp.pos
  obtain ⟨g1, g2, g3, g4⟩ := L.clear (by omega) hW hd hr
  generalize clrAll p d ls = l at g1 g2 g3 g4 h0 ⊢
  have m1 := mkLead_one hp g2 (c := c0) (by omega) h0
  intro j hj c hc
  by_cases q : j < i
  · refine spn_keep (s := 0) hW (by omega) g1 L.len m1 (fun c hc => ?_) c hc
    rw [Int.zero_mul, Int.add_zero]
    exact S j q c hc
  · rw [show j = i by omega]
    refine spn_keep (s := sq l c0) hW (by omega) g1 L.len m1 (fun c hc => ?_) c hc
    have e1 := g3 c (by omega)
    have e2 : sq l c0 * sq (mkLead p l c0) c % p = sq l c % p := by
      have r0 := in_rest' (p := p) (by omega) g2 c0
      rw [sq_mkLead (by omega), em_mul rfl (em_em _), Int.mul_comm (sq l c), ← Int.mul_assoc, Int.mul_comm (sq l c0)]
      rw [Int.mul_emod, inv_ok hp (by omega) r0.2, Int.one_mul, em_em]
    have e3 : lsum (sq d) ls c = lsum (D i) ls c := by
      unfold lsum
      congr 1
      refine List.map_congr_left fun e he => ?_
      rw [hD e.1 (by have := L.col e he; omega)]
    rw [em_add (show lsum (D i) ls c % p = lsum (D i) ls c % p from rfl) (e2.trans e1), hD c hc, e3]
    congr 1
    omega
theorem Spn.none {p : Int} (hp : 0 < p) {D : Nat → Nat → Int} {m W i : Nat} (hW : m < W) {ls : List Lead} (L : Leads p W m ls) (S : Spn p D m i ls) {d : List Int} (hd : d.length = W) (hr : ∀ x ∈ d, 0 ≤ x ∧ x < p) (hD : ∀ c, c ≤ m → sq d c = D i c) (h0 : ∀ c, c ≤ m → sq (clrAll p d ls) c = 0) : Spn p D m (i + 1) ls := by
  obtain ⟨g1, g2, g3, g4⟩ := L.clear hp hW hd hr
  intro j hj c hc
  by_cases q : j < i
  · exact S j q c hc
  · rw [show j = i by omega]
    have e1 := g3 c (by omega)
    have e3 : lsum (sq d) ls c = lsum (D i) ls c := by
      unfold lsum
      congr 1
      refine List.map_congr_left fun e he => ?_
      rw [hD e.1 (by have := L.col e he; omega)]
    rw [h0 c hc, e3, hD c hc] at e1
    have := em_add (p := p) e1 (show lsum (D i) ls c % p = lsum (D i) ls c % p from rfl)
    rw [Int.zero_add, Int.sub_add_cancel] at this
    exact this.symm
/-- the taps that the leads tell -/
def tapAt : List Lead → Nat → Nat → Int
  | [], _, _ => 0
  | e :: r, m, c => if e.1 = c then sq e.2 m else tapAt r m c
theorem tapAt_out {m c : Nat} : ∀ {ls : List Lead}, c ∉ cols ls → tapAt ls m c = 0
  | [], _ => rfl
  | e :: r, h => by
    show (if e.1 = c then sq e.2 m else tapAt r m c) = 0
    rw [if_neg fun z => h (by rw [← z]; exact List.mem_cons_self ..)]
    exact tapAt_out fun z => h (List.mem_cons_of_mem _ z)
theorem tap_sum (f : Nat → Int) {m : Nat} : ∀ {ls : List Lead}, (cols ls).Nodup → (∀ e ∈ ls, e.1 < m) → ((List.range m).map fun c => tapAt ls m c * f c).sum = lsum f ls m
  | [], _, _ => by
    rw [lsum_nil, show ((List.range m).map fun c => tapAt [] m c * f c) = (List.range m).map fun _ => 0 from List.map_congr_left fun c _ => Int.zero_mul _, sum_map_zero]
  | e :: r, nd, h => by
    have nd' : e.1 ∉ cols r ∧ (cols r).Nodup := List.nodup_cons.mp nd
    rw [lsum_cons, ← tap_sum f nd'.2 fun e' he' => h e' (List.mem_cons_of_mem _ he')]
    have s : ((List.range m).map fun c => tapAt (e :: r) m c * f c) = (List.range m).map fun c => (if c = e.1 then 1 else 0) * (f e.1 * sq e.2 m) + tapAt r m c * f c := List.map_congr_left fun c _ => by
      show (if e.1 = c then sq e.2 m else tapAt r m c) * f c = _
      by_cases q : c = e.1
      · rw [if_pos q.symm, if_pos q, q, tapAt_out nd'.1, Int.zero_mul, Int.add_zero, Int.one_mul, Int.mul_comm]
      · rw [if_neg fun z => q z.symm, if_neg q, Int.zero_mul, Int.zero_add]
    rw [s, sum_map_add, sum_single (f := fun _ => f e.1 * sq e.2 m) List.nodup_range (List.mem_range.mpr (h e (List.mem_cons_self ..)))]
/-- the leads' taps keep every demand -/
theorem taps_ok {p : Int} {D : Nat → Nat → Int} {m W i : Nat} {ls : List Lead} (L : Leads p W m ls) (S : Spn p D m i ls) {j : Nat} (hj : j < i) : ((List.range m).map fun c => tapAt ls m c * D j c).sum % p = D j m % p := by
  rw [tap_sum (D j) L.nd L.col]
  exact (S j hj m (Nat.le_refl m)).symm
end Pw

namespace Pw
open PySem PySem.Spec PyProof.Rows L2 Evl
/-! ### a callee -/
structure Cal (P : Program) (w : World) (K : PySem.W.Frag) (mg : Str → Option Value) (base : Heap) (CX : CXT) (x : Str) (k : Nat) (ps : List Str) (sp : Sp) : Prop where
  ex : ∃ (f : Addr) (fd : FuncData), FnOk P w K mg base CX k f fd ps sp ∧ mg x = some (.ref f) ∧ PySem.W.keepIn K (.ref f) = true ∧ Binds K fd ps []
/-- a def of the text: where it stands -/
structure Dat (K : PySem.W.Frag) (mg : Str → Option Value) (x : Str) (st : Stmt) (ps : List Str) (f : Addr) (fd : FuncData) : Prop where
  F : Fun K x x st f fd
  g : mg x = some (.ref f)
  b : Binds K fd ps []
section
variable {P : Program} {w : World} {K : PySem.W.Frag} {mg : Str → Option Value} {base : Heap}
theorem Dat.cal {CX : CXT} {x : Str} {st : Stmt} {ps : List Str} {f : Addr} {fd : FuncData} {k : Nat} {sp : Sp} (D : Dat K mg x st ps f fd) (h : FnOk P w K mg base CX k f fd ps sp) : Cal P w K mg base CX x k ps sp := ⟨f, fd, h, D.g, D.F.kp, D.b⟩
theorem Cal.imp {CX : CXT} {x : Str} {ps : List Str} {k : Nat} {sp sp' : Sp} (C : Cal P w K mg base CX x k ps sp) (h : ∀ vs H Q E, sp' vs H Q E → sp vs H Q E) : Cal P w K mg base CX x k ps sp' := by
  obtain ⟨f, fd, F, g, kp, b⟩ := C.ex
  exact ⟨f, fd, F.imp h, g, kp, b⟩
end
section
variable {X : Cx} {x : Str} {p pos : Pos} {e : Expr} {es : List Expr} {t : TA} {sp : Sp} {k : Nat} {ps : List Str}
theorem pe_c0 (C : Cal X.prog X.w X.K X.mg X.base CX0 x k ps sp) (hr : Room k X.A) (ha : PA X (e :: es) t) (hg : Gl X x := by rfl) (hdb : (x == ("__debug__" : Str)) = false := by decide)
    (he : starEach (e :: es) X.env = (false, eval e X.env) :: starEach es X.env := by rfl) (hpl : (backTo pos (starEach es X.env)).any (·.1) = false := by rfl) :
    PE X (.Call (.Name x p) (e :: es) [] pos) (tCall sp [] E0 t) := by
  obtain ⟨f, fd, F, g, kp, b⟩ := C.ex
  exact pe_call F hr hg g kp b .nil pass0 ha hdb he hpl
/-! ### products of any size -/
theorem op_mulV : OpR X (binaryOp .Mult) (rI IntMulOk fun i j => .int (i * j)) := opI fun _ _ _ _ _ _ _ hc q => mul_int q hc
end
theorem mul_l {i j : Int} (h : -18446744073709551616 < i ∧ i < 18446744073709551616) : IntMulOk i j := .of_left (intBits_le_64 h.1 h.2)
theorem mul_r {i j : Int} (h : -18446744073709551616 < j ∧ j < 18446744073709551616) : IntMulOk i j := .of_right (intBits_le_64 h.1 h.2)
/-! ### readings -/
section
variable {K : PySem.W.Frag} {σ : L2.St} {H H' : Hp} {ta tb tc te : TE} {t u : TT} {x y z v : V} {r r' : R2}
theorem ev_chain {b1 b2 : Bool} (ha : Ev ta σ H x) (hb : Ev tb σ H y) (hr : RV r x y H (.bl b1)) (hc : b1 = true → Ev tc σ H z) (hr' : b1 = true → RV r' y z H (.bl b2)) : Ev (tChain r r' ta tb tc) σ H (.bl (b1 && b2)) := fun H1 e Q q =>
  ha H1 e _ fun H2 e2 => hb H2 (e.trans e2) _ fun H3 e3 => hr H3 ((e.trans e2).trans e3) _ fun H4 e4 => ⟨b1, rfl, by
    have ee := ((e.trans e2).trans e3).trans e4
    have en := (e2.trans e3).trans e4
    cases b1 with
    | true =>
      show tc σ H4 fun w' H4 => r' y w' H4 Q
      exact hc rfl H4 ee _ fun H5 e5 => hr' rfl H5 (ee.trans e5) Q fun H6 e6 => q H6 ((en.trans e5).trans e6)
    | false =>
      show Q (.bl false) H4
      exact q H4 en⟩
/-- a call of a built-in upon one new list -/
theorem ev_cbL {r : List V → Hp → VK → Prop} {xs : List V} (h : EvL te σ H xs) (hr : ∀ p H1, H1 p = some (.lst xs) → Ex H H1 → RC r [.ref p] H1 z) : Ev (tCB r (tCons te tNil)) σ H z := fun H1 e Q q =>
  h H1 e _ fun p H2 _ e2 hp => hr p H2 hp (e.trans e2) H2 (Ex.refl H2) Q fun H3 e3 => q H3 (e2.trans e3)
theorem rc_sum {a : Addr} {ns : List Int} (h : SqL K H a (ns.map V.int)) : RC (rSum K) [.ref a] H (.int ns.sum) := fun H1 e _ q => ⟨a, ns, rfl, ex_l e h, q H1 (Ex.refl H1)⟩
theorem rc_all {a : Addr} {bs : List Bool} (h : SqL K H a (bs.map V.bl)) : RC (rAll K) [.ref a] H (.bl (bs.all id)) := fun H1 e _ q => ⟨a, bs, rfl, ex_l e h, q H1 (Ex.refl H1)⟩
theorem rc_any {a : Addr} {bs : List Bool} (h : SqL K H a (bs.map V.bl)) : RC (rAny K) [.ref a] H (.bl (bs.any id)) := fun H1 e _ q => ⟨a, bs, rfl, ex_l e h, q H1 (Ex.refl H1)⟩
theorem rc_len {a : Addr} {xs : List V} (h : SqL K H a xs) : RC (rLenS K) [.ref a] H (.int (xs.length : Int)) := fun H1 e _ q => ⟨a, xs, rfl, .inl (ex_l e h), q H1 (Ex.refl H1)⟩
theorem rc_min {i j : Int} : RC (fun vs H Q => ∃ i j, vs = [V.int i, V.int j] ∧ Q (.int (if j < i then j else i)) H) [.int i, .int j] H (.int (if j < i then j else i)) := fun H1 _ _ q => ⟨i, j, rfl, q H1 (Ex.refl H1)⟩
theorem rc_abs {i : Int} : RC (fun vs H Q => ∃ i, vs = [V.int i] ∧ Q (.int (if i < 0 then -i else i)) H) [.int i] H (.int (if i < 0 then -i else i)) := fun H1 _ _ q => ⟨i, rfl, q H1 (Ex.refl H1)⟩
theorem rcl_list {a : Addr} {xs : List V} (h : SqL K H a xs) : RCL (rListS K) [.ref a] H xs := fun H1 e _ q =>
  ⟨a, xs, rfl, .inl (ex_l e h), fun l hl => q l _ hl (Ex.new hl) upd_same⟩
/-! ### == of lists of ints -/
theorem dp_ints (ns : List Int) : DpAll K H (ns.map V.int) (ns.map PyData.int) := by
  induction ns with
  | nil => exact .nil
  | cons n r ih => exact .cons (.int n) ih
theorem eqv_ints (ns ms : List Int) : PyData.eqv (.list (ns.map PyData.int)) (.list (ms.map PyData.int)) = decide (ns = ms) := by
  simp only [PyData.eqv]
  exact PySem.W.ked_eqvAll ns ms
theorem rv_eqL {a b : Addr} {ns ms : List Int} (ha : SqL K H a (ns.map V.int)) (hb : SqL K H b (ms.map V.int)) : RV (rEqD K) (.ref a) (.ref b) H (.bl (decide (ns = ms))) := fun H1 e Q q =>
  ⟨_, _, .lst (ex_l e ha) (dp_ints ns), .lst (ex_l e hb) (dp_ints ms), PySem.W.ke_shaped_ints ns, PySem.W.ke_shaped_ints ms, by rw [eqv_ints]; exact q H1 (Ex.refl H1)⟩
theorem rv_neL {a b : Addr} {ns ms : List Int} (ha : SqL K H a (ns.map V.int)) (hb : SqL K H b (ms.map V.int)) : RV (rNeD K) (.ref a) (.ref b) H (.bl (!decide (ns = ms))) := fun H1 e Q q =>
  ⟨_, _, .lst (ex_l e ha) (dp_ints ns), .lst (ex_l e hb) (dp_ints ms), PySem.W.ke_shaped_ints ns, PySem.W.ke_shaped_ints ms, by rw [eqv_ints]; exact q H1 (Ex.refl H1)⟩
/-- an item of a list of ints at a place within it -/
theorem rv_at {a : Addr} {ns : List Int} {i : Int} {n : Nat} (h : SqL K H a (ns.map V.int)) (e : i = (n : Int)) (hn : n < ns.length) : RV (rIxL K) (.ref a) (.int i) H (.int (sq ns n)) := by
  refine rv_ixL h ?_
  rw [e]
  refine atI_nat ?_
  rw [List.getElem?_map, sq_at hn]
  rfl
/-! ### isinstance -/
theorem rc_isi {x : V} {c t : String} {b : Bool} (h : TyX K H x (.type t)) (hx : ∀ H1, Ex H H1 → TyX K H1 x (.type t)) (hb : kitB t c = some b) : RC (rIsi K) [x, .ty c] H (.bl b) := fun H1 e _ q =>
  ⟨x, .ty c, .type t, .type c, b, rfl, .ty c, hx H1 e, kit_ty hb, q H1 (Ex.refl H1)⟩
theorem rc_isi_int {i : Int} {c : String} {b : Bool} (hb : kitB "int" c = some b) : RC (rIsi K) [.int i, .ty c] H (.bl b) := rc_isi (.base (.int i)) (fun _ _ => .base (.int i)) hb
theorem rc_isi_bl {k : Bool} {c : String} {b : Bool} (hb : kitB "bool" c = some b) : RC (rIsi K) [.bl k, .ty c] H (.bl b) := rc_isi (.base (.bl k)) (fun _ _ => .base (.bl k)) hb
theorem rc_isi_lst {a : Addr} {xs : List V} {c : String} {b : Bool} (ha : H a = some (.lst xs)) (hb : kitB "list" c = some b) : RC (rIsi K) [.ref a, .ty c] H (.bl b) := rc_isi (.base (.lst ha)) (fun _ e => .base (.lst (e a _ ha))) hb
/-! ### loops and tests -/
theorem et_test' {b : Bool} (h : Ev te σ H (.bl b)) : EvT (tTest te) σ H b := et_test h
end
end Pw
namespace Pw
open PySem PySem.Spec PyProof.Rows L2 Evl
section
variable {K : PySem.W.Frag} {σ : L2.St} {H H' : Hp} {ta tb tc te : TE} {t u : TT} {x y z v : V} {r r' : R2}
theorem given_all {n : Nat} {v : Nat → V} : given n (fun _ => true) v = (List.range n).map v := by
  unfold given
  rw [List.filter_eq_self.mpr fun _ _ => rfl]
theorem et_yes : EvT tYes σ H true := fun H1 _ _ q => q H1 (Ex.refl H1)
theorem el_is {xs ys : List V} (h : EvL te σ H xs) (e : xs = ys) : EvL te σ H ys := by
  rw [← e]
  exact h
/-- [e for x in xs], a list of ints -/
theorem el_mapL {a : Addr} {ns : List Int} {tl : TE} {j : Nat} {vs : List Nat} (v : Nat → V) (h : Ev tl σ H (.ref a)) (hx : SqL K H a (ns.map V.int)) (hz : ns.length ≤ 40000) (hw : ∀ x, wipe ((wipe σ vs).set j (some x)) vs = wipe σ vs)
    (he : ∀ (i : Nat) H1, Ex H H1 → i < ns.length → Ev te ((wipe σ vs).set j (some (.int (sq ns i)))) H1 (v i)) : EvL (tLc (iList K tl) (gName j) tYes te vs) σ H ((List.range ns.length).map v) := by
  refine el_is (el_lcL (xs := ns.map V.int) (fun _ => true) v h hx (by rw [List.length_map]; exact hz) hw (fun _ _ _ _ _ => et_yes) (fun i x H1 e hi _ => ?_)) ?_
  · rw [List.getElem?_map] at hi
    have hn : i < ns.length := by
      by_cases c : i < ns.length
      · exact c
      · rw [List.getElem?_eq_none (by omega)] at hi
        cases hi
    rw [sq_at hn] at hi
    cases hi
    exact he i H1 e hn
  · rw [given_all, List.length_map]
/-- [e for x in range(n)] -/
theorem el_mapR {ta : TA} {j : Nat} {vs : List Nat} {n : Int} (v : Nat → V) (h : EvA ta σ H [.int n]) (hn : 0 ≤ n ∧ n ≤ 40000) (hw : ∀ x, wipe ((wipe σ vs).set j (some x)) vs = wipe σ vs)
    (he : ∀ (i : Nat) H1, Ex H H1 → (i : Int) < n → Ev te ((wipe σ vs).set j (some (.int (i : Int)))) H1 (v i)) : EvL (tLc (iRng1 ta) (gName j) tYes te vs) σ H ((List.range n.toNat).map v) :=
  el_is (el_lcR1 (fun _ => true) v h hn hw (fun _ _ _ _ => et_yes) (fun i H1 e hi _ => he i H1 e hi)) given_all
theorem map_map_int {n : Nat} {f : Nat → Int} : (List.range n).map (fun i => V.int (f i)) = ((List.range n).map f).map V.int := by
  rw [List.map_map]
  rfl
theorem map_map_bl {n : Nat} {f : Nat → Bool} : (List.range n).map (fun i => V.bl (f i)) = ((List.range n).map f).map V.bl := by
  rw [List.map_map]
  rfl
theorem all_true {n : Nat} : ((List.range n).map fun _ => true).all id = true := by
  rw [List.all_eq_true]
  intro x hx
  obtain ⟨_, _, rfl⟩ := List.mem_map.mp hx
  rfl
theorem min_if {a b : Nat} : (if (b : Int) < (a : Int) then (b : Int) else (a : Int)) = ((min a b : Nat) : Int) := by
  by_cases h : b < a
  · rw [if_pos (by omega), Nat.min_eq_right (by omega)]
  · rw [if_neg (by omega), Nat.min_eq_left (by omega)]
end
end Pw
namespace Pw
open PySem PySem.Spec PyProof.Rows L2 Evl
section
variable {K : PySem.W.Frag} {σ : L2.St} {H H' : Hp} {ta tb tc te : TE} {t u : TT} {x y z v : V} {r r' : R2}
theorem rc_lenI {a : Addr} {ns : List Int} (h : SqL K H a (ns.map V.int)) : RC (rLenS K) [.ref a] H (.int (ns.length : Int)) := by
  have g := rc_len h
  rw [List.length_map] at g
  exact g
theorem rc_minN {a b : Nat} : RC (fun vs H Q => ∃ i j, vs = [V.int i, V.int j] ∧ Q (.int (if j < i then j else i)) H) [.int (a : Int), .int (b : Int)] H (.int ((min a b : Nat) : Int)) := by
  have g := rc_min (H := H) (i := (a : Int)) (j := (b : Int))
  rw [min_if] at g
  exact g
/-- small items -/
def Sml (xs : List Int) : Prop := ∀ x ∈ xs, -1000000 < x ∧ x < 1000000
theorem Sml.at {xs : List Int} (h : Sml xs) (n : Nat) : -1000000 < sq xs n ∧ sq xs n < 1000000 := by
  by_cases c : n < xs.length
  · exact h _ (sq_mem c)
  · rw [sq_out (by omega)]
    decide
theorem Rowp.sml {p : Int} {xs : List Int} (hp : p ≤ 1000) (h : Rowp p xs) : Sml xs := fun x hx => by
  have := h.rest x hx
  omega
theorem el_int {n : Nat} {f : Nat → Int} (h : EvL te σ H ((List.range n).map fun i => V.int (f i))) : EvL te σ H (((List.range n).map f).map V.int) := el_is h map_map_int
end
end Pw
namespace Pw
open PySem PySem.Spec PyProof.Rows L2 Evl
section
variable {K : PySem.W.Frag} {σ : L2.St} {H H' : Hp} {ta tb tc te : TE} {t u : TT} {x y z v : V} {r r' : R2}
/-- [e for x, y in zip(xs, ys)], two lists of ints -/
theorem el_zip {a b : Addr} {xs ys : List Int} {tA : TA} {i j : Nat} {vs : List Nat} (v : Nat → V) (h : EvA tA σ H [.ref a, .ref b]) (hx : SqL K H a (xs.map V.int)) (hy : SqL K H b (ys.map V.int)) (hz : xs.length ≤ 40000)
    (hw : ∀ x y, wipe (((wipe σ vs).set i (some x)).set j (some y)) vs = wipe σ vs)
    (he : ∀ (n : Nat) H1, Ex H H1 → n < min xs.length ys.length → Ev te (((wipe σ vs).set i (some (.int (sq xs n)))).set j (some (.int (sq ys n)))) H1 (v n)) :
    EvL (tLc (iZip K tA) (gTup K 2 (gCons (gName i) (gCons (gName j) gNil))) tYes te vs) σ H ((List.range (min xs.length ys.length)).map v) := fun H0 e Q q => h H0 e _ fun H1 e1 => by
  refine ⟨a, b, _, _, rfl, ex_l (e.trans e1) hx, ex_l (e.trans e1) hy, fun Dl hD => ?_⟩
  refine ⟨fun n m H' => m = min xs.length ys.length - n ∧ n ≤ min xs.length ys.length ∧ Cw H1 (fun _ => true) v Dl n H', ⟨min xs.length ys.length, rfl, Nat.zero_le _, hD, Ex.new hD, upd_same⟩, fun n m H' hW => ?_⟩
  obtain ⟨rfl, hn, p⟩ := hW
  have ex := (e.trans e1).trans p.2.1
  by_cases hlt : n < min xs.length ys.length
  · have gx : (xs.map V.int)[n]? = some (.int (sq xs n)) := by
      rw [List.getElem?_map, sq_at (by omega)]
      rfl
    have gy : (ys.map V.int)[n]? = some (.int (sq ys n)) := by
      rw [List.getElem?_map, sq_at (by omega)]
      rfl
    refine .inr ⟨⟨_, _, _, _, ex_l ex hx, ex_l ex hy, gx, gy⟩, fun H3 => Cw H1 (fun _ => true) v Dl (n + 1) H3, fun H3 c => ⟨min xs.length ys.length - (n + 1), by omega, rfl, by omega, c⟩, fun z H3 hz3 => ?_⟩
    obtain ⟨T, x1, x2, rfl, hT, rfl, f1, f2⟩ := hz3
    have ex1 : x1 = .int (sq xs n) := Option.some.inj ((f1 _ (ex_l ex hx)).symm.trans gx)
    have ex2 : x2 = .int (sq ys n) := Option.some.inj ((f2 _ (ex_l ex hy)).symm.trans gy)
    subst ex1 ex2
    have p' : Cw H1 (fun _ => true) v Dl n (upd H' T (.tup [.int (sq xs n), .int (sq ys n)])) := ⟨p.1, p.2.1.trans (Ex.new hT), by
      rw [upd_ne (ne_of_none p.2.2 hT)]
      exact p.2.2⟩
    exact ⟨T, _, rfl, st_of upd_same, rfl, .int (sq xs n), _, rfl, .int (sq ys n), _, rfl, rfl, hw _ _, cw_turn p' (by omega) et_yes fun _ => he n H1 (e.trans e1) hlt⟩
  · have en : n = min xs.length ys.length := by omega
    refine .inl ⟨⟨_, _, ex_l ex hx, ex_l ex hy, ?_⟩, ?_⟩
    · rw [List.length_map, List.length_map]
      omega
    · rw [en] at p
      have p2 := p.2.2
      rw [given_all] at p2
      exact q Dl H' (fresh_back e1 p.1) (e1.trans p.2.1) p2
/-! ### slices -/
theorem cut_to (ns : List Int) (k : Nat) : cutV (ns.map V.int) none (some (k : Int)) = (ns.take k).map V.int := by
  unfold cutV
  rw [HT.sIx_none, HT.sIx_nat, List.drop_zero, Nat.sub_zero, List.map_take]
  by_cases h : k ≤ (ns.map V.int).length
  · rw [Nat.min_eq_left h]
  · rw [Nat.min_eq_right (by omega), List.take_of_length_le (Nat.le_refl _), List.take_of_length_le (by omega)]
theorem cut_from (ns : List Int) (k : Nat) : cutV (ns.map V.int) (some (k : Int)) none = (ns.drop k).map V.int := by
  unfold cutV
  rw [HT.sIx_none, HT.sIx_nat, List.map_drop]
  by_cases h : k ≤ (ns.map V.int).length
  · rw [Nat.min_eq_left h, List.take_of_length_le (by rw [List.length_drop]; omega)]
  · have h1 : List.drop (ns.map V.int).length (ns.map V.int) = [] := List.drop_eq_nil_of_le (Nat.le_refl _)
    have h2 : List.drop k (ns.map V.int) = [] := List.drop_eq_nil_of_le (by omega)
    rw [Nat.min_eq_right (by omega), h1, h2, List.take_nil]
/-- all but the last -/
theorem cut_last (ns : List Int) : cutV (ns.map V.int) none (some (-1)) = ns.dropLast.map V.int := by
  unfold cutV
  rw [HT.sIx_none, List.drop_zero, Nat.sub_zero, show HT.sIx (ns.map V.int).length (ns.map V.int).length (some (-1)) = (ns.map V.int).length - 1 from ?_, List.map_dropLast, List.dropLast_eq_take]
  unfold HT.sIx
  simp only [List.length_map]
  split <;> omega
end
end Pw
namespace Pw
open PySem PySem.Spec PyProof.Rows L2 Evl
section
variable {K : PySem.W.Frag} {σ : L2.St} {H H' : Hp} {ta tb tc te te2 : TE} {t u : TT} {x y z v : V} {r r' : R2} {D : Ends} {tz : TS}
/-- a, b = e, e2 -/
theorem q_par {i j : Nat} (h1 : Ev te σ H x) (h2 : Ev te2 σ H y) (k : ∀ H1, Ex H H1 → tz D ((σ.set i (some x)).set j (some y)) H1) : tSeq (tPar i j (tCons te (tCons te2 tNil))) tz D σ H :=
  h1 H (Ex.refl H) _ fun H1 e1 => h2 H1 e1 _ fun H2 e2 => ⟨x, y, rfl, k H2 (e1.trans e2)⟩
theorem q_parL {i j : Nat} {xs : List V} (h1 : Ev te σ H x) (h2 : EvL te2 σ H xs) (k : ∀ p H1, H p = none → Ex H H1 → H1 p = some (.lst xs) → tz D ((σ.set i (some x)).set j (some (.ref p))) H1) : tSeq (tPar i j (tCons te (tCons te2 tNil))) tz D σ H :=
  h1 H (Ex.refl H) _ fun H1 e1 => h2 H1 e1 _ fun p H2 n2 e2 hp => ⟨x, .ref p, rfl, k p H2 (fresh_back e1 n2) (e1.trans e2) hp⟩
theorem q_parLL {i j : Nat} {xs ys : List V} (h1 : EvL te σ H xs) (h2 : EvL te2 σ H ys) (k : ∀ p q H1, H p = none → H q = none → p ≠ q → Ex H H1 → H1 p = some (.lst xs) → H1 q = some (.lst ys) → tz D ((σ.set i (some (.ref p))).set j (some (.ref q))) H1) : tSeq (tPar i j (tCons te (tCons te2 tNil))) tz D σ H :=
  h1 H (Ex.refl H) _ fun p H1 n1 e1 hp => h2 H1 e1 _ fun q H2 n2 e2 hq => ⟨.ref p, .ref q, rfl, k p q H2 n1 (fresh_back e1 n2) (ne_of_none hp n2) (e1.trans e2) (e2 p _ hp) hq⟩
/-- a, b, c = list, list, int -/
theorem q_par3LL {i j l : Nat} {te3 : TE} {xs ys : List V} (h1 : EvL te σ H xs) (h2 : EvL te2 σ H ys) (h3 : Ev te3 σ H z) (k : ∀ p q H1, H p = none → H q = none → p ≠ q → Ex H H1 → H1 p = some (.lst xs) → H1 q = some (.lst ys) → tz D (((σ.set i (some (.ref p))).set j (some (.ref q))).set l (some z)) H1) : tSeq (tPar3 i j l (tCons te (tCons te2 (tCons te3 tNil)))) tz D σ H :=
  h1 H (Ex.refl H) _ fun p H1 n1 e1 hp => h2 H1 e1 _ fun q H2 n2 e2 hq => h3 H2 (e1.trans e2) _ fun H3 e3 => ⟨.ref p, .ref q, z, rfl, k p q H3 n1 (fresh_back e1 n2) (ne_of_none hp n2) ((e1.trans e2).trans e3) (e3 p _ (e2 p _ hp)) (e3 q _ hq)⟩
/-- the first operand a new tuple -/
theorem ev_opU1 {xs : List V} (ha : EvU ta σ H xs) (hb : Ev tb σ H y) (hr : ∀ p H1, H1 p = some (.tup xs) → Ex H H1 → RV r (.ref p) y H1 z) : Ev (tOp r ta tb) σ H z := fun H1 e Q q =>
  ha H1 e _ fun p H2 _ e2 hp => hb H2 (e.trans e2) _ fun H3 e3 => hr p H3 (e3 p _ hp) ((e.trans e2).trans e3) H3 (Ex.refl H3) Q fun H4 e4 => q H4 ((e2.trans e3).trans e4)
theorem el_if {b : Bool} {xs : List V} (h : EvT t σ H b) (h1 : b = true → EvL ta σ H xs) (h2 : b = false → EvL tb σ H xs) : EvL (tIf t ta tb) σ H xs := fun H1 e Q q => h H1 e _ fun H2 e2 => by
  cases b with
  | true =>
    show ta σ H2 Q
    exact h1 rfl H2 (e.trans e2) Q fun p H3 n3 e3 hp => q p H3 (fresh_back e2 n3) (e2.trans e3) hp
  | false =>
    show tb σ H2 Q
    exact h2 rfl H2 (e.trans e2) Q fun p H3 n3 e3 hp => q p H3 (fresh_back e2 n3) (e2.trans e3) hp
theorem el_cat {a b : Addr} {xs ys : List V} (ha : Ev ta σ H (.ref a)) (hb : Ev tb σ H (.ref b)) (h1 : H a = some (.lst xs)) (h2 : H b = some (.lst ys)) (hz : xs.length + ys.length ≤ 100000) : EvL (tOp rCat ta tb) σ H (xs ++ ys) := fun H1 e Q q =>
  ha H1 e _ fun H2 e2 => hb H2 (e.trans e2) _ fun H3 e3 => ⟨a, b, xs, ys, rfl, rfl, ((e.trans e2).trans e3) a _ h1, ((e.trans e2).trans e3) b _ h2, sz_of hz, fun p hp => q p _ (fresh_back (e2.trans e3) hp) ((e2.trans e3).trans (Ex.new hp)) upd_same⟩
/-- a new list and a known one, put behind one another -/
theorem el_catL {b : Addr} {xs ys : List V} (ha : EvL ta σ H xs) (hb : Ev tb σ H (.ref b)) (h2 : H b = some (.lst ys)) (hz : xs.length + ys.length ≤ 100000) : EvL (tOp rCat ta tb) σ H (xs ++ ys) := fun H1 e Q q =>
  ha H1 e _ fun a H2 n2 e2 h1 => hb H2 (e.trans e2) _ fun H3 e3 => ⟨a, b, xs, ys, rfl, rfl, e3 a _ h1, ((e.trans e2).trans e3) b _ h2, sz_of hz, fun p hp => q p _ (fresh_back (e2.trans e3) hp) ((e2.trans e3).trans (Ex.new hp)) upd_same⟩
theorem el_catLL {xs ys : List V} (ha : EvL ta σ H xs) (hb : EvL tb σ H ys) (hz : xs.length + ys.length ≤ 100000) : EvL (tOp rCat ta tb) σ H (xs ++ ys) := fun H1 e Q q =>
  ha H1 e _ fun a H2 n2 e2 h1 => hb H2 (e.trans e2) _ fun b H3 n3 e3 h2 => ⟨a, b, xs, ys, rfl, rfl, e3 a _ h1, h2, sz_of hz, fun p hp => q p _ (fresh_back (e2.trans e3) hp) ((e2.trans e3).trans (Ex.new hp)) upd_same⟩
/-- [x] * n -/
theorem el_rep {n : Int} {xs : List V} (ha : EvL ta σ H xs) (hb : Ev tb σ H (.int n)) (hn : -100000 ≤ n ∧ n ≤ 100000) (hz : xs.length = 1) : EvL (tOp rRep ta tb) σ H (List.replicate n.toNat xs).flatten := fun H1 e Q q =>
  ha H1 e _ fun a H2 n2 e2 h1 => hb H2 (e.trans e2) _ fun H3 e3 => ⟨a, n, xs, rfl, rfl, e3 a _ h1, by omega, by omega, sz_of (by rw [hz]; omega), fun p hp => q p _ (fresh_back (e2.trans e3) hp) ((e2.trans e3).trans (Ex.new hp)) upd_same⟩
theorem rep_one (n : Nat) (x : V) : (List.replicate n [x]).flatten = List.replicate n x := by
  induction n with
  | zero => rfl
  | succ n ih =>
    rw [List.replicate_succ, List.flatten_cons, ih]
    rfl
theorem rep_map (n : Nat) (x : Int) : List.replicate n (V.int x) = ((List.range n).map fun _ => x).map V.int := by
  rw [List.map_map]
  apply List.ext_getElem?
  intro i
  by_cases h : i < n
  · rw [List.getElem?_replicate, if_pos h, List.getElem?_map, List.getElem?_range h]
    rfl
  · rw [List.getElem?_eq_none (by simp; omega), List.getElem?_eq_none (by simp; omega)]
/-- an item of a tuple of ints -/
theorem rv_atU {a : Addr} {ns : List Int} {i : Int} {n : Nat} (h : SqT K H a (ns.map V.int)) (e : i = (n : Int)) (hn : n < ns.length) : RV (rIxT K) (.ref a) (.int i) H (.int (sq ns n)) := by
  refine rv_ixT h ?_
  rw [e]
  refine atI_nat ?_
  rw [List.getElem?_map, sq_at hn]
  rfl
/-! ### isinstance of the error that a suite holds -/
def rIsX (K : PySem.W.Frag) (a : Addr) (cls : Value) (d : Option Addr) : List V → Hp → VK → Prop := fun xs H Q => ∃ D, cls = .ref D ∧ d = none ∧ ExcC K D ∧ rIsE K D a xs H Q
theorem call_isX {X : Cx} {a : Addr} {oe : Obj} {pn : List (Addr × Obj)} {cls : Value} {d : Option Addr} (hz : Zc cls d oe) (hf : ∃ vs, oe.data = .fields vs) : CallR (X.suite a ((a, oe) :: pn)) (.builtin "isinstance") (rIsX X.K a cls d) := by
  intro pins s σ H xs us Q I r h
  obtain ⟨D, rfl, rfl, C, h⟩ := h
  exact call_isE C hz hf pins s σ H xs us Q I r h
theorem rc_isX {a D C : Addr} {b : Bool} (E : ExcC K D) (hb : PySem.W.kitOne K (.ref D) (.ref C) = some b) : RC (rIsX K a (.ref D) none) [.ref a, .ref C] H (.bl b) := fun H1 e _ q =>
  ⟨D, rfl, rfl, E, .ref C, .ref C, b, rfl, fun _ r => r, hb, q H1 (Ex.refl H1)⟩
theorem rc_isXT {a D : Addr} {c : String} {b : Bool} (E : ExcC K D) (hb : PySem.W.kitOne K (.ref D) (.type c) = some b) : RC (rIsX K a (.ref D) none) [.ref a, .ty c] H (.bl b) := fun H1 e _ q =>
  ⟨D, rfl, rfl, E, .ty c, .type c, b, rfl, fun _ r => r, hb, q H1 (Ex.refl H1)⟩
/-- an own class asked of an instance of another -/
theorem kit_own {D C : Addr} {b : Bool} (h1 : PySem.W.isClsIn K C = true) (h2 : PySem.W.typeIn K (.ref C) = some (.type "type")) (h3 : PySem.W.subIn K (.ref D) (.ref C) = some b) (h4 : D = C → b = true) : PySem.W.kitOne K (.ref D) (.ref C) = some b := by
  unfold PySem.W.kitOne
  by_cases e : D = C
  · subst e
    rw [if_pos (beq_self_eq_true _), h4 rfl]
  · have ne : ¬ ((Value.ref D == Value.ref C) = true) := fun z => e (Value.ref.inj (beq_iff_eq.mp z))
    rw [if_neg ne]
    show (if ((PySem.W.clsIn K C).isSome && PySem.W.typeIn K (.ref C) == some (.type "type")) = true then PySem.W.subIn K (.ref D) (.ref C) else none) = some b
    have h1' : (PySem.W.clsIn K C).isSome = true := h1
    rw [h1', h2, if_pos (by rfl)]
    exact h3
end
end Pw
namespace Pw
open PySem PySem.Spec PyProof.Rows L2 Evl
section
variable {K : PySem.W.Frag} {σ : L2.St} {H H' : Hp} {ta tb tc te te2 : TE} {t u : TT} {x y z v : V} {r r' : R2} {D : Ends} {tz : TS}
/-- arguments, new lists among them: what holds of them and the heap behind -/
def EvAP (tA : TA) (σ : L2.St) (H : Hp) (P : List V → Hp → Prop) : Prop := ∀ H1, Ex H H1 → ∀ Q : List V → Hp → Prop, (∀ vs H2, Ex H1 H2 → P vs H2 → Q vs H2) → tA σ H1 Q
theorem eap_nil : EvAP tNil σ H (fun vs _ => vs = []) := fun H1 _ _ q => q [] H1 (Ex.refl H1) rfl
theorem eap_cons {tr : TA} {P : List V → Hp → Prop} (h : Ev te σ H x) (hr : EvAP tr σ H P) : EvAP (tCons te tr) σ H (fun vs H2 => ∃ r, vs = x :: r ∧ P r H2) := fun H1 e Q q =>
  h H1 e _ fun H2 e2 => hr H2 (e.trans e2) _ fun vs H3 e3 hP => q _ H3 (e2.trans e3) ⟨vs, rfl, hP⟩
theorem eap_consL {tr : TA} {P : List V → Hp → Prop} {xs : List V} (h : EvL te σ H xs) (hr : EvAP tr σ H P) : EvAP (tCons te tr) σ H (fun vs H2 => ∃ p r, vs = .ref p :: r ∧ H2 p = some (.lst xs) ∧ H p = none ∧ P r H2) := fun H1 e Q q =>
  h H1 e _ fun p H2 n2 e2 hp => hr H2 (e.trans e2) _ fun vs H3 e3 hP => q _ H3 (e2.trans e3) ⟨p, vs, rfl, e3 p _ hp, fresh_back e n2, hP⟩
theorem el_callP {sp : Sp} {E : XK} {tA : TA} {P : List V → Hp → Prop} {zs : List V} (h : EvAP tA σ H P) (hs : ∀ vs H1, Ex H H1 → P vs H1 → SpL sp (vs ++ []) H1 zs) : EvL (tCall sp [] E tA) σ H zs := fun H1 e Q q =>
  h H1 e _ fun vs H2 e2 hP => hs vs H2 (e.trans e2) hP H2 (Ex.refl H2) Q (fun p H3 n3 e3 hp => q p H3 (fresh_back e2 n3) (e2.trans e3) hp) E
theorem ev_callP {sp : Sp} {E : XK} {tA : TA} {P : List V → Hp → Prop} (h : EvAP tA σ H P) (hs : ∀ vs H1, Ex H H1 → P vs H1 → SpV sp (vs ++ []) H1 z) : Ev (tCall sp [] E tA) σ H z := fun H1 e Q q =>
  h H1 e _ fun vs H2 e2 hP => hs vs H2 (e.trans e2) hP H2 (Ex.refl H2) Q (fun H3 e3 => q H3 (e2.trans e3)) E
/-- a, b = list, list, by a tuple -/
theorem q_asgTLL {i j : Nat} {xs ys : List V} (h1 : EvL te σ H xs) (h2 : EvL te2 σ H ys) (k : ∀ p q H1, H p = none → H q = none → p ≠ q → Ex H H1 → H1 p = some (.lst xs) → H1 q = some (.lst ys) → tz D ((σ.set i (some (.ref p))).set j (some (.ref q))) H1) :
    tSeq (tAsg (tTup (tCons te (tCons te2 tNil))) (gTup K 2 (gCons (gName i) (gCons (gName j) gNil)))) tz D σ H :=
  h1 H (Ex.refl H) _ fun p H1 n1 e1 hp => h2 H1 e1 _ fun q H2 n2 e2 hq => ⟨by show 2 ≤ sizeLine; decide, fun t ht => ⟨t, _, rfl, st_of upd_same, rfl, .ref p, _, rfl, .ref q, _, rfl, rfl,
    k p q _ n1 (fresh_back e1 n2) (ne_of_none hp n2) ((e1.trans e2).trans (Ex.new ht)) (by rw [upd_ne (ne_of_none (e2 p _ hp) ht)]; exact e2 p _ hp) (by rw [upd_ne (ne_of_none hq ht)]; exact hq)⟩⟩
end
end Pw

namespace Pw
open PySem PySem.Spec PyProof.Rows L2 HotX
section
variable {prog : Program} {w : World} {A : Around} {E : Value → Shared → Prop} {s : Shared}
theorem list_end_hot {it l x1 : Addr} {i : Nat} {items : Array Value} {Q : Option Value → Shared → Prop} (hot : HotAt A x1 s.heap) (hne : x1 ≠ it)
    (hit : s.heap.IsListIter it l i) (hl : s.heap.IsList l items) (hx : items[i]? = none)
    (hQ : ∀ h', (∀ b o, b ≠ it → s.heap.get? b = some o → h'.get? b = some o) → Q none { s with heap := h' }) : wpAny (model prog w) A (pyNext (.ref it)) Q E s := by
  obtain ⟨o, ho, hc, hd⟩ := id hit
  obtain ⟨ol, hol, _, nl, hdl⟩ := hl
  obtain ⟨hh, o1, vs1, h1, d1, c1⟩ := hot
  unfold pyNext
  refine wpAny_bind (wpAny_attempt (wpAny_callSpecial?_slot (name := Str.ofString "__next__") hit.typeIs slot_listiter_next
    (wpAny_call_entry slot_listiter_next hit.typeIs entry_listiter_next ?_ (args_listiter_next _))))
  show wpAny _ _ (field (.ref it) 0 >>= _) _ _ s
  refine wpAny_bind (wpAny_field ho hd (x := .ref l) rfl ?_)
  show wpAny _ _ (if (Value.ref l == Value.none) = true then _ else _) _ _ s
  rw [if_neg (show ¬ ((Value.ref l == Value.none) = true) from Bool.false_ne_true)]
  show wpAny _ _ (field (.ref it) 1 >>= _) _ _ s
  refine wpAny_bind (wpAny_field ho hd (x := .int i 0) rfl ?_)
  show wpAny _ _ (seqItems? (.ref l) >>= _) _ _ s
  refine wpAny_bind (wpAny_seqItems hol hdl ?_)
  simp only [Int.toNat_natCast, hx]
  refine wpAny_bind (wpAny_rule (wpAny_bind (wpAny_setField ho hd (by simp) ?_)))
  show wpAny _ _ (newExc (.type "StopIteration") [] >>= _) _ _ _
  refine wpAny_bind ?_
  simp only [newExc, newTuple]
  refine wpAny_bind (wpAny_newObj_type ?_ (by size_fits))
  refine wpAny_bind (m := firstArgMember _ _) (wpAny_of_eq (a := Value.none) (by first | rfl | (simp only [firstArgMember]; rfl)) ?_)
  refine wpAny_newObj_type ?_ (by size_fits)
  have hu : ∀ b ob, b ≠ it → s.heap.get? b = some ob → (s.heap.update it (Obj.mapFields (·.setIfInBounds 0 Value.none))).get? b = some ob := fun b ob hb e => by
    rw [Heap.get?_update_other _ _ hb.symm]
    exact e
  first
    | refine raiseNew_hot (x1 := x1) ⟨hh, o1, vs1, Heap.get?_push_of_some _ (Heap.get?_push_of_some _ (hu x1 o1 hne h1)), d1, c1⟩ (Nat.ne_of_lt (Heap.lt_size (Heap.get?_push_of_some _ (hu x1 o1 hne h1)))) (Heap.get?_push_size _ rfl) rfl (by first | (simp; done) | (simp; omega) | (simp only [Array.size_append]; simp; omega)) ?_
  refine wpAny_bind (wpAny_isInstance (T := "StopIteration") (b := true) ⟨_, Heap.get?_update_self _ (Heap.get?_push_size _ rfl) rfl, rfl⟩ isSubtype_stop ?_)
  refine wpAny_pure (hQ _ fun b ob hb e => ?_)
  rw [Heap.get?_update_other _ _ (Nat.ne_of_gt (Heap.lt_size (Heap.get?_push_of_some _ (hu b ob hb e))))]
  exact Heap.get?_push_of_some _ (Heap.get?_push_of_some _ (hu b ob hb e))
/-- a list walked while an exception is handled -/
theorem walks_listH {x1 I ax : Addr} (hne : ax ≠ I) (hx : x1 ≠ I) (items : Array Value) :
    Walks prog w A I [I, ax, x1] [I] items.size (fun i v => items[i]? = some v) (fun i h => h.IsListIter I ax i ∧ h.IsList ax items ∧ HotAt A x1 h) where
  sub := fun b hb => by simp at hb; simp [hb]
  frame := fun _ _ _ st hk => ⟨st.1.at fun o e => hk I (by simp) o e, st.2.1.at fun o e => hk ax (by simp) o e, by
    obtain ⟨hh, o1, vs1, h1, d1, c1⟩ := st.2.2
    exact ⟨hh, o1, vs1, hk x1 (by simp) _ h1, d1, c1⟩⟩
  item := fun i s Q E hi st hQ => by
    refine wpAny_pyNext_list_item st.1 st.2.1 (x := items[i]) (by simp [hi]) fun h' hit' hs' => ?_
    obtain ⟨hh, o1, vs1, h1, d1, c1⟩ := st.2.2
    exact hQ _ h' s.toks (by simp [hi]) ⟨hit', st.2.1.extBut hs'.extBut hne, hh, o1, vs1, hs'.extBut _ _ hx h1, d1, c1⟩ fun b o hb e => hs'.extBut b o (fun h => hb (by simp [h])) e
  done := fun s Q E st hQ => list_end_hot st.2.2 hx st.1 st.2.1 (by simp) fun h' he' => hQ h' s.toks fun b o hb e => he' b o (fun h => hb (by simp [h])) e
  self := fun _ _ _ _ st hQ => wpAny_pyIter_listiter st.1 hQ
end
/-- any(list) within an except suite -/
theorem cr_anyH {X : Cx} {a : Addr} {oe : Obj} {pn : List (Addr × Obj)} {cls : Value} {d : Option Addr} (hz : L2N.Zn cls d oe) (hf : ∃ vs, oe.data = .fields vs) : CallR (X.suite a ((a, oe) :: pn)) (.builtin "any") (rAny X.K) := by
  intro pins s σ H vs us Q I r h
  obtain ⟨l, bs, rfl, hs, q⟩ := h
  obtain ⟨its, rv, hl, _⟩ := I.list hs
  rw [Vals.ref1 r]
  have hb := rv.bls
  obtain ⟨hget, hfree⟩ := I.pin (a, oe) (List.mem_append.mpr (.inl List.mem_cons_self))
  obtain ⟨vs1, hv⟩ := hf
  refine call_any_walk (iter_any hl.isList fun s₂ e2 st hne => ?_)
  subst e2
  have hot : HotAt (X.suite a ((a, oe) :: pn)).A.in1 a (s.heap.push { cls := .type "list_iterator", data := .fields #[.ref l, .int 0 0] }) := ⟨rfl, oe, vs1, Heap.get?_push_of_some _ hget, hv, hz.2.2 vs1 hv⟩
  refine ⟨_, _, _, _, _, _, _, rfl, walks_listH (A := (X.suite a ((a, oe) :: pn)).A.in1) (x1 := a) hne (Nat.ne_of_lt (Heap.lt_size hget)) its.toArray, ⟨st.1, st.2, hot⟩, truth_bools hb, fun h' tk hk => ?_⟩
  refine ⟨.bl _, H, I.kept fun b o eo => hk b o (fun hmem => ?_) (Heap.get?_push_of_some _ eo), ?_, q⟩
  · rcases List.mem_cons.mp hmem with e1 | hmem
    · exact absurd (e1 ▸ Heap.lt_size eo) (Nat.lt_irrefl _)
    · cases hmem
  · show Value.bool _ = Value.bool _
    rw [← L2.any_range, hb, List.size_toArray, List.length_map]
theorem takes0N {X : Cx} : L2N.Takes X (fun _ _ _ _ => False) := fun _ _ x => by
  obtain ⟨_, _, _, _, _, _, _, _, _, _, _, _, _, _, _, _, z⟩ := x
  exact z.elim
section
variable {P : Program} {w : World} {K : PySem.W.Frag} {mg : Str → Option Value} {base : Heap}
/-- a def that may raise -/
theorem okN {x qual : Str} {st : Stmt} {f : Addr} {fd : FuncData} {N ps : List Str} {k : Nat} {sp : Sp} (F : Fun K x qual st f fd) (S : FnScope N ps (defScope st)) (len : ∀ vs H Q E, sp vs H Q E → vs.length = ps.length)
    (hbody : ∀ (cdv : Value) (A : Around) (outer : List Env) (s : Shared) (H : Hp) (vs : List V) (Q : VK) (E : XK), Room k (A.deeper (envOfC qual (defScope st) s.heap.objs.size f cdv)) → sp vs H Q E →
      ∃ t, PSs (cxOf (L2N.CX P w) P w K mg base N qual (defScope st) f cdv A outer s H E) (defBody st) t ∧ t { nx := fun _ H' => Q .non H', rt := Q } (start N vs) H) : FnOk P w K mg base (L2N.CX P w) (k + 1) f fd ps sp := by
  obtain ⟨oc, od, kV, doc, pm, an, cdv, ct, osl, rfl, lk, hcd⟩ := F.ex
  exact fn_of lk hcd S len fun A outer s H vs Q E hr hsp => hbody cdv A outer s H vs Q E hr hsp
end
section
variable {X : Cx} {x : Str} {p pos : Pos} {e : Expr} {es : List Expr} {t : TA} {sp : Sp} {k : Nat} {ps : List Str}
/-- a call of such a def in a try -/
theorem pe_cS {E : L2.St → XK} (C : Cal X.prog X.w X.K X.mg X.base (L2N.CX X.prog X.w) x k ps sp) (hr : Room k X.A) (hx : ∀ σ, PassesAt (L2N.CX X.prog X.w) X σ (E σ)) (ha : PA X (e :: es) t) (hg : Gl X x := by rfl) (hdb : (x == ("__debug__" : Str)) = false := by decide)
    (he : starEach (e :: es) X.env = (false, eval e X.env) :: starEach es X.env := by rfl) (hpl : (backTo pos (starEach es X.env)).any (·.1) = false := by rfl) :
    PE X (.Call (.Name x p) (e :: es) [] pos) (tCallS sp E t) := by
  obtain ⟨f, fd, F, g, kp, b⟩ := C.ex
  exact pe_callS F hr hg g kp b hx ha hdb he hpl
end
/-- what the top's own exception classes are -/
structure ExcF (K : PySem.W.Frag) (a : Addr) : Prop where
  exc : PySem.W.excIn K a [.type "ValueError", .type "Exception", .type "BaseException", .type "object"] "ValueError.__new__" = true
  sb : PySem.W.subIn K (.ref a) (.type "BaseException") = some true
  ty : PySem.W.typeIn K (.ref a) = some (.type "type")
  ic : PySem.W.isClsIn K a = true
end Pw
namespace Pw
open PySem PySem.Spec PyProof.Rows L2 Evl
/-- try: f(..), the call lets an exception out or comes back -/
theorem q_tryc {σ : L2.St} {H : Hp} {D : Ends} {tz : TS} {sp : Sp} {tA : TA} {vs : List V} {W : Ends → WX} (h : EvA tA σ H vs) (k : ∀ H1, Ex H H1 → sp vs H1 (fun _ H2 => tz D σ H2) (WE (W { D with nx := tz D }) σ)) :
    tSeq (fun D σ H => tDrop (tCallS sp (WE (W D)) tA) D σ H) tz D σ H := h H (Ex.refl H) _ fun H1 e1 => k H1 e1
end Pw
namespace Pw
open PySem PySem.Spec PyProof.Rows L2 Evl
theorem vals_abs {ns : List Int} : ∀ {its : List Value}, its.map absV = (ns.map fun i => some (V.int i)) → Vals (ns.map V.int) its := by
  induction ns with
  | nil =>
    intro its h
    cases its with
    | nil => exact .nil
    | cons u r => cases h
  | cons n r ih =>
    intro its h
    cases its with
    | nil => cases h
    | cons u t =>
      have h1 : absV u = some (V.int n) := (List.cons.inj h).1
      have h2 : t.map absV = r.map fun i => some (V.int i) := (List.cons.inj h).2
      refine .cons ?_ (ih h2)
      cases u <;> cases h1
      exact ⟨_, rfl⟩
/-- a tuple of ints of the written part -/
theorem sqt_ints {K : PySem.W.Frag} {a : Addr} {dd : Option Addr} {its : Array Value} {n : Nat} {sl : Array (Option Value)} {ns : List Int} (h : K.lookup a = some ⟨.type "tuple", dd, .seq its n, sl⟩) (hz : its.size ≤ sizeLine) (e : its.toList.map absV = ns.map fun i => some (V.int i)) (H : Hp) :
    SqT K H a (ns.map V.int) := .inr ⟨_, its, n, h, rfl, rfl, hz, vals_abs e⟩
/-- isinstance of an error: another class -/
theorem kit_other {K : PySem.W.Frag} {D C : Addr} (h1 : PySem.W.isClsIn K C = true) (h2 : PySem.W.typeIn K (.ref C) = some (.type "type")) (h3 : PySem.W.subIn K (.ref D) (.ref C) = some false) (h0 : PySem.W.subIn K (.ref D) (.ref D) = some true) : PySem.W.kitOne K (.ref D) (.ref C) = some false :=
  kit_own h1 h2 h3 fun e => by
    subst e
    rw [h0] at h3
    cases h3
theorem kit_self {K : PySem.W.Frag} {D : Addr} (h1 : PySem.W.isClsIn K D = true) (h2 : PySem.W.typeIn K (.ref D) = some (.type "type")) (h3 : PySem.W.subIn K (.ref D) (.ref D) = some true) : PySem.W.kitOne K (.ref D) (.ref D) = some true := kit_own h1 h2 h3 fun _ => rfl
end Pw

namespace Pw
open PySem PySem.Spec PyProof.Rows L2 Evl
section
variable {K : PySem.W.Frag} {σ : L2.St} {H H' : Hp} {ta tb tc te te2 : TE} {t u : TT} {x y z v : V} {r r' : R2} {D : Ends} {tz tu : TS}
/-- x = f(..), by the promise itself -/
theorem q_asgC {i : Nat} {sp : Sp} {E : XK} {tA : TA} {vs : List V} (h : EvA tA σ H vs) (k : ∀ H1, Ex H H1 → sp (vs ++ []) H1 (fun v H2 => tz D (σ.set i (some v)) H2) E) : tSeq (tAsg (tCall sp [] E tA) (gName i)) tz D σ H := h H (Ex.refl H) _ fun H1 e1 => k H1 e1
/-- a new list of what isn't known ahead -/
def EvLP (te : TE) (σ : L2.St) (H : Hp) (R : List V → Hp → Prop) : Prop := ∀ H1, Ex H H1 → ∀ Q : VK, (∀ xs p H2, H1 p = none → Ex H1 H2 → H2 p = some (.lst xs) → R xs H2 → Q (.ref p) H2) → te σ H1 Q
theorem elp_lst {tA : TA} {P : List V → Hp → Prop} (h : EvAP tA σ H P) (hl : ∀ vs H1, P vs H1 → vs.length ≤ 100000) : EvLP (tLst tA) σ H (fun xs H3 => ∃ H2, Ex H2 H3 ∧ P xs H2) := fun H1 e Q q =>
  h H1 e _ fun vs H2 e2 hP => ⟨sz_of (hl vs H2 hP), fun p hp => q vs p _ (fresh_back e2 hp) (e2.trans (Ex.new hp)) upd_same ⟨H2, Ex.new hp, hP⟩⟩
theorem q_forLP {tl : TE} {R : List V → Hp → Prop} {j : Nat} (h : EvLP tl σ H R) (Pv : List V → Addr → Nat → L2.St → Hp → Prop) (h0 : ∀ xs p H1, H p = none → Ex H H1 → H1 p = some (.lst xs) → R xs H1 → Pv xs p 0 σ H1) (hl : ∀ xs p i σ' H', i ≤ xs.length → Pv xs p i σ' H' → SqL K H' p xs)
    (hs : ∀ xs p i x σ' H', xs[i]? = some x → Pv xs p i σ' H' → tu { D with nx := Pv xs p (i + 1), ct := Pv xs p (i + 1), bk := tz D } (σ'.set j (some x)) H') (hd : ∀ xs p σ' H', Pv xs p xs.length σ' H' → tz D σ' H') : tSeq (tFor (iList K tl) (gName j) tu) tz D σ H :=
  h H (Ex.refl H) _ fun xs p H1 hp e h1 hR => ⟨p, rfl, ⟨xs, sq_of h1⟩, for_list (D := { D with nx := tz D }) (Pv xs p) (h0 xs p H1 hp e h1 hR) (hl xs p) (hs xs p) (hd xs p)⟩
/-- a new list as an argument, its address unknown to the rest -/
theorem eap_consP {tr : TA} {P : List V → Hp → Prop} {R : List V → Hp → Prop} (h : EvLP te σ H R) (hr : EvAP tr σ H P) : EvAP (tCons te tr) σ H (fun vs H2 => ∃ p xs r H3, vs = .ref p :: r ∧ H2 p = some (.lst xs) ∧ H p = none ∧ Ex H3 H2 ∧ R xs H3 ∧ P r H2) := fun H1 e Q q =>
  h H1 e _ fun xs p H2 n2 e2 hp hR => hr H2 (e.trans e2) _ fun vs H3 e3 hP => q _ H3 (e2.trans e3) ⟨p, xs, vs, H2, rfl, e3 p _ hp, fresh_back e n2, e3, hR, hP⟩
/-- [e for x in range(lo, n)] -/
theorem el_mapR2 {tA : TA} {j : Nat} {vs : List Nat} {lo n : Int} (v : Nat → V) (h : EvA tA σ H [.int lo, .int n]) (hn : 0 ≤ lo ∧ lo ≤ 40000 ∧ -40000 ≤ n ∧ n ≤ 40000) (hw : ∀ x, wipe ((wipe σ vs).set j (some x)) vs = wipe σ vs)
    (he : ∀ (i : Nat) H1, Ex H H1 → lo + (i : Int) < n → Ev te ((wipe σ vs).set j (some (.int (lo + (i : Int))))) H1 (v i)) : EvL (tLc (iRng2 tA) (gName j) tYes te vs) σ H ((List.range (n - lo).toNat).map v) := by
  refine el_is (xs := given (n - lo).toNat (fun _ => true) v) (fun H0 e Q q => h H0 e _ fun H1 e1 => ⟨lo, n, rfl, ⟨by omega, by omega, by omega, by omega⟩, fun Dl hD => ?_⟩) given_all
  exact lc_range (lo := lo) (n := (n - lo).toNat) (Cw H1 (fun _ => true) v Dl) ⟨hD, Ex.new hD, upd_same⟩ (fun i H' hi p => ⟨hw _, cw_turn p (by omega) et_yes fun _ => he i H1 (e.trans e1) (by omega)⟩) (fun H' p => q Dl H' (fresh_back e1 p.1) (e1.trans p.2.1) p.2.2)
/-- any(list) behind a comprehension; a call upon an argument that is a call -/
theorem ev_cbP {r : List V → Hp → VK → Prop} {tA : TA} {P : List V → Hp → Prop} (h : EvAP tA σ H P) (hr : ∀ vs H1, Ex H H1 → P vs H1 → RC r vs H1 z) : Ev (tCB r tA) σ H z := fun H1 e Q q =>
  h H1 e _ fun vs H2 e2 hP => hr vs H2 (e.trans e2) hP H2 (Ex.refl H2) Q fun H3 e3 => q H3 (e2.trans e3)
end
end Pw
namespace Pw
open PySem PySem.Spec PyProof.Rows L2 Evl
section
variable {K : PySem.W.Frag} {σ : L2.St} {H H' : Hp} {ta tb tc te te2 : TE} {x y z v : V}
theorem el_catR {a : Addr} {xs ys : List V} (ha : Ev ta σ H (.ref a)) (h1 : H a = some (.lst xs)) (hb : EvL tb σ H ys) (hz : xs.length + ys.length ≤ 100000) : EvL (tOp rCat ta tb) σ H (xs ++ ys) := fun H1 e Q q =>
  ha H1 e _ fun H2 e2 => hb H2 (e.trans e2) _ fun b H3 n3 e3 h2 => ⟨a, b, xs, ys, rfl, rfl, ((e.trans e2).trans e3) a _ h1, h2, sz_of hz, fun p hp => q p _ (fresh_back (e2.trans e3) hp) ((e2.trans e3).trans (Ex.new hp)) upd_same⟩
theorem in_ints {x : Int} {xs : List Int} : inV (.int x) (xs.map V.int) = decide (x ∈ xs) := by
  unfold inV
  rw [List.any_map, Bool.eq_iff_iff, List.any_eq_true, decide_eq_true_eq]
  constructor
  · rintro ⟨y, hy, e⟩
    have e : (y == x) = true := e
    rw [beq_iff_eq.mp e] at hy
    exact hy
  · exact fun h => ⟨x, h, show (x == x) = true from beq_self_eq_true x⟩
theorem flat_ints (xs : List Int) : (xs.map V.int).all flatV = true := by
  rw [List.all_map, List.all_eq_true]
  exact fun _ _ => rfl
end
end Pw
namespace Pw
open PySem PySem.Spec PyProof.Rows L2 Evl
theorem sum_bits {m : Nat} : ∀ l : List Int, (∀ z ∈ l, Builtin.Int.intBits z ≤ m) → Builtin.Int.intBits l.sum ≤ m + l.length
  | [], _ => by
    rw [show ([] : List Int).sum = 0 from rfl, show Builtin.Int.intBits 0 = 0 by decide +kernel]
    exact Nat.zero_le _
  | x :: r, h => by
    have h1 := h x List.mem_cons_self
    have h2 := sum_bits r fun z hz => h z (List.mem_cons_of_mem _ hz)
    have h3 := intBits_add_le h1 h2
    rw [List.sum_cons, List.length_cons]
    omega
theorem abs_bits {x : Int} {m : Nat} (h : Builtin.Int.intBits x ≤ m) : Builtin.Int.intBits (absI x) ≤ m := by
  unfold absI
  split
  · exact intBits_neg_le h
  · exact h
theorem lwhole_bits {ns : List Int} (h : ∀ z ∈ ns, Builtin.Int.intBits z ≤ 1048576) : Builtin.Int.intBits (lwhole ns) ≤ 1048640 := by
  refine abs_bits (Nat.le_trans (sum_bits (ns.take 63) fun z hz => h z (List.mem_of_mem_take hz)) ?_)
  rw [List.length_take]
  omega
end Pw
namespace Pw
open PySem PySem.Spec PyProof.Rows L2 Evl
section
variable {K : PySem.W.Frag} {σ : L2.St} {H H' : Hp} {ta tb tc te te2 : TE} {x y z v : V} {D : Ends} {tz tu : TS}
/-- for i in reversed(range(n)) -/
theorem q_forRev {j : Nat} {n : Nat} (h : Ev te σ H (.int (n : Int))) (hn : n ≤ 100000) (Pv : Nat → L2.St → Hp → Prop) (h0 : ∀ H1, Ex H H1 → Pv 0 σ H1)
    (hs : ∀ (i : Nat) σ' H', i < n → Pv i σ' H' → tu { D with nx := Pv (i + 1), ct := Pv (i + 1), bk := tz D } (σ'.set j (some (.int ((n - 1 - i : Nat) : Int)))) H') (hd : ∀ σ' H', Pv n σ' H' → tz D σ' H') : tSeq (tFor (iRevR (tRg1 te)) (gName j) tu) tz D σ H :=
  h H (Ex.refl H) _ fun H1 e => ⟨(n : Int), rfl, by omega, by omega, by omega, by omega, by
    have e1 : ((n : Int) - 0).toNat = n := by omega
    rw [e1]
    refine for_rangeC (D := { D with nx := tz D }) (lo := 0 + (n : Int) - 1) (c := -1) (n := n) Pv (h0 H1 e) (fun i σ' H' hi p => ?_) hd
    have e2 : 0 + (n : Int) - 1 + ((i : Nat) : Int) * -1 = ((n - 1 - i : Nat) : Int) := by omega
    rw [e2]
    exact hs i σ' H' hi p⟩
/-- x[i] = e, x a name; what follows -/
theorem call_min3 {X : Cx} (hc : X.calm = true) : CallR X (.builtin "min") (fun xs H Q => ∃ i j k : Int, xs = [.int i, .int j, .int k] ∧ Q (.int (if j < i then (if k < j then k else j) else (if k < i then k else i))) H) := by
  intro pins s σ H xs us Q I r h
  obtain ⟨i, j, k, rfl, q⟩ := h
  cases r with
  | cons r1 r =>
    cases r with
    | cons r2 r =>
      cases r with
      | cons r3 r =>
        cases r
        obtain ⟨t1, rfl⟩ := r1
        obtain ⟨t2, rfl⟩ := r2
        obtain ⟨t3, rfl⟩ := r3
        refine min_three_ints (I.ok.hd hc) fun h' tk kk => ⟨_, H, I.kept kk, ?_, q⟩
        by_cases h1 : j < i
        · rw [if_pos h1, if_pos h1]
          by_cases h2 : k < j
          · rw [if_pos h2, if_pos h2]; exact ⟨_, rfl⟩
          · rw [if_neg h2, if_neg h2]; exact ⟨_, rfl⟩
        · rw [if_neg h1, if_neg h1]
          by_cases h2 : k < i
          · rw [if_pos h2, if_pos h2]; exact ⟨_, rfl⟩
          · rw [if_neg h2, if_neg h2]; exact ⟨_, rfl⟩
theorem min3_if {a b c : Nat} : (if (b : Int) < (a : Int) then (if (c : Int) < (b : Int) then (c : Int) else (b : Int)) else (if (c : Int) < (a : Int) then (c : Int) else (a : Int))) = ((min a (min b c) : Nat) : Int) := by
  split <;> split <;> omega
theorem rc_min3 {a b c : Nat} : RC (fun vs H Q => ∃ i j k : Int, vs = [V.int i, V.int j, V.int k] ∧ Q (.int (if j < i then (if k < j then k else j) else (if k < i then k else i))) H) [.int (a : Int), .int (b : Int), .int (c : Int)] H (.int ((min a (min b c) : Nat) : Int)) := fun H1 _ _ q => ⟨_, _, _, rfl, by
  rw [min3_if]
  exact q H1 (Ex.refl H1)⟩
end
end Pw

namespace Pw
open PySem PySem.Spec PyProof.Rows L2 Evl
section
variable {K : PySem.W.Frag} {σ : L2.St} {H H' : Hp} {ta tb tc te te2 : TE} {t u : TT} {x y z v : V} {r r' : R2} {D : Ends} {tz tu : TS} {wi : TI} {g : TG} {n : Nat} {Y : Nat → Hp → V → Hp → Prop}
/-! ### what is walked, of any kind -/
def EvI (wi : TI) (σ : L2.St) (H : Hp) (n : Nat) (Y : Nat → Hp → V → Hp → Prop) : Prop := ∀ H1, Ex H H1 → ∀ R : It → Hp → Prop, (∀ J G H2, Walk J n G Y → (∀ H3, Ex H2 H3 → G H3) → Ex H1 H2 → R J H2) → wi σ H1 R
/-- the same, what it leans on being told -/
def EvG (wi : TI) (σ : L2.St) (H : Hp) (n : Nat) (G : Hp → Prop) (Y : Nat → Hp → V → Hp → Prop) : Prop := ∀ H1, Ex H H1 → ∀ R : It → Hp → Prop, (∀ J H2, Walk J n G Y → Ex H1 H2 → R J H2) → wi σ H1 R
/-- over a new list of xs -/
def EvN (wi : TI) (σ : L2.St) (H : Hp) (xs : List V) (n : Nat) (Y : Nat → Hp → V → Hp → Prop) : Prop := ∀ H1, Ex H H1 → ∀ R : It → Hp → Prop, (∀ p J H2, H1 p = none → H2 p = some (.lst xs) → Walk J n (fun H => SqL K H p xs) Y → Ex H1 H2 → R J H2) → wi σ H1 R
theorem EvG.i {G : Hp → Prop} (h : EvG wi σ H n G Y) (hG : ∀ H1, Ex H H1 → G H1) : EvI wi σ H n Y := fun H1 e R q => h H1 e R fun J H2 w e2 => q J G H2 w (fun H3 e3 => hG H3 ((e.trans e2).trans e3)) e2
theorem EvN.i {xs : List V} (h : EvN (K := K) wi σ H xs n Y) : EvI wi σ H n Y := fun H1 e R q => h H1 e R fun p J H2 np hp w e2 => q J _ H2 w (fun H3 e3 => sq_of (e3 p _ hp)) e2
theorem eg_list {a : Addr} {xs : List V} (h : Ev te σ H (.ref a)) (hx : SqL K H a xs) : EvG (iList K te) σ H xs.length (fun H => SqL K H a xs) (YAt xs) := fun H1 e R q => h H1 e _ fun H2 e2 => ⟨a, rfl, ⟨xs, ex_l (e.trans e2) hx⟩, q _ H2 walk_list e2⟩
theorem en_list {xs : List V} (h : EvL te σ H xs) : EvN (K := K) (iList K te) σ H xs xs.length (YAt xs) := fun H1 e R q => h H1 e _ fun p H2 np e2 hp => ⟨p, rfl, ⟨xs, sq_of hp⟩, q p _ H2 np hp walk_list e2⟩
theorem eg_tup {a : Addr} {xs : List V} (h : Ev te σ H (.ref a)) (hx : SqT K H a xs) : EvG (iTup K te) σ H xs.length (fun H => SqT K H a xs) (YAt xs) := fun H1 e R q => h H1 e _ fun H2 e2 => ⟨a, rfl, ⟨xs, ex_t (e.trans e2) hx⟩, q _ H2 walk_tup e2⟩
theorem eg_enum {a : Addr} {xs : List V} {tA : TA} (h : EvA tA σ H [.ref a]) (hx : SqL K H a xs) : EvG (iEnum K tA) σ H xs.length (fun H => SqL K H a xs) (YPair (fun i => some (.int (i : Nat))) (fun i => xs[i]?)) := fun H1 e R q => h H1 e _ fun H2 e2 => ⟨a, xs, rfl, ex_l (e.trans e2) hx, q _ H2 walk_enum e2⟩
theorem en_enum {xs : List V} (h : EvL te σ H xs) : EvN (K := K) (iEnum K (tCons te tNil)) σ H xs xs.length (YPair (fun i => some (.int (i : Nat))) (fun i => xs[i]?)) := fun H1 e R q => h H1 e _ fun p H2 np e2 hp => ⟨p, xs, rfl, sq_of hp, q p _ H2 np hp walk_enum e2⟩
theorem eg_zip {a b : Addr} {xs ys : List V} {tA : TA} (h : EvA tA σ H [.ref a, .ref b]) (hx : SqL K H a xs) (hy : SqL K H b ys) : EvG (iZip K tA) σ H (min xs.length ys.length) (fun H => SqL K H a xs ∧ SqL K H b ys) (YPair (fun i => xs[i]?) (fun i => ys[i]?)) :=
  fun H1 e R q => h H1 e _ fun H2 e2 => ⟨a, b, xs, ys, rfl, ex_l (e.trans e2) hx, ex_l (e.trans e2) hy, q _ H2 (walk_zip rfl) e2⟩
theorem ei_zip {a b : Addr} {xs ys : List V} {tA : TA} (h : EvA tA σ H [.ref a, .ref b]) (hx : SqL K H a xs) (hy : SqL K H b ys) : EvI (iZip K tA) σ H (min xs.length ys.length) (YPair (fun i => xs[i]?) (fun i => ys[i]?)) :=
  (eg_zip h hx hy).i fun H1 e => ⟨ex_l e hx, ex_l e hy⟩
/-- zip of what may be new -/
theorem ei_zipP {xs ys : List V} {tA : TA} {P : List V → Hp → Prop} (h : EvAP tA σ H P) (hP : ∀ vs H1, Ex H H1 → P vs H1 → ∃ a b, vs = [.ref a, .ref b] ∧ ∀ H2, Ex H1 H2 → SqL K H2 a xs ∧ SqL K H2 b ys) : EvI (iZip K tA) σ H (min xs.length ys.length) (YPair (fun i => xs[i]?) (fun i => ys[i]?)) := fun H1 e R q => h H1 e _ fun vs H2 e2 hp => by
  obtain ⟨a, b, rfl, h1⟩ := hP vs H2 (e.trans e2) hp
  exact ⟨a, b, xs, ys, rfl, (h1 H2 (Ex.refl _)).1, (h1 H2 (Ex.refl _)).2, q _ _ H2 (walk_zip rfl) h1 e2⟩
/-! ### comprehensions over it -/
theorem el_comp {vs : List Nat} (f : Nat → Bool) (v : Nat → V) (h : EvI wi σ H n Y) (hn : n ≤ 40000)
    (ht : ∀ i x H1 H2, Ex H H1 → i < n → Y i H1 x H2 → g x (wipe σ vs) H2 fun σ2 H3 => Ex H1 H3 ∧ wipe σ2 vs = wipe σ vs ∧ EvT t σ2 H (f i) ∧ (f i = true → Ev te σ2 H (v i)))
    (gm : ∀ x σ H Q Q', (∀ σ2 H2, Q σ2 H2 → Q' σ2 H2) → g x σ H Q → g x σ H Q') : EvL (tLc wi g t te vs) σ H (given n f v) := fun H0 e Q q => h H0 e _ fun J G H1 w hG e1 Dl hD =>
  lc_it w (Cw H1 f v Dl) ⟨hD, Ex.new hD, upd_same⟩ (fun i H' _ p => hG H' p.2.1) (fun i x H2 H3 hi p y => by
    refine gm _ _ _ _ _ (fun σ2 H4 z => ?_) (ht i x H2 H3 ((e.trans e1).trans p.2.1) hi y)
    obtain ⟨e4, z1, z2, z3⟩ := z
    have p' : Cw H1 f v Dl i H4 := ⟨p.1, p.2.1.trans e4, e4 _ _ p.2.2⟩
    exact ⟨z1, cw_turn p' (by omega) (z2.mono (e.trans e1)) fun hf => (z3 hf).mono (e.trans e1)⟩) (fun H' p => q Dl H' (fresh_back e1 p.1) (e1.trans p.2.1) p.2.2)
theorem gm_name {i : Nat} : ∀ x σ H (Q Q' : L2.St → Hp → Prop), (∀ σ2 H2, Q σ2 H2 → Q' σ2 H2) → gName i x σ H Q → gName i x σ H Q' := fun _ _ _ _ _ q h => q _ _ h
theorem gm_tup2 {i j : Nat} : ∀ x σ H (Q Q' : L2.St → Hp → Prop), (∀ σ2 H2, Q σ2 H2 → Q' σ2 H2) → gTup K 2 (gCons (gName i) (gCons (gName j) gNil)) x σ H Q → gTup K 2 (gCons (gName i) (gCons (gName j) gNil)) x σ H Q' := fun _ _ _ _ _ q h => by
  obtain ⟨a, xs, e, h1, h2, v, r, h3, v2, r2, h4, h5, h6⟩ := h
  exact ⟨a, xs, e, h1, h2, v, r, h3, v2, r2, h4, h5, q _ _ h6⟩
theorem gm_tup3 {i j l : Nat} : ∀ x σ H (Q Q' : L2.St → Hp → Prop), (∀ σ2 H2, Q σ2 H2 → Q' σ2 H2) → gTup K 3 (gCons (gName i) (gCons (gName j) (gCons (gName l) gNil))) x σ H Q → gTup K 3 (gCons (gName i) (gCons (gName j) (gCons (gName l) gNil))) x σ H Q' := fun _ _ _ _ _ q h => by
  obtain ⟨a, xs, e, h1, h2, v, r, h3, v2, r2, h4, v3, r3, h5, h6, h7⟩ := h
  exact ⟨a, xs, e, h1, h2, v, r, h3, v2, r2, h4, v3, r3, h5, h6, q _ _ h7⟩
/-! ### tuples taken apart -/
theorem g_tup2 {a : Addr} {i j : Nat} {Q : L2.St → Hp → Prop} (h : SqT K H a [x, y]) (k : Q ((σ.set i (some x)).set j (some y)) H) : gTup K 2 (gCons (gName i) (gCons (gName j) gNil)) (.ref a) σ H Q := ⟨a, _, rfl, h, rfl, x, _, rfl, y, _, rfl, rfl, k⟩
theorem g_tup3 {a : Addr} {i j l : Nat} {Q : L2.St → Hp → Prop} (h : SqT K H a [x, y, z]) (k : Q (((σ.set i (some x)).set j (some y)).set l (some z)) H) : gTup K 3 (gCons (gName i) (gCons (gName j) (gCons (gName l) gNil))) (.ref a) σ H Q :=
  ⟨a, _, rfl, h, rfl, x, _, rfl, y, _, rfl, z, _, rfl, rfl, k⟩
theorem q_unp2 {a : Addr} {i j : Nat} (h : Ev te σ H (.ref a)) (hx : SqT K H a [x, y]) (k : ∀ H1, Ex H H1 → tz D ((σ.set i (some x)).set j (some y)) H1) : tSeq (tAsg te (gTup K 2 (gCons (gName i) (gCons (gName j) gNil)))) tz D σ H := h H (Ex.refl H) _ fun H1 e => g_tup2 (ex_t e hx) (k H1 e)
theorem q_unp3 {a : Addr} {i j l : Nat} (h : Ev te σ H (.ref a)) (hx : SqT K H a [x, y, z]) (k : ∀ H1, Ex H H1 → tz D (((σ.set i (some x)).set j (some y)).set l (some z)) H1) : tSeq (tAsg te (gTup K 3 (gCons (gName i) (gCons (gName j) (gCons (gName l) gNil))))) tz D σ H :=
  h H (Ex.refl H) _ fun H1 e => g_tup3 (ex_t e hx) (k H1 e)
/-- [e for i, x in enumerate(xs) if ..] -/
theorem el_pair {vs : List Nat} {i j : Nat} {f1 f2 : Nat → Option V} (f : Nat → Bool) (v : Nat → V) (h : EvI wi σ H n (YPair f1 f2)) (hn : n ≤ 40000) (hw : ∀ x y, wipe (((wipe σ vs).set i (some x)).set j (some y)) vs = wipe σ vs)
    (ht : ∀ m x y, m < n → f1 m = some x → f2 m = some y → EvT t (((wipe σ vs).set i (some x)).set j (some y)) H (f m) ∧ (f m = true → Ev te (((wipe σ vs).set i (some x)).set j (some y)) H (v m))) :
    EvL (tLc wi (gTup K 2 (gCons (gName i) (gCons (gName j) gNil))) t te vs) σ H (given n f v) :=
  el_comp f v h hn (fun m x H1 H2 e hm y => by
    obtain ⟨T, x1, x2, rfl, nT, rfl, h1, h2⟩ := y
    have z := ht m x1 x2 hm h1 h2
    exact g_tup2 (st_of upd_same) ⟨Ex.new nT, hw _ _, z.1, z.2⟩) gm_tup2
/-- over a list or tuple, by a name -/
theorem el_one {vs : List Nat} {j : Nat} {xs : List V} (f : Nat → Bool) (v : Nat → V) (h : EvI wi σ H xs.length (YAt xs)) (hn : xs.length ≤ 40000) (hw : ∀ x, wipe ((wipe σ vs).set j (some x)) vs = wipe σ vs)
    (ht : ∀ m x, xs[m]? = some x → EvT t ((wipe σ vs).set j (some x)) H (f m) ∧ (f m = true → Ev te ((wipe σ vs).set j (some x)) H (v m))) :
    EvL (tLc wi (gName j) t te vs) σ H (given xs.length f v) :=
  el_comp f v h hn (fun m x H1 H2 e hm y => by
    obtain ⟨rfl, h1⟩ := y
    have z := ht m x h1
    exact ⟨Ex.refl _, hw _, z.1, z.2⟩) gm_name
/-- over a list of tuples of three -/
theorem el_trip {vs : List Nat} {i j l : Nat} {xs : List V} (f : Nat → Bool) (v : Nat → V) (h : EvI wi σ H xs.length (YAt xs)) (hn : xs.length ≤ 40000) (hw : ∀ x y z, wipe ((((wipe σ vs).set i (some x)).set j (some y)).set l (some z)) vs = wipe σ vs)
    (ht : ∀ m w, xs[m]? = some w → ∃ a x y z, w = .ref a ∧ SqT K H a [x, y, z] ∧ EvT t ((((wipe σ vs).set i (some x)).set j (some y)).set l (some z)) H (f m) ∧ (f m = true → Ev te ((((wipe σ vs).set i (some x)).set j (some y)).set l (some z)) H (v m))) :
    EvL (tLc wi (gTup K 3 (gCons (gName i) (gCons (gName j) (gCons (gName l) gNil)))) t te vs) σ H (given xs.length f v) :=
  el_comp f v h hn (fun m x H1 H2 e hm y => by
    obtain ⟨rfl, h1⟩ := y
    obtain ⟨a, x, y, z, rfl, ha, z1, z2⟩ := ht m x h1
    exact g_tup3 (ex_t e ha) ⟨Ex.refl _, hw _ _ _, z1, z2⟩) gm_tup3
/-! ### for, over it -/
theorem s_forG {G : Hp → Prop} (h : EvG wi σ H n G Y) (Pv : Nat → L2.St → Hp → Prop) (h0 : ∀ H1, Ex H H1 → Pv 0 σ H1) (hG : ∀ i σ' H', i ≤ n → Pv i σ' H' → G H')
    (hs : ∀ i x σ' H' H2, i < n → Pv i σ' H' → Y i H' x H2 → g x σ' H2 fun σ2 H2 => tu { D with nx := Pv (i + 1), ct := Pv (i + 1), bk := D.nx } σ2 H2) (hd : ∀ σ' H', Pv n σ' H' → D.nx σ' H') : tFor wi g tu D σ H :=
  h H (Ex.refl H) _ fun J H1 w e => for_it w Pv (h0 H1 e) hG hs hd
theorem q_forG {G : Hp → Prop} (h : EvG wi σ H n G Y) (Pv : Nat → L2.St → Hp → Prop) (h0 : ∀ H1, Ex H H1 → Pv 0 σ H1) (hG : ∀ i σ' H', i ≤ n → Pv i σ' H' → G H')
    (hs : ∀ i x σ' H' H2, i < n → Pv i σ' H' → Y i H' x H2 → g x σ' H2 fun σ2 H2 => tu { D with nx := Pv (i + 1), ct := Pv (i + 1), bk := tz D } σ2 H2) (hd : ∀ σ' H', Pv n σ' H' → tz D σ' H') : tSeq (tFor wi g tu) tz D σ H := s_forG (D := { D with nx := tz D }) h Pv h0 hG hs hd
theorem s_forN {xs : List V} (h : EvN (K := K) wi σ H xs n Y) (Pv : Addr → Nat → L2.St → Hp → Prop) (h0 : ∀ p H1, H p = none → Ex H H1 → H1 p = some (.lst xs) → Pv p 0 σ H1) (hG : ∀ p i σ' H', i ≤ n → Pv p i σ' H' → SqL K H' p xs)
    (hs : ∀ p i x σ' H' H2, i < n → Pv p i σ' H' → Y i H' x H2 → g x σ' H2 fun σ2 H2 => tu { D with nx := Pv p (i + 1), ct := Pv p (i + 1), bk := D.nx } σ2 H2) (hd : ∀ p σ' H', Pv p n σ' H' → D.nx σ' H') : tFor wi g tu D σ H :=
  h H (Ex.refl H) _ fun p J H1 np hp w e => for_it w (Pv p) (h0 p H1 np e hp) (hG p) (hs p) (hd p)
theorem q_forN {xs : List V} (h : EvN (K := K) wi σ H xs n Y) (Pv : Addr → Nat → L2.St → Hp → Prop) (h0 : ∀ p H1, H p = none → Ex H H1 → H1 p = some (.lst xs) → Pv p 0 σ H1) (hG : ∀ p i σ' H', i ≤ n → Pv p i σ' H' → SqL K H' p xs)
    (hs : ∀ p i x σ' H' H2, i < n → Pv p i σ' H' → Y i H' x H2 → g x σ' H2 fun σ2 H2 => tu { D with nx := Pv p (i + 1), ct := Pv p (i + 1), bk := tz D } σ2 H2) (hd : ∀ p σ' H', Pv p n σ' H' → tz D σ' H') : tSeq (tFor wi g tu) tz D σ H := s_forN (D := { D with nx := tz D }) h Pv h0 hG hs hd
/-- the turn over pairs: a, b named -/
theorem g_pair {i j m : Nat} {f1 f2 : Nat → Option V} {Q : L2.St → Hp → Prop} {H2 : Hp} (h : YPair f1 f2 m H x H2) (k : ∀ y z H3, f1 m = some y → f2 m = some z → Ex H H3 → Q ((σ.set i (some y)).set j (some z)) H3) : gTup K 2 (gCons (gName i) (gCons (gName j) gNil)) x σ H2 Q := by
  obtain ⟨T, x1, x2, rfl, nT, rfl, h1, h2⟩ := h
  exact g_tup2 (st_of upd_same) (k x1 x2 _ h1 h2 (Ex.new nT))
/-! ### items by whole numbers -/
theorem rv_atN {a : Addr} {ns : List Int} {i : Int} (h : SqL K H a (ns.map V.int)) (h0 : 0 ≤ i) (h1 : i < ns.length) : RV (rIxL K) (.ref a) (.int i) H (.int (sq ns i.toNat)) := rv_at h (by omega) (by omega)
theorem atI_last {α : Type} {xs : List α} {v : α} (h : xs[xs.length - 1]? = some v) (h0 : 0 < xs.length) : atI xs (-1) = some v := by
  unfold atI ixN
  rw [if_neg (by decide), if_pos (by omega)]
  show xs[_]? = some v
  rw [← h]
  congr 1
  omega
/-! ### data, compared -/
mutual
theorem dp_ex (e : Ex H H') : ∀ {v : V} {d : PyData}, Dp K H v d → Dp K H' v d
  | _, _, .non => .non
  | _, _, .bl b => .bl b
  | _, _, .int i => .int i
  | _, _, .str s => .str s
  | _, _, .lst h k => .lst (ex_l e h) (dpa_ex e k)
  | _, _, .tup h k => .tup (ex_t e h) (dpa_ex e k)
theorem dpa_ex (e : Ex H H') : ∀ {vs : List V} {ds : List PyData}, DpAll K H vs ds → DpAll K H' vs ds
  | _, _, .nil => .nil
  | _, _, .cons h k => .cons (dp_ex e h) (dpa_ex e k)
end
theorem eqv_self {d : PyData} (h : SeqAt.shaped d = true) : PyData.eqv d d = true := SeqAt.eqv_refl d (SeqAt.canLay_of_shaped h)
theorem rv_eqSame {d : PyData} (hx : Dp K H x d) (hy : Dp K H y d) (h : SeqAt.shaped d = true) : RV (rEqD K) x y H (.bl true) := fun H1 e Q q =>
  ⟨d, d, dp_ex e hx, dp_ex e hy, h, h, by rw [eqv_self h]; exact q H1 (Ex.refl H1)⟩
theorem rv_neSame {d : PyData} (hx : Dp K H x d) (hy : Dp K H y d) (h : SeqAt.shaped d = true) : RV (rNeD K) x y H (.bl false) := fun H1 e Q q =>
  ⟨d, d, dp_ex e hx, dp_ex e hy, h, h, by rw [eqv_self h]; exact q H1 (Ex.refl H1)⟩
theorem rv_eqDat {d e : PyData} (hx : Dp K H x d) (hy : Dp K H y e) (h : SeqAt.shaped d = true) (h2 : SeqAt.shaped e = true) : RV (rEqD K) x y H (.bl (PyData.eqv d e)) := fun H1 e Q q =>
  ⟨_, _, dp_ex e hx, dp_ex e hy, h, h2, q H1 (Ex.refl H1)⟩
theorem rv_neDat {d e : PyData} (hx : Dp K H x d) (hy : Dp K H y e) (h : SeqAt.shaped d = true) (h2 : SeqAt.shaped e = true) : RV (rNeD K) x y H (.bl (!PyData.eqv d e)) := fun H1 e Q q =>
  ⟨_, _, dp_ex e hx, dp_ex e hy, h, h2, q H1 (Ex.refl H1)⟩
theorem dp_intsL {a : Addr} {ns : List Int} (h : SqL K H a (ns.map V.int)) : Dp K H (.ref a) (.list (ns.map PyData.int)) := .lst h (dp_ints ns)
theorem dp_intsT {a : Addr} {ns : List Int} (h : SqT K H a (ns.map V.int)) : Dp K H (.ref a) (.tuple (ns.map PyData.int)) := .tup h (dp_ints ns)
/-! ### what is a tuple -/
theorem rc_isi_tup {a : Addr} {xs : List V} {c : String} {b : Bool} (ha : H a = some (.tup xs)) (hb : kitB "tuple" c = some b) : RC (rIsi K) [.ref a, .ty c] H (.bl b) := rc_isi (.base (.tup ha)) (fun _ e => .base (.tup (e a _ ha))) hb
theorem rc_lenT {a : Addr} {xs : List V} (h : SqT K H a xs) : RC (rLenS K) [.ref a] H (.int (xs.length : Int)) := fun H1 e _ q => ⟨a, xs, rfl, .inr (ex_t e h), q H1 (Ex.refl H1)⟩
end
end Pw
namespace Pw
open PySem PySem.Spec PyProof.Rows L2 Evl
section
variable {K : PySem.W.Frag} {σ : L2.St} {H H' : Hp} {t1 t2 t3 t4 : TE} {D : Ends} {tz : TS}
/-- x = [list, list, list, list] -/
theorem q_asg4L {i : Nat} {xs1 xs2 xs3 xs4 : List V} (g1 : EvL t1 σ H xs1) (g2 : EvL t2 σ H xs2) (g3 : EvL t3 σ H xs3) (g4 : EvL t4 σ H xs4)
    (k : ∀ l q0 q1 q2 q3 H1, Ex H H1 → H1 l = some (.lst [.ref q0, .ref q1, .ref q2, .ref q3]) → H1 q0 = some (.lst xs1) → H1 q1 = some (.lst xs2) → H1 q2 = some (.lst xs3) → H1 q3 = some (.lst xs4) →
      (q0 ≠ q1 ∧ q0 ≠ q2 ∧ q0 ≠ q3 ∧ q1 ≠ q2 ∧ q1 ≠ q3 ∧ q2 ≠ q3 ∧ l ≠ q0 ∧ l ≠ q1 ∧ l ≠ q2 ∧ l ≠ q3) → H q0 = none → H q1 = none → H q2 = none → H q3 = none → H l = none → tz D (σ.set i (some (.ref l))) H1) :
    tSeq (tAsg (tLst (tCons t1 (tCons t2 (tCons t3 (tCons t4 tNil))))) (gName i)) tz D σ H :=
  g1 H (Ex.refl H) _ fun q0 H1 n0 e1 h0 => g2 H1 e1 _ fun q1 H2 n1 e2 h1 => g3 H2 (e1.trans e2) _ fun q2 H3 n2 e3 h2 => g4 H3 ((e1.trans e2).trans e3) _ fun q3 H4 n3 e4 h3 => ⟨by show 4 ≤ sizeLine; decide, fun l nl => by
    have a0 := e4 _ _ (e3 _ _ (e2 _ _ h0))
    have a1 := e4 _ _ (e3 _ _ h1)
    have a2 := e4 _ _ h2
    have E := ((e1.trans e2).trans e3).trans e4
    exact k l q0 q1 q2 q3 _ (E.trans (Ex.new nl)) upd_same (by rw [upd_ne (ne_of_none a0 nl)]; exact a0) (by rw [upd_ne (ne_of_none a1 nl)]; exact a1) (by rw [upd_ne (ne_of_none a2 nl)]; exact a2) (by rw [upd_ne (ne_of_none h3 nl)]; exact h3)
      ⟨ne_of_none h0 n1, ne_of_none (e2 _ _ h0) n2, ne_of_none (e3 _ _ (e2 _ _ h0)) n3, ne_of_none h1 n2, ne_of_none (e3 _ _ h1) n3, ne_of_none h2 n3, Ne.symm (ne_of_none a0 nl), Ne.symm (ne_of_none a1 nl), Ne.symm (ne_of_none a2 nl), Ne.symm (ne_of_none h3 nl)⟩
      n0 (fresh_back e1 n1) (fresh_back (e1.trans e2) n2) (fresh_back ((e1.trans e2).trans e3) n3) (fresh_back E nl)⟩
end
end Pw
namespace Pw
open PySem PySem.Spec PyProof.Rows L2 Evl
section
variable {K : PySem.W.Frag} {σ : L2.St} {H H' : Hp} {ta tb tc te te2 : TE} {x y z v : V} {D : Ends} {tz tu : TS} {xs : List V}
theorem el_slL {tl th : TO} {lo hi : Option Int} (h : EvL te σ H xs) (h1 : EvO tl σ H lo) (h2 : EvO th σ H hi) : EvL (tSl (rSlL K) te tl th) σ H (cutV xs lo hi) := fun H1 e _ q =>
  h H1 e _ fun a H2 n2 e2 ha => h1 H2 (e.trans e2) _ fun H3 e3 => h2 H3 ((e.trans e2).trans e3) _ fun H4 e4 =>
    ⟨a, xs, rfl, sq_of (e4 _ _ (e3 _ _ ha)), fun p hp => q p _ (fresh_back ((e2.trans e3).trans e4) hp) (((e2.trans e3).trans e4).trans (Ex.new hp)) upd_same⟩
/-- a, b = e, e2 by a tuple -/
theorem q_asgTII {i j : Nat} (h1 : Ev te σ H x) (h2 : Ev te2 σ H y) (k : ∀ H1, Ex H H1 → tz D ((σ.set i (some x)).set j (some y)) H1) :
    tSeq (tAsg (tTup (tCons te (tCons te2 tNil))) (gTup K 2 (gCons (gName i) (gCons (gName j) gNil)))) tz D σ H :=
  h1 H (Ex.refl H) _ fun H1 e1 => h2 H1 e1 _ fun H2 e2 => ⟨by show 2 ≤ sizeLine; decide, fun t ht => ⟨t, _, rfl, st_of upd_same, rfl, x, _, rfl, y, _, rfl, rfl, k _ ((e1.trans e2).trans (Ex.new ht))⟩⟩
end
theorem any_falses {n : Nat} : ((List.range n).map fun _ => false).any id = false := by
  rw [List.any_eq_false]
  intro x hx
  obtain ⟨_, _, rfl⟩ := List.mem_map.mp hx
  exact Bool.false_ne_true
/-! ### shapes of data -/
structure Fit (n : Nat) (d : PyData) : Prop where
  lay : d.canLay0 = true
  dep : d.depth ≤ n
theorem fit_all {n : Nat} : ∀ {ds : List PyData}, (∀ d ∈ ds, Fit n d) → PyData.canLayAll0 ds = true ∧ PyData.depthAll ds ≤ n
  | [], _ => ⟨rfl, Nat.zero_le _⟩
  | d :: r, h => by
    have h1 := h d List.mem_cons_self
    have h2 := fit_all fun x hx => h x (List.mem_cons_of_mem _ hx)
    refine ⟨?_, ?_⟩
    · rw [PyData.canLayAll0, h1.lay, h2.1]
      rfl
    · have := h1.dep
      simp only [PyData.depthAll]
      omega
theorem fit_list {n : Nat} {ds : List PyData} (h : ∀ d ∈ ds, Fit n d) : Fit (n + 1) (.list ds) := ⟨by rw [PyData.canLay0]; exact (fit_all h).1, by simp only [PyData.depth]; have := (fit_all h).2; omega⟩
theorem fit_tuple {n : Nat} {ds : List PyData} (h : ∀ d ∈ ds, Fit n d) : Fit (n + 1) (.tuple ds) := ⟨by rw [PyData.canLay0]; exact (fit_all h).1, by simp only [PyData.depth]; have := (fit_all h).2; omega⟩
theorem fit_int {n : Nat} (i : Int) : Fit n (.int i) := ⟨rfl, Nat.zero_le _⟩
theorem Fit.le {n m : Nat} {d : PyData} (h : Fit n d) (e : n ≤ m) : Fit m d := ⟨h.lay, Nat.le_trans h.dep e⟩
theorem fit_ints {n : Nat} (ns : List Int) : Fit (n + 1) (.list (ns.map PyData.int)) := fit_list fun d hd => by
  obtain ⟨i, _, rfl⟩ := List.mem_map.mp hd
  exact fit_int i
theorem Fit.shaped {n : Nat} {d : PyData} (h : Fit n d) (e : n ≤ 64) : SeqAt.shaped d = true := by
  have := h.dep
  unfold SeqAt.shaped
  rw [h.lay, decide_eq_true (by omega)]
  rfl
end Pw
namespace Pw
open PySem PySem.Spec PyProof.Rows L2 Evl
theorem rc_max {H : Hp} {i j : Int} : RC (fun vs H Q => ∃ i j, vs = [V.int i, V.int j] ∧ Q (.int (if j > i then j else i)) H) [.int i, .int j] H (.int (if j > i then j else i)) := fun H1 _ _ q => ⟨i, j, rfl, q H1 (Ex.refl H1)⟩
end Pw
namespace Pw
open PySem PySem.Spec PyProof.Rows L2 Evl
section
variable {K : PySem.W.Frag} {σ : L2.St} {H H' : Hp} {ta tb te : TE} {a b : Addr} {xs : List Int}
/-! ### lists of ints that are the same -/
theorem rv_neI (h1 : SqL K H a (xs.map V.int)) (h2 : SqL K H b (xs.map V.int)) : RV (rNeD K) (.ref a) (.ref b) H (.bl false) := by
  have g := rv_neL (ns := xs) (ms := xs) h1 h2
  rw [decide_eq_true rfl] at g
  exact g
theorem rv_eqI (h1 : SqL K H a (xs.map V.int)) (h2 : SqL K H b (xs.map V.int)) : RV (rEqD K) (.ref a) (.ref b) H (.bl true) := by
  have g := rv_eqL (ns := xs) (ms := xs) h1 h2
  rw [decide_eq_true rfl] at g
  exact g
theorem et_neV (ha : Ev ta σ H (.ref a)) (hb : Ev tb σ H (.ref b)) (h1 : SqL K H a (xs.map V.int)) (h2 : SqL K H b (xs.map V.int)) : EvT (tTest (tOp (rNeD K) ta tb)) σ H false := et_test (ev_op ha hb (rv_neI h1 h2))
theorem et_neVL (ha : Ev ta σ H (.ref a)) (hb : EvL tb σ H (xs.map V.int)) (h1 : SqL K H a (xs.map V.int)) : EvT (tTest (tOp (rNeD K) ta tb)) σ H false := et_test (ev_opL ha hb fun _ _ h e => rv_neI (ex_l e h1) (sq_of h))
theorem et_neLV (ha : EvL ta σ H (xs.map V.int)) (hb : Ev tb σ H (.ref b)) (h2 : SqL K H b (xs.map V.int)) : EvT (tTest (tOp (rNeD K) ta tb)) σ H false := et_test (ev_opL1 ha (fun H1 e => hb.mono e) fun _ _ h e => rv_neI (sq_of h) (ex_l e h2))
theorem et_neLL (ha : EvL ta σ H (xs.map V.int)) (hb : EvL tb σ H (xs.map V.int)) : EvT (tTest (tOp (rNeD K) ta tb)) σ H false := et_test (ev_opLL ha hb fun _ _ _ h1 h2 e => rv_neI (sq_of h1) (sq_of h2))
theorem ev_eqLL (ha : EvL ta σ H (xs.map V.int)) (hb : EvL tb σ H (xs.map V.int)) : Ev (tOp (rEqD K) ta tb) σ H (.bl true) := ev_opLL ha hb fun _ _ _ h1 h2 e => rv_eqI (sq_of h1) (sq_of h2)
theorem ev_eqVL (ha : Ev ta σ H (.ref a)) (hb : EvL tb σ H (xs.map V.int)) (h1 : SqL K H a (xs.map V.int)) : Ev (tOp (rEqD K) ta tb) σ H (.bl true) := ev_opL ha hb fun _ _ h e => rv_eqI (ex_l e h1) (sq_of h)
theorem ev_eqLV (ha : EvL ta σ H (xs.map V.int)) (hb : Ev tb σ H (.ref b)) (h2 : SqL K H b (xs.map V.int)) : Ev (tOp (rEqD K) ta tb) σ H (.bl true) := ev_opL1 ha (fun H1 e => hb.mono e) fun _ _ h e => rv_eqI (sq_of h) (ex_l e h2)
theorem ev_eqV (ha : Ev ta σ H (.ref a)) (hb : Ev tb σ H (.ref b)) (h1 : SqL K H a (xs.map V.int)) (h2 : SqL K H b (xs.map V.int)) : Ev (tOp (rEqD K) ta tb) σ H (.bl true) := ev_op ha hb (rv_eqI h1 h2)
/-- ints that are the same -/
theorem et_neN {i : Int} (ha : Ev ta σ H (.int i)) (hb : Ev tb σ H (.int i)) : EvT (tTest (tOp rNe ta tb)) σ H false := et_test (ev_is (ev_op ha hb (rv_ne rfl)) (by rw [decide_eq_true rfl]; rfl))
theorem et_eqN {i j : Int} (ha : Ev ta σ H (.int i)) (hb : Ev tb σ H (.int j)) : EvT (tTest (tOp rEq ta tb)) σ H (decide (i = j)) := et_test (ev_is (ev_op ha hb (rv_eq rfl)) (by congr 1; exact decide_eq_decide.mpr ⟨fun z => V.int.inj z, fun z => by rw [z]⟩))
theorem et_neN' {i j : Int} (ha : Ev ta σ H (.int i)) (hb : Ev tb σ H (.int j)) : EvT (tTest (tOp rNe ta tb)) σ H (!decide (i = j)) := et_test (ev_is (ev_op ha hb (rv_ne rfl)) (by congr 2; exact decide_eq_decide.mpr ⟨fun z => V.int.inj z, fun z => by rw [z]⟩))
theorem ev_eqN {i j : Int} (ha : Ev ta σ H (.int i)) (hb : Ev tb σ H (.int j)) : Ev (tOp rEq ta tb) σ H (.bl (decide (i = j))) := ev_is (ev_op ha hb (rv_eq rfl)) (by congr 1; exact decide_eq_decide.mpr ⟨fun z => V.int.inj z, fun z => by rw [z]⟩)
theorem ev_neN {i j : Int} (ha : Ev ta σ H (.int i)) (hb : Ev tb σ H (.int j)) : Ev (tOp rNe ta tb) σ H (.bl (!decide (i = j))) := ev_is (ev_op ha hb (rv_ne rfl)) (by congr 2; exact decide_eq_decide.mpr ⟨fun z => V.int.inj z, fun z => by rw [z]⟩)
/-- arguments, new tuples among them -/
theorem eap_consU {tr : TA} {P : List V → Hp → Prop} {us : List V} (h : EvU te σ H us) (hr : EvAP tr σ H P) : EvAP (tCons te tr) σ H (fun vs H2 => ∃ p r, vs = .ref p :: r ∧ H2 p = some (.tup us) ∧ H p = none ∧ P r H2) := fun H1 e Q q =>
  h H1 e _ fun p H2 n2 e2 hp => hr H2 (e.trans e2) _ fun vs H3 e3 hP => q _ H3 (e2.trans e3) ⟨p, vs, rfl, e3 p _ hp, fresh_back e n2, hP⟩
/-- rows of rests, looked at place by place -/
theorem all_ok {te2 : TE} {tl : TE} {j : Nat} {vs : List Nat} (h : Ev tl σ H (.ref a)) (hx : SqL K H a (xs.map V.int)) (hz : xs.length ≤ 40000) (hw : ∀ x, wipe ((wipe σ vs).set j (some x)) vs = wipe σ vs)
    (he : ∀ (i : Nat) H1, Ex H H1 → i < xs.length → Ev te2 ((wipe σ vs).set j (some (.int (sq xs i)))) H1 (.bl true)) : Ev (tCB (rAll K) (tCons (tLc (iList K tl) (gName j) tYes te2 vs) tNil)) σ H (.bl true) :=
  ev_cbL (el_mapL (ns := xs) (fun _ => V.bl true) h hx hz hw he) fun p2 H2 h2 e2 => by
    rw [map_map_bl (f := fun _ => true)] at h2
    have g := rc_all (K := K) (sq_of h2)
    rw [all_true] at g
    exact g
theorem any_no {te2 : TE} {tl : TE} {j : Nat} {vs : List Nat} (h : Ev tl σ H (.ref a)) (hx : SqL K H a (xs.map V.int)) (hz : xs.length ≤ 40000) (hw : ∀ x, wipe ((wipe σ vs).set j (some x)) vs = wipe σ vs)
    (he : ∀ (i : Nat) H1, Ex H H1 → i < xs.length → Ev te2 ((wipe σ vs).set j (some (.int (sq xs i)))) H1 (.bl false)) : Ev (tCB (rAny K) (tCons (tLc (iList K tl) (gName j) tYes te2 vs) tNil)) σ H (.bl false) :=
  ev_cbL (el_mapL (ns := xs) (fun _ => V.bl false) h hx hz hw he) fun p2 H2 h2 e2 => by
    rw [map_map_bl (f := fun _ => false)] at h2
    have g := rc_any (K := K) (sq_of h2)
    rw [any_falses] at g
    exact g
end
end Pw

namespace Pw
open PySem PySem.Spec PyProof.Rows L2 Evl
/-! ### xs[a::2] -/
def pick2 {α : Type} (xs : List α) (a : Nat) : List α := (List.range ((xs.length - a + 1) / 2)).filterMap fun m => xs[a + 2 * m]?
theorem vals_pick {xs : List V} {us : List Value} (r : Vals xs us) : ∀ ks : List Nat, Vals (ks.filterMap fun m => xs[m]?) (ks.filterMap fun m => us[m]?)
  | [] => .nil
  | k :: ks => by
    have ih := vals_pick r ks
    rw [List.filterMap_cons, List.filterMap_cons]
    by_cases h : k < xs.length
    · have e := List.getElem?_eq_getElem h
      obtain ⟨u, hu, ru⟩ := r.get e
      rw [e, hu]
      exact .cons ru ih
    · rw [List.getElem?_eq_none (by omega), List.getElem?_eq_none (by have := r.length; omega)]
      exact ih
theorem sliceRange2 {n j : Nat} (hj : j ≤ n) : sliceRange (j : Int) (n : Int) 2 = (List.range ((n - j + 1) / 2)).map fun m => j + 2 * m := by
  unfold sliceRange
  have h1 : (2 : Int) > 0 := by decide
  simp only [h1, if_true]
  by_cases h : (j : Int) < n
  · have e : (((n : Int) - j + 2 - 1) / 2).toNat = (n - j + 1) / 2 := by omega
    simp only [h, if_true, e]
    apply List.map_congr_left
    intro k hk
    omega
  · have e : (n - j + 1) / 2 = 0 := by omega
    rw [e]
    simp [h]
theorem pick2_map (xs : List Int) (a : Nat) : pick2 (xs.map V.int) a = (pick2 xs a).map V.int := by
  unfold pick2
  rw [List.map_filterMap, List.length_map]
  congr 1
  funext m
  rw [List.getElem?_map]
theorem pick2_len {α : Type} (xs : List α) (a : Nat) : (pick2 xs a).length = (xs.length - a + 1) / 2 := by
  have : ∀ k, k ≤ (xs.length - a + 1) / 2 → ((List.range k).filterMap fun m => xs[a + 2 * m]?).length = k := by
    intro k
    induction k with
    | zero => intro _; rfl
    | succ k ih =>
      intro hk
      rw [List.range_succ, List.filterMap_append, List.length_append, ih (by omega)]
      rw [List.filterMap_cons, List.getElem?_eq_getElem (show a + 2 * k < xs.length by omega)]
      rfl
  exact this _ (Nat.le_refl _)
theorem pick2_at {α : Type} (xs : List α) (a m : Nat) : (pick2 xs a)[m]? = xs[a + 2 * m]? := by
  have : ∀ k, k ≤ (xs.length - a + 1) / 2 → ∀ m, m < k → ((List.range k).filterMap fun m => xs[a + 2 * m]?)[m]? = xs[a + 2 * m]? := by
    intro k
    induction k with
    | zero => intro _ m hm; omega
    | succ k ih =>
      intro hk m hm
      have l : ((List.range k).filterMap fun m => xs[a + 2 * m]?).length = k := by
        have h2 : ∀ k, k ≤ (xs.length - a + 1) / 2 → ((List.range k).filterMap fun m => xs[a + 2 * m]?).length = k := by
          intro k
          induction k with
          | zero => intro _; rfl
          | succ k ih =>
            intro hk
            rw [List.range_succ, List.filterMap_append, List.length_append, ih (by omega)]
            rw [List.filterMap_cons, List.getElem?_eq_getElem (show a + 2 * k < xs.length by omega)]
            rfl
        exact h2 k (by omega)
      rw [List.range_succ, List.filterMap_append]
      by_cases c : m < k
      · rw [List.getElem?_append_left (by rw [l]; exact c)]
        exact ih (by omega) m c
      · obtain rfl : m = k := by omega
        rw [List.getElem?_append_right (by rw [l]; exact Nat.le_refl _), l, Nat.sub_self, List.filterMap_cons, List.getElem?_eq_getElem (show a + 2 * m < xs.length by omega)]
        rfl
  by_cases h : m < (xs.length - a + 1) / 2
  · exact this _ (Nat.le_refl _) m h
  · rw [List.getElem?_eq_none (by rw [pick2_len]; omega), List.getElem?_eq_none (by omega)]
theorem sq_pick2 (xs : List Int) (a m : Nat) : sq (pick2 xs a) m = sq xs (a + 2 * m) := by
  unfold sq
  rw [List.getD_eq_getElem?_getD, List.getD_eq_getElem?_getD, pick2_at]
def tSl2 (K : PySem.W.Frag) (te : TE) (tl : TO) : TE := fun σ H Q => te σ H fun x H1 => tl σ H1 fun lo H2 => ∃ (a : Addr) (xs : List V) (j : Nat), x = .ref a ∧ SqL K H2 a xs ∧ lo.getD 0 = (j : Int) ∧ j ≤ xs.length ∧ ∀ p, H2 p = none → Q (.ref p) (upd H2 p (.lst (pick2 xs j)))
theorem bounds2 {lo : Option Int} {n j : Nat} (h : lo.getD 0 = (j : Int)) (hj : j ≤ n) : sliceBounds lo none (some 2) n = ((j : Int), (n : Int), 2) := by
  cases lo with
  | none =>
    have : j = 0 := by
      have : (0 : Int) = (j : Int) := h
      omega
    subst this
    rfl
  | some i =>
    have : i = (j : Int) := h
    subst this
    simp only [sliceBounds]
    refine Prod.ext ?_ (Prod.ext rfl rfl)
    simp
    omega
theorem pe_sl2 {X : Cx} {e : Expr} {lo : Option Expr} {te : TE} {tl : TO} {k : Nat} {p1 p2 pos : Pos} (he : PE X e te) (hl : PO X lo tl) : PE X (.Subscript e (.Slice lo none (some (.Constant (.int 2) k p1)) p2) pos) (tSl2 X.K te tl) := by
  refine ⟨fun pins s σ H Q I h => ?_⟩
  refine Subscript_ (thn (he.run pins s σ H _ I h) fun v s1 ⟨x, H1, I1, r1, q1⟩ => ?_)
  have hst : PO X (some (.Constant (.int 2) k p1)) (tPart (tC (.int 2))) := po_some pe_int
  refine wpAny_Slice (thn (hl.run pins s1 σ H1 _ I1 q1) fun vl s2 ⟨l, H2, I2, pl, q2⟩ => ?_)
  obtain ⟨a, xs, j, ex, hx, hlo, hj, q⟩ := q2
  subst ex
  cases r1
  refine thn (po_none.run pins s2 σ H2 (fun o H3 => o = none ∧ H3 = H2) I2 ⟨rfl, rfl⟩) fun vu s3 ⟨u, H3, I3, pu, eu, e3⟩ => ?_
  subst eu e3
  refine thn (hst.run pins s3 σ H3 (fun o H4 => o = some 2 ∧ H4 = H3) I3 ⟨2, rfl, rfl, rfl⟩) fun vs s4 ⟨o, H4, I4, ps, eo, e4⟩ => ?_
  subst eo e4
  have I5 : Inv X pins σ H4 { s4 with heap := s4.heap.push { cls := .type "slice", data := .fields #[vl, vu, vs] } } := I4.kept (t' := s4.toks) fun b ob q => Heap.get?_push_of_some _ q
  obtain ⟨its, r, ht, hz⟩ := I5.list hx
  have hlen := r.length
  show wpAny (model X.prog X.w) X.A (subscriptTail e (.Slice lo none (some (.Constant (.int 2) k p1)) p2) (.ref a) (.ref s4.heap.objs.size)) (EP X pins σ Q) X.xe { s4 with heap := s4.heap.push { cls := .type "slice", data := .fields #[vl, vu, vs] } }
  refine tail_any (ops := [.ref a, .ref s4.heap.objs.size]) ht.isList.typeIs (PySem.slot_list_getitem.lookup) ?_ (by with_unfolding_all rfl)
  refine wpAny_getItem_list_slice ht.isList (Heap.IsSliceOf.new _ vl vu vs) pl pu ps (by decide) ?_ (by rw [List.size_toArray]; omega)
  have ep : slicePick its.toArray l none (some 2) = ((List.range ((xs.length - j + 1) / 2)).filterMap fun m => its[j + 2 * m]?).toArray := by
    unfold slicePick
    rw [List.size_toArray, ← hlen, bounds2 hlo hj]
    show ((sliceRange (j : Int) (xs.length : Int) 2).filterMap (its.toArray[·]?)).toArray = _
    rw [sliceRange2 hj, List.filterMap_map]
    congr 2
    funext m
    show its.toArray[j + 2 * m]? = its[j + 2 * m]?
    simp
  rw [ep]
  refine ⟨.ref _, _, I5.laid (t' := s4.toks) (o := .lst (pick2 xs j)) (fun b ob q => Heap.get?_push_of_some _ q) (Nat.le_refl _) ?_, rfl, q _ (I5.hok.fresh (Nat.le_refl _))⟩
  have vp := vals_pick r ((List.range ((xs.length - j + 1) / 2)).map fun m => j + 2 * m)
  rw [List.filterMap_map, List.filterMap_map] at vp
  exact ⟨by rw [pick2_len]; omega, _, 0, vp, Heap.get?_push_size _ rfl⟩
section
variable {K : PySem.W.Frag} {σ : L2.St} {H H' : Hp} {te : TE} {tl : TO} {xs : List V}
theorem el_sl2 {lo : Option Int} {j : Nat} (h : EvL te σ H xs) (h1 : EvO tl σ H lo) (hlo : lo.getD 0 = (j : Int)) (hj : j ≤ xs.length) : EvL (tSl2 K te tl) σ H (pick2 xs j) := fun H1 e Q q =>
  h H1 e _ fun a H2 n2 e2 ha => h1 H2 (e.trans e2) _ fun H3 e3 => ⟨a, xs, j, rfl, sq_of (e3 _ _ ha), hlo, hj, fun p hp => q p _ (fresh_back (e2.trans e3) hp) ((e2.trans e3).trans (Ex.new hp)) upd_same⟩
/-- xs[::-1] of a known list, of a new one -/
theorem el_rev {a : Addr} (h : Ev te σ H (.ref a)) (hx : SqL K H a xs) : EvL (tRevL K te) σ H xs.reverse := fun H1 e Q q =>
  h H1 e _ fun H2 e2 => ⟨a, xs, rfl, ex_l (e.trans e2) hx, fun p hp => q p _ (fresh_back e2 hp) (e2.trans (Ex.new hp)) upd_same⟩
theorem el_revL (h : EvL te σ H xs) : EvL (tRevL K te) σ H xs.reverse := fun H1 e Q q =>
  h H1 e _ fun a H2 n2 e2 ha => ⟨a, xs, rfl, sq_of ha, fun p hp => q p _ (fresh_back e2 hp) (e2.trans (Ex.new hp)) upd_same⟩
end
end Pw
namespace Pw
open PySem PySem.Spec PyProof.Rows L2 Evl
/-! ### list(range(n)) -/
def rRange1 : List V → Hp → VK → Prop := fun vs H Q => ∃ i : Int, vs = [.int i] ∧ ∀ p, H p = none → Q (.ref p) (upd H p (.rng 0 i))
def rListR : List V → Hp → VK → Prop := fun vs H Q => ∃ (p : Addr) (n : Nat), vs = [.ref p] ∧ H p = some (.rng 0 (n : Int)) ∧ n ≤ 100000 ∧ ∀ l, H l = none → Q (.ref l) (upd H l (.lst ((List.range n).map fun (i : Nat) => V.int (i : Int))))
theorem cr_range1 {X : Cx} : CallR X (.type "range") rRange1 := by
  intro pins s σ H vs us Q I r h
  obtain ⟨i, rfl, q⟩ := h
  obtain ⟨u1, rfl, ri⟩ := vals1 r
  obtain ⟨t, rfl⟩ := ri
  refine call_range_1 ⟨.ref s.heap.objs.size, upd H s.heap.objs.size (.rng 0 i), I.laid (t' := s.toks + 1 + 1) (fun b o e => Heap.get?_push_of_some _ e) (Nat.le_refl _) ?_, rfl, q _ (I.hok.fresh (Nat.le_refl _))⟩
  exact ⟨s.toks, t, s.toks + 1, Heap.get?_push_size _ rfl⟩
theorem vals_items {n : Nat} {acc : Array Value} (h : ItemsOf (fun i v => ∃ t, v = .int ((0 : Int) + i * 1) t) acc n) : Vals ((List.range n).map fun (i : Nat) => V.int (i : Int)) acc.toList := by
  have key : ∀ (us : List Value) (k : Nat), (∀ j v, us[j]? = some v → ∃ t, v = Value.int ((0 : Int) + ((k + j : Nat) : Int) * 1) t) → Vals ((List.range' k us.length).map fun (i : Nat) => V.int (i : Int)) us := by
    intro us
    induction us with
    | nil => exact fun k _ => .nil
    | cons u us ih =>
      intro k hk
      rw [List.length_cons, List.range'_succ, List.map_cons]
      refine .cons ?_ (ih (k + 1) fun j v hv => ?_)
      · obtain ⟨t, e⟩ := hk 0 u rfl
        exact ⟨t, by rw [e]; congr 1; omega⟩
      · obtain ⟨t, e⟩ := hk (j + 1) v hv
        exact ⟨t, by rw [e]; congr 1; omega⟩
  have k0 := key acc.toList 0 fun j v hv => by
    have := h.2 j v (by rw [← Array.getElem?_toList]; exact hv)
    rw [Nat.zero_add]
    exact this
  rw [Array.length_toList, h.1] at k0
  rw [List.range_eq_range']
  exact k0
theorem cr_listR {X : Cx} (hc : X.calm = true) : CallR X (.type "list") rListR := by
  intro pins s σ H vs us Q I r h
  obtain ⟨p, n, rfl, hp, hn, q⟩ := h
  obtain ⟨u, rfl, rx⟩ := vals1 r
  cases rx
  obtain ⟨t, u, v, hr⟩ := (show ObjOk X.prog X.w H s.heap p (.rng 0 (n : Int)) from I.hok p _ hp)
  refine call_list_range (n := n) (I.ok.hd hc) hr ?_ ?_ (by omega) fun h' tk acc c' hk hS hacc => ?_
  · exact small_one (by omega) (by omega) (by omega) (by omega)
  · rw [rangeSize_nat]
    omega
  · refine ⟨.ref s.heap.objs.size, _, I.laid (t' := tk) (o := .lst ((List.range n).map fun (i : Nat) => V.int (i : Int))) hk (Nat.le_refl _) ?_, rfl, q _ (I.hok.fresh (Nat.le_refl _))⟩
    exact ⟨by rw [List.length_map, List.length_range]; exact sz_of hn, acc.toList, c', vals_items hacc, hS⟩
theorem el_listRng {σ : L2.St} {H : Hp} {ta : TA} {n : Nat} (h : EvA ta σ H [.int (n : Int)]) (hn : n ≤ 100000) : EvL (tCB rListR (tCons (tCB rRange1 ta) tNil)) σ H ((List.range n).map fun (i : Nat) => V.int (i : Int)) := fun H1 e Q q =>
  h H1 e _ fun H2 e2 => ⟨(n : Int), rfl, fun p hp => ⟨p, n, rfl, upd_same, hn, fun l hl => q l _ (fresh_back (e2.trans (Ex.new hp)) hl) ((e2.trans (Ex.new hp)).trans (Ex.new hl)) upd_same⟩⟩
end Pw
namespace Pw
open PySem PySem.Spec PyProof.Rows L2 Evl
section
variable {K : PySem.W.Frag} {σ : L2.St} {H : Hp} {D : Ends} {tu : TS}
theorem s_forNLn {xs : List V} {tl : TE} {j : Nat} (h : EvL tl σ H xs) (Pv : Addr → Nat → L2.St → Hp → Prop) (h0 : ∀ p H1, H p = none → Ex H H1 → H1 p = some (.lst xs) → Pv p 0 σ H1) (hl : ∀ p i σ' H', i ≤ xs.length → Pv p i σ' H' → SqL K H' p xs)
    (hs : ∀ p i x σ' H', xs[i]? = some x → Pv p i σ' H' → tu { D with nx := Pv p (i + 1), ct := Pv p (i + 1), bk := D.nx } (σ'.set j (some x)) H') (hd : ∀ p σ' H', Pv p xs.length σ' H' → D.nx σ' H') : tFor (iList K tl) (gName j) tu D σ H :=
  s_forNL h Pv h0 hl hs hd
end
theorem rests_sml {p : Int} (hp : p ≤ 1000) {xs : List Int} (h : ∀ x ∈ xs, 0 ≤ x ∧ x < p) : Sml xs := fun x hx => by
  have := h x hx
  omega
end Pw

namespace PySem
open Builtin
/-! ### enumerate(zip(a, b)): zip's own tuple is held by enumerate's, so zip makes a new one each turn -/
abbrev IsZipB (h : Heap) (z TI TO : Addr) (f0 : Value) (b : Bool) : Prop :=
  h.get? z = some { cls := .type "zip", dict := none, data := .fields #[f0, .bool b, .bool false, .ref TI, .ref TO], slots := #[] }
def ZipG (h : Heap) (z TI TO : Addr) : Prop := ∃ f0 b, IsZipB h z TI TO f0 b ∧ (f0 = .none ∨ ∃ a : Nat, f0 = rawInt a)
section
variable {prog : Program} {w : World} {A : Around} {E : Value → Shared → Prop} {s : Shared}
theorem wpAny_loadIfAlive {a : Addr} {Q : Option Obj → Shared → Prop} (h : Q (s.heap.get? a) s) : wpAny (model prog w) A (loadIfAlive a) Q E s := fun Γ p _ => h
theorem own_free {z TI TO : Addr} {f0 : Value} {b : Bool} {Q : Bool → Shared → Prop} (hz : IsZipB s.heap z TI TO f0 b) (hf : f0 = .none ∨ ∃ a : Nat, f0 = rawInt a)
    (h1 : Q true s) (h2 : ∀ h', IsZipB h' z TI TO f0 true → Heap.SameBut z s.heap h' → Q false { s with heap := h' }) : wpAny (model prog w) A (Builtin.SmallTypes.ownedTupleIsFree (.ref z)) Q E s := by
  unfold Builtin.SmallTypes.ownedTupleIsFree
  rcases hf with rfl | ⟨a, rfl⟩
  · exact wpAny_bind (wpAny_field hz rfl (x := .none) rfl (wpAny_pure h1))
  · refine wpAny_bind (wpAny_field hz rfl (x := rawInt a) rfl ?_)
    show wpAny _ _ (loadIfAlive ((a : Int).toNat) >>= _) _ _ _
    refine wpAny_bind (wpAny_loadIfAlive ?_)
    cases s.heap.get? (a : Int).toNat with
    | none => exact wpAny_pure h1
    | some o =>
      simp only [Option.isNone_some, Bool.false_eq_true, if_false]
      refine wpAny_bind (wpAny_field hz rfl (x := .bool b) rfl ?_)
      cases b with
      | true => exact wpAny_pure (h2 _ hz (Heap.SameBut.refl _ _))
      | false => exact wpAny_bind (wpAny_setField_rec hz (by simp) fun h' hz' hs' => wpAny_pure (h2 h' hz' hs'))
theorem zip_next_itemG {z TI TO i1 i2 l1 l2 : Addr} {k1 k2 : Nat} {xs ys : Array Value} {x y a b : Value} {Q : Value → Shared → Prop} (D : ZipApart z TI TO i1 i2 l1 l2)
    (hG : ZipG s.heap z TI TO) (hTI : IsPair s.heap TI (.ref i1) (.ref i2)) (hTO : IsPair s.heap TO a b)
    (h1 : s.heap.IsListIter i1 l1 k1) (h2 : s.heap.IsListIter i2 l2 k2) (hl1 : s.heap.IsList l1 xs) (hl2 : s.heap.IsList l2 ys) (hx : xs[k1]? = some x) (hy : ys[k2]? = some y)
    (hQ : ∀ h', ZipG h' z TI TO → (∃ u v, IsPair h' TO u v) → h'.IsListIter i1 l1 (k1 + 1) → h'.IsListIter i2 l2 (k2 + 1) → IsPair h' s.heap.objs.size x y → h'.objs.size = s.heap.objs.size + 1 →
      (∀ c o, c ≠ z → c ≠ TO → c ≠ i1 → c ≠ i2 → s.heap.get? c = some o → h'.get? c = some o) → Q (.ref s.heap.objs.size) { s with heap := h' }) :
    wpAny (model prog w) A (Builtin.«zip.__next__» ⟨[.ref z], []⟩) (fun fin s' => ∃ v, fin = .done (.ret v) ∧ Q v s') E s := by
  obtain ⟨f0, bb, hz, hf⟩ := hG
  show wpAny _ _ (field (.ref z) 2 >>= _) _ _ _
  refine wpAny_bind (wpAny_field hz rfl (x := .bool false) rfl ?_)
  show wpAny _ _ (field (.ref z) 3 >>= _) _ _ _
  refine wpAny_bind (wpAny_field hz rfl (x := .ref TI) rfl ?_)
  refine wpAny_bind (wpAny_seqItems hTI rfl ?_)
  show wpAny _ _ (Builtin.SmallTypes.ownedTupleIsFree (.ref z) >>= _) _ _ _
  refine wpAny_bind (own_free hz hf ?_ fun h₁ hz₁ hs₁ => ?_)
  · simp only [if_true]
    refine wpAny_bind (wpAny_rule ?_)
    refine wpAny_bind (wpAny_field hz rfl (x := .ref TO) rfl ?_)
    refine wpAny_bind (wpAny_setField_rec hz (by simp) fun h₁ hz₁ hs₁ => ?_)
    replace hz₁ : IsZipB h₁ z TI TO .ellipsis bb := hz₁
    refine wpAny_bind ?_
    simp only [List.zipIdx_cons, List.zipIdx_nil, List.forIn_cons, List.forIn_nil]
    refine wpAny_bind (wpAny_bind (wpAny_onRaise ?_))
    show wpAny _ _ (Builtin.SmallTypes.nextOf (.ref i1) >>= _) _ _ _
    refine wpAny_bind (wpAny_nextOf_list_item (h1.extBut hs₁.extBut D.i1z) (hl1.extBut hs₁.extBut D.l1z) hx fun h₂ h1₂ hs₂ => wpAny_pure ?_)
    have hTO₂ : IsPair h₂ TO a b := hs₂.extBut _ _ D.TOi1 (hs₁.extBut _ _ D.TOz hTO)
    refine wpAny_bind (wpAny_seqItems hTO₂ rfl ?_)
    refine wpAny_bind (wpAny_updateSeq_pair hTO₂ fun h₃ hTO₃ hs₃ => ?_)
    replace hTO₃ : IsPair h₃ TO x b := hTO₃
    refine wpAny_bind (wpAny_letGo (wpAny_pure ?_))
    refine wpAny_bind (wpAny_bind (wpAny_onRaise ?_))
    show wpAny _ _ (Builtin.SmallTypes.nextOf (.ref i2) >>= _) _ _ _
    refine wpAny_bind (wpAny_nextOf_list_item (((h2.extBut hs₁.extBut D.i2z).extBut hs₂.extBut D.i12.symm).extBut hs₃.extBut D.TOi2.symm)
      (((hl2.extBut hs₁.extBut D.l2z).extBut hs₂.extBut D.l2i1).extBut hs₃.extBut D.l2TO) hy fun h₄ h2₄ hs₄ => wpAny_pure ?_)
    have hTO₄ : IsPair h₄ TO x b := hs₄.extBut _ _ D.TOi2 hTO₃
    refine wpAny_bind (wpAny_seqItems hTO₄ rfl ?_)
    refine wpAny_bind (wpAny_updateSeq_pair hTO₄ fun h₅ hTO₅ hs₅ => ?_)
    replace hTO₅ : IsPair h₅ TO x y := hTO₅
    refine wpAny_bind (wpAny_letGo (wpAny_pure (wpAny_pure ?_)))
    refine wpAny_bind (wpAny_seqItems hTO₅ rfl ?_)
    refine wpAny_bind (wpAny_newTuple ?_)
    have hsz : h₅.objs.size = s.heap.objs.size := by rw [hs₅.1, hs₄.1, hs₃.1, hs₂.1, hs₁.1]
    have hz₅ : IsZipB h₅ z TI TO .ellipsis bb := hs₅.extBut _ _ D.TOz.symm (hs₄.extBut _ _ D.i2z.symm (hs₃.extBut _ _ D.TOz.symm (hs₂.extBut _ _ D.i1z.symm hz₁)))
    have hk₅ : ∀ c o, c ≠ z → c ≠ TO → c ≠ i1 → c ≠ i2 → s.heap.get? c = some o → h₅.get? c = some o := fun c o c1 c2 c3 c4 e =>
      hs₅.extBut _ _ c2 (hs₄.extBut _ _ c4 (hs₃.extBut _ _ c2 (hs₂.extBut _ _ c3 (hs₁.extBut _ _ c1 e))))
    have h1₅ : h₅.IsListIter i1 l1 (k1 + 1) := ((h1₂.extBut hs₃.extBut D.TOi1.symm).extBut hs₄.extBut D.i12).extBut hs₅.extBut D.TOi1.symm
    have h2₅ : h₅.IsListIter i2 l2 (k2 + 1) := h2₄.extBut hs₅.extBut D.TOi2.symm
    have hzlt : z < h₅.objs.size := Heap.lt_size hz₅
    show wpAny _ _ (Builtin.SmallTypes.ownedTupleHandOut (.ref z) (.ref h₅.objs.size) >>= _) _ _ _
    refine wpAny_bind ?_
    unfold Builtin.SmallTypes.ownedTupleHandOut
    have hz₆ : IsZipB (h₅.push { cls := .type "tuple", data := .seq #[x, y] }) z TI TO .ellipsis bb := Heap.get?_push_of_some _ hz₅
    refine wpAny_bind (wpAny_setField_rec hz₆ (by simp) fun h₇ hz₇ hs₇ => ?_)
    replace hz₇ : IsZipB h₇ z TI TO (rawInt h₅.objs.size) bb := hz₇
    refine wpAny_setField_rec hz₇ (by simp) fun h₈ hz₈ hs₈ => ?_
    replace hz₈ : IsZipB h₈ z TI TO (rawInt h₅.objs.size) false := hz₈
    have up : ∀ c o, c ≠ z → h₅.get? c = some o → h₈.get? c = some o := fun c o c1 e => hs₈.extBut _ _ c1 (hs₇.extBut _ _ c1 (Heap.get?_push_of_some _ e))
    have hT₈ : IsPair h₈ h₅.objs.size x y := hs₈.extBut _ _ (Nat.ne_of_gt hzlt) (hs₇.extBut _ _ (Nat.ne_of_gt hzlt) (Heap.get?_push_size _ rfl))
    have hz8 : h₈.objs.size = h₅.objs.size + 1 := by rw [hs₈.1, hs₇.1, Heap.size_push]
    rw [hsz] at hz₈ hT₈ hz8
    refine wpAny_pure ⟨_, rfl, ?_⟩
    show Q (.ref h₅.objs.size) _
    rw [hsz]
    exact hQ h₈ ⟨_, _, hz₈, .inr ⟨_, rfl⟩⟩ ⟨_, _, up _ _ D.TOz hTO₅⟩ (h1₅.at fun o e => up _ o D.i1z e) (h2₅.at fun o e => up _ o D.i2z e) hT₈ hz8 fun c o c1 c2 c3 c4 e => up c o c1 (hk₅ c o c1 c2 c3 c4 e)
  · simp only [Bool.false_eq_true, if_false]
    refine wpAny_bind ?_
    simp only [← Array.forIn_toList, List.forIn_cons, List.forIn_nil]
    refine wpAny_bind (wpAny_bind (wpAny_holding ?_))
    show wpAny _ _ (Builtin.SmallTypes.nextOf (.ref i1) >>= _) _ _ _
    refine wpAny_bind (wpAny_nextOf_list_item (h1.extBut hs₁.extBut D.i1z) (hl1.extBut hs₁.extBut D.l1z) hx fun h₂ h1₂ hs₂ => wpAny_pure ?_)
    refine wpAny_pure ?_
    refine wpAny_bind (wpAny_bind (wpAny_holding ?_))
    show wpAny _ _ (Builtin.SmallTypes.nextOf (.ref i2) >>= _) _ _ _
    refine wpAny_bind (wpAny_nextOf_list_item ((h2.extBut hs₁.extBut D.i2z).extBut hs₂.extBut D.i12.symm) ((hl2.extBut hs₁.extBut D.l2z).extBut hs₂.extBut D.l2i1) hy fun h₃ h2₃ hs₃ => wpAny_pure ?_)
    refine wpAny_pure (wpAny_pure ?_)
    show wpAny _ _ (newTuple [x, y] >>= fun v => ret v) _ _ { s with heap := h₃ }
    refine wpAny_bind (wpAny_newTuple ?_)
    have hsz : h₃.objs.size = s.heap.objs.size := by rw [hs₃.1, hs₂.1, hs₁.1]
    refine wpAny_pure ⟨_, rfl, ?_⟩
    show Q (.ref h₃.objs.size) _
    have up : ∀ c o, c ≠ z → c ≠ i1 → c ≠ i2 → s.heap.get? c = some o → (h₃.push { cls := .type "tuple", data := .seq #[x, y] }).get? c = some o := fun c o c1 c3 c4 e =>
      Heap.get?_push_of_some _ (hs₃.extBut _ _ c4 (hs₂.extBut _ _ c3 (hs₁.extBut _ _ c1 e)))
    have hz₃ : IsZipB (h₃.push { cls := .type "tuple", data := .seq #[x, y] }) z TI TO f0 true := Heap.get?_push_of_some _ (hs₃.extBut _ _ D.i2z.symm (hs₂.extBut _ _ D.i1z.symm hz₁))
    have hT : IsPair (h₃.push { cls := .type "tuple", data := .seq #[x, y] }) h₃.objs.size x y := Heap.get?_push_size _ rfl
    have hz8 : (h₃.push { cls := .type "tuple", data := .seq #[x, y] }).objs.size = h₃.objs.size + 1 := Heap.size_push ..
    have h1₃ : h₃.IsListIter i1 l1 (k1 + 1) := h1₂.extBut hs₃.extBut D.i12
    rw [hsz] at hT hz8 ⊢
    exact hQ _ ⟨_, _, hz₃, hf⟩ ⟨_, _, up _ _ D.TOz D.TOi1 D.TOi2 hTO⟩ (h1₃.at fun o e => Heap.get?_push_of_some _ e) (h2₃.at fun o e => Heap.get?_push_of_some _ e) hT hz8 fun c o c1 _ c3 c4 e => up c o c1 c3 c4 e
theorem zip_next_endG {z TI TO i1 i2 l1 l2 : Addr} {k1 k2 : Nat} {xs ys : Array Value} {a b : Value} {Q : Fin → Shared → Prop} (hh : A.handled = none) (D : ZipApart z TI TO i1 i2 l1 l2)
    (hG : ZipG s.heap z TI TO) (hTI : IsPair s.heap TI (.ref i1) (.ref i2)) (hTO : IsPair s.heap TO a b)
    (h1 : s.heap.IsListIter i1 l1 k1) (hl1 : s.heap.IsList l1 xs) (hend : xs[k1]? = none)
    (hE : ∀ h' e, (∀ c o, c ≠ z → c ≠ TO → c ≠ i1 → c ≠ i2 → s.heap.get? c = some o → h'.get? c = some o) → (∃ o, h'.get? e = some o ∧ o.cls = .type "StopIteration") → E (.ref e) { s with heap := h' }) :
    wpAny (model prog w) A (Builtin.«zip.__next__» ⟨[.ref z], []⟩) Q E s := by
  obtain ⟨f0, bb, hz, hf⟩ := hG
  show wpAny _ _ (field (.ref z) 2 >>= _) _ _ _
  refine wpAny_bind (wpAny_field hz rfl (x := .bool false) rfl ?_)
  show wpAny _ _ (field (.ref z) 3 >>= _) _ _ _
  refine wpAny_bind (wpAny_field hz rfl (x := .ref TI) rfl ?_)
  refine wpAny_bind (wpAny_seqItems hTI rfl ?_)
  show wpAny _ _ (Builtin.SmallTypes.ownedTupleIsFree (.ref z) >>= _) _ _ _
  refine wpAny_bind (own_free hz hf ?_ fun h₁ hz₁ hs₁ => ?_)
  · simp only [if_true]
    refine wpAny_bind (wpAny_rule ?_)
    refine wpAny_bind (wpAny_field hz rfl (x := .ref TO) rfl ?_)
    refine wpAny_bind (wpAny_setField_rec hz (by simp) fun h₁ hz₁ hs₁ => ?_)
    replace hz₁ : IsZipB h₁ z TI TO .ellipsis bb := hz₁
    refine wpAny_bind ?_
    simp only [List.zipIdx_cons, List.zipIdx_nil, List.forIn_cons, List.forIn_nil]
    refine wpAny_bind (wpAny_bind (wpAny_onRaise ?_))
    show wpAny _ _ (Builtin.SmallTypes.nextOf (.ref i1) >>= _) _ _ _
    refine wpAny_bind (wpAny_nextOf_list_end hh (h1.extBut hs₁.extBut D.i1z) (hl1.extBut hs₁.extBut D.l1z) hend fun h₂ e hs₂ he => ?_)
    obtain ⟨oe, hoe, hce⟩ := he
    have hz₂ : IsZipB h₂ z TI TO .ellipsis bb := hs₂ _ _ D.i1z.symm hz₁
    have hez : e ≠ z := fun x => by subst x; rw [hz₂] at hoe; cases hoe; simp at hce
    refine wpAny_setField_rec hz₂ (by simp) fun h₃ _ hs₃ => hE h₃ e (fun c o c1 _ c3 _ x => hs₃.extBut _ _ c1 (hs₂ _ _ c3 (hs₁.extBut _ _ c1 x))) ⟨oe, hs₃.extBut _ _ hez hoe, hce⟩
  · simp only [Bool.false_eq_true, if_false]
    refine wpAny_bind ?_
    simp only [← Array.forIn_toList, List.forIn_cons, List.forIn_nil]
    refine wpAny_bind (wpAny_bind (wpAny_holding ?_))
    show wpAny _ _ (Builtin.SmallTypes.nextOf (.ref i1) >>= _) _ _ _
    exact wpAny_bind (wpAny_nextOf_list_end hh (h1.extBut hs₁.extBut D.i1z) (hl1.extBut hs₁.extBut D.l1z) hend fun h₂ e hs₂ he => hE h₂ e (fun c o c1 _ c3 _ x => hs₂ _ _ c3 (hs₁.extBut _ _ c1 x)) he)
/-! ### nextOf zip -/
theorem wpAny_nextOf_zip_item {z TI TO i1 i2 l1 l2 : Addr} {k1 k2 : Nat} {xs ys : Array Value} {x y a b : Value} {Q : Value → Shared → Prop} (D : ZipApart z TI TO i1 i2 l1 l2)
    (hG : ZipG s.heap z TI TO) (hTI : IsPair s.heap TI (.ref i1) (.ref i2)) (hTO : IsPair s.heap TO a b)
    (h1 : s.heap.IsListIter i1 l1 k1) (h2 : s.heap.IsListIter i2 l2 k2) (hl1 : s.heap.IsList l1 xs) (hl2 : s.heap.IsList l2 ys) (hx : xs[k1]? = some x) (hy : ys[k2]? = some y)
    (hQ : ∀ h', ZipG h' z TI TO → (∃ u v, IsPair h' TO u v) → h'.IsListIter i1 l1 (k1 + 1) → h'.IsListIter i2 l2 (k2 + 1) → IsPair h' s.heap.objs.size x y → h'.objs.size = s.heap.objs.size + 1 →
      (∀ c o, c ≠ z → c ≠ TO → c ≠ i1 → c ≠ i2 → s.heap.get? c = some o → h'.get? c = some o) → Q (.ref s.heap.objs.size) { s with heap := h' }) :
    wpAny (model prog w) A (Builtin.SmallTypes.nextOf (.ref z)) Q E s := by
  have hT : s.TypeIs (.ref z) "zip" := by
    obtain ⟨f0, bb, hz, _⟩ := hG
    exact ⟨_, hz, rfl⟩
  unfold Builtin.SmallTypes.nextOf
  exact wpAny_bind (wpAny_callSpecial?_slot (name := Str.ofString "__next__") hT F.slot_zip_next
    (wpAny_call_entry F.slot_zip_next hT F.entry_zip_next
      (zip_next_itemG D hG hTI hTO h1 h2 hl1 hl2 hx hy fun h' a1 a2 a3 a4 a5 a6 a7 => wpAny_pure (hQ h' a1 a2 a3 a4 a5 a6 a7)) (F.args_zip_next_1 _)))
theorem wpAny_nextOf_zip_end {z TI TO i1 i2 l1 l2 : Addr} {k1 k2 : Nat} {xs ys : Array Value} {a b : Value} {Q : Value → Shared → Prop} (hh : A.handled = none) (D : ZipApart z TI TO i1 i2 l1 l2)
    (hG : ZipG s.heap z TI TO) (hTI : IsPair s.heap TI (.ref i1) (.ref i2)) (hTO : IsPair s.heap TO a b)
    (h1 : s.heap.IsListIter i1 l1 k1) (hl1 : s.heap.IsList l1 xs) (hend : xs[k1]? = none)
    (hE : ∀ h' e, (∀ c o, c ≠ z → c ≠ TO → c ≠ i1 → c ≠ i2 → s.heap.get? c = some o → h'.get? c = some o) → (∃ o, h'.get? e = some o ∧ o.cls = .type "StopIteration") → E (.ref e) { s with heap := h' }) :
    wpAny (model prog w) A (Builtin.SmallTypes.nextOf (.ref z)) Q E s := by
  have hT : s.TypeIs (.ref z) "zip" := by
    obtain ⟨f0, bb, hz, _⟩ := hG
    exact ⟨_, hz, rfl⟩
  unfold Builtin.SmallTypes.nextOf
  exact wpAny_bind (wpAny_callSpecial?_slot (name := Str.ofString "__next__") hT F.slot_zip_next
    (wpAny_call_entry F.slot_zip_next hT F.entry_zip_next (zip_next_endG (k2 := k2) (ys := ys) hh D hG hTI hTO h1 hl1 hend hE) (F.args_zip_next_1 _)))
/-! ### enumerate over it -/
theorem enumz_next_item {e z TI TO i1 i2 l1 l2 : Addr} {i : Nat} {xs ys : Array Value} {x y a b old : Value} {Q : Value → Shared → Prop} (D : ZipApart z TI TO i1 i2 l1 l2) (he : IsEnum s.heap e z i old)
    (ez : e ≠ z) (eTI : e ≠ TI) (eTO : e ≠ TO) (e1 : e ≠ i1) (e2 : e ≠ i2) (el1 : e ≠ l1) (el2 : e ≠ l2)
    (hG : ZipG s.heap z TI TO) (hTI : IsPair s.heap TI (.ref i1) (.ref i2)) (hTO : IsPair s.heap TO a b)
    (h1 : s.heap.IsListIter i1 l1 i) (h2 : s.heap.IsListIter i2 l2 i) (hl1 : s.heap.IsList l1 xs) (hl2 : s.heap.IsList l2 ys) (hx : xs[i]? = some x) (hy : ys[i]? = some y)
    (hQ : ∀ h' tk, IsEnumOut h' e z ((i : Int) + 1) (.ref s.heap.objs.size) (s.heap.objs.size + 1) → ZipG h' z TI TO → (∃ u v, IsPair h' TO u v) → h'.IsListIter i1 l1 (i + 1) → h'.IsListIter i2 l2 (i + 1) → IsPair h' s.heap.objs.size x y →
      h'.get? (s.heap.objs.size + 1) = some { cls := .type "tuple", data := .seq #[.int i tk, .ref s.heap.objs.size] } → h'.objs.size = s.heap.objs.size + 2 →
      (∀ c o, c ≠ e → c ≠ z → c ≠ TO → c ≠ i1 → c ≠ i2 → s.heap.get? c = some o → h'.get? c = some o) → Q (.ref (s.heap.objs.size + 1)) { s with heap := h', toks := tk + 1 }) :
    wpAny (model prog w) A (Builtin.«enumerate.__next__» ⟨[.ref e], []⟩) (fun fin s' => ∃ v, fin = .done (.ret v) ∧ Q v s') E s := by
  obtain ⟨hp, g, d, tk, os⟩ := s
  dsimp only at he hG hTI hTO h1 h2 hl1 hl2 hQ
  show wpAny _ _ (field (.ref e) 2 >>= _) _ _ _
  refine wpAny_bind (wpAny_field he rfl (x := .ref z) rfl ?_)
  refine wpAny_bind (wpAny_nextOf_zip_item D hG hTI hTO h1 h2 hl1 hl2 hx hy fun h₁ hG₁ hTO₁ h1₁ h2₁ hP₁ hz₁ hk₁ => ?_)
  dsimp only at hP₁ hz₁ hk₁
  have he₁ : IsEnum h₁ e z i old := hk₁ _ _ ez eTO e1 e2 he
  have hel : e < hp.objs.size := Heap.lt_size he
  show wpAny _ _ (field (.ref e) 3 >>= _) _ _ ⟨h₁, g, d, tk, os⟩
  refine wpAny_bind (wpAny_field he₁ rfl (x := rawInt i) rfl ?_)
  show wpAny _ _ (field (.ref e) 4 >>= _) _ _ ⟨h₁, g, d, tk, os⟩
  refine wpAny_bind (wpAny_field he₁ rfl (x := .none) rfl ?_)
  show wpAny _ _ (mkInt i >>= _) _ _ ⟨h₁, g, d, tk, os⟩
  refine wpAny_bind (wpAny_mkInt ?_)
  show wpAny _ _ (setField (.ref e) 3 (rawInt ((i : Int) + 1)) >>= _) _ _ ⟨h₁, g, d, tk + 1, os⟩
  refine wpAny_bind (wpAny_setField_rec he₁ (by simp) fun h₂ he₂ hs₂ => ?_)
  replace hs₂ : Heap.SameBut e h₁ h₂ := hs₂
  replace he₂ : IsEnum h₂ e z ((i : Int) + 1) old := he₂
  show wpAny _ _ (setField (.ref e) 4 .none >>= _) _ _ ⟨h₂, g, d, tk + 1, os⟩
  refine wpAny_bind (wpAny_setField_rec he₂ (by simp) fun h₃ he₃ hs₃ => ?_)
  replace hs₃ : Heap.SameBut e h₂ h₃ := hs₃
  replace he₃ : IsEnum h₃ e z ((i : Int) + 1) old := he₃
  show wpAny _ _ (newTuple [.int i tk, .ref hp.objs.size] >>= _) _ _ ⟨h₃, g, d, tk + 1, os⟩
  refine wpAny_bind (wpAny_newTuple ?_)
  have hsz : h₃.objs.size = hp.objs.size + 1 := by rw [hs₃.1, hs₂.1, hz₁]
  have he₄ : IsEnum (h₃.push { cls := .type "tuple", data := .seq #[.int i tk, .ref hp.objs.size] }) e z ((i : Int) + 1) old := Heap.get?_push_of_some _ he₃
  have ht₄ : (h₃.push { cls := .type "tuple", data := .seq #[.int i tk, .ref hp.objs.size] }).get? h₃.objs.size = some { cls := .type "tuple", data := .seq #[.int i tk, .ref hp.objs.size] } := Heap.get?_push_size _ rfl
  have hz₄ : (h₃.push { cls := .type "tuple", data := .seq #[.int i tk, .ref hp.objs.size] }).objs.size = h₃.objs.size + 1 := Heap.size_push ..
  have up₄ : ∀ c o, c ≠ e → h₁.get? c = some o → (h₃.push { cls := .type "tuple", data := .seq #[.int i tk, .ref hp.objs.size] }).get? c = some o := fun c o hc x => Heap.get?_push_of_some _ (hs₃.extBut c o hc (hs₂.extBut c o hc x))
  generalize h₃.push { cls := .type "tuple", data := .seq #[.int i tk, .ref hp.objs.size] } = h₄ at he₄ ht₄ hz₄ up₄
  show wpAny _ _ (Builtin.SmallTypes.ownedTupleIsFree (.ref e) >>= _) _ _ ⟨h₄, g, d, tk + 1, os⟩
  refine wpAny_bind ?_
  unfold Builtin.SmallTypes.ownedTupleIsFree
  refine wpAny_bind (wpAny_field he₄ rfl (x := .none) rfl (wpAny_pure ?_))
  simp only [if_true]
  refine wpAny_bind (wpAny_rule ?_)
  refine wpAny_bind (wpAny_field he₄ rfl (x := old) rfl ?_)
  refine wpAny_bind (wpAny_setField_rec he₄ (by simp) fun h₅ he₅ hs₅ => ?_)
  replace hs₅ : Heap.SameBut e h₄ h₅ := hs₅
  replace he₅ : IsEnum h₅ e z ((i : Int) + 1) (.ref hp.objs.size) := he₅
  show wpAny _ _ (Builtin.SmallTypes.ownedTupleHandOut (.ref e) (.ref h₃.objs.size) >>= _) _ _ ⟨h₅, g, d, tk + 1, os⟩
  refine wpAny_bind ?_
  unfold Builtin.SmallTypes.ownedTupleHandOut
  refine wpAny_bind (wpAny_setField_rec he₅ (by simp) fun h₆ he₆ hs₆ => ?_)
  replace hs₆ : Heap.SameBut e h₅ h₆ := hs₆
  replace he₆ : IsEnumOut h₆ e z ((i : Int) + 1) (.ref hp.objs.size) h₃.objs.size := he₆
  refine wpAny_setField_rec he₆ (by simp) fun h₇ he₇ hs₇ => ?_
  replace hs₇ : Heap.SameBut e h₆ h₇ := hs₇
  replace he₇ : IsEnumOut h₇ e z ((i : Int) + 1) (.ref hp.objs.size) h₃.objs.size := he₇
  have up : ∀ c o, c ≠ e → h₁.get? c = some o → h₇.get? c = some o := fun c o hc x => hs₇.extBut c o hc (hs₆.extBut c o hc (hs₅.extBut c o hc (up₄ c o hc x)))
  have ne3 : h₃.objs.size ≠ e := by
    rw [hsz]
    exact Nat.ne_of_gt (Nat.lt_succ_of_lt hel)
  have ht₇ : h₇.get? h₃.objs.size = some { cls := .type "tuple", data := .seq #[.int i tk, .ref hp.objs.size] } := hs₇.extBut _ _ ne3 (hs₆.extBut _ _ ne3 (hs₅.extBut _ _ ne3 ht₄))
  have hz₇ : h₇.objs.size = h₃.objs.size + 1 := by rw [hs₇.1, hs₆.1, hs₅.1, hz₄]
  rw [hsz] at he₇ ht₇ hz₇
  refine wpAny_bind (wpAny_letGo (wpAny_pure ⟨_, rfl, ?_⟩))
  show Q (.ref h₃.objs.size) _
  rw [hsz]
  obtain ⟨u, v, hu⟩ := hTO₁
  obtain ⟨f0, bb, hzb, hf⟩ := hG₁
  exact hQ h₇ tk he₇ ⟨f0, bb, up _ _ (Ne.symm ez) hzb, hf⟩ ⟨u, v, up _ _ (Ne.symm eTO) hu⟩ (h1₁.at fun o q => up _ o (Ne.symm e1) q) (h2₁.at fun o q => up _ o (Ne.symm e2) q) (up _ _ (Nat.ne_of_gt hel) hP₁) ht₇ hz₇ fun c o c0 c1 c2 c3 c4 q => up c o c0 (hk₁ c o c1 c2 c3 c4 q)
theorem wpAny_pyNext_enumz_item {e z TI TO i1 i2 l1 l2 : Addr} {i : Nat} {xs ys : Array Value} {x y a b old : Value} {Q : Option Value → Shared → Prop} (D : ZipApart z TI TO i1 i2 l1 l2) (he : IsEnum s.heap e z i old)
    (ez : e ≠ z) (eTI : e ≠ TI) (eTO : e ≠ TO) (e1 : e ≠ i1) (e2 : e ≠ i2) (el1 : e ≠ l1) (el2 : e ≠ l2)
    (hG : ZipG s.heap z TI TO) (hTI : IsPair s.heap TI (.ref i1) (.ref i2)) (hTO : IsPair s.heap TO a b)
    (h1 : s.heap.IsListIter i1 l1 i) (h2 : s.heap.IsListIter i2 l2 i) (hl1 : s.heap.IsList l1 xs) (hl2 : s.heap.IsList l2 ys) (hx : xs[i]? = some x) (hy : ys[i]? = some y)
    (hQ : ∀ h' tk, IsEnumOut h' e z ((i : Int) + 1) (.ref s.heap.objs.size) (s.heap.objs.size + 1) → ZipG h' z TI TO → (∃ u v, IsPair h' TO u v) → h'.IsListIter i1 l1 (i + 1) → h'.IsListIter i2 l2 (i + 1) → IsPair h' s.heap.objs.size x y →
      h'.get? (s.heap.objs.size + 1) = some { cls := .type "tuple", data := .seq #[.int i tk, .ref s.heap.objs.size] } → h'.objs.size = s.heap.objs.size + 2 →
      (∀ c o, c ≠ e → c ≠ z → c ≠ TO → c ≠ i1 → c ≠ i2 → s.heap.get? c = some o → h'.get? c = some o) → Q (some (.ref (s.heap.objs.size + 1))) { s with heap := h', toks := tk + 1 }) :
    wpAny (model prog w) A (pyNext (.ref e)) Q E s := by
  have hT : s.TypeIs (.ref e) "enumerate" := ⟨_, he, rfl⟩
  unfold pyNext
  exact wpAny_bind (wpAny_attempt (wpAny_callSpecial?_slot (name := Str.ofString "__next__") hT F.slot_enumerate_next
    (wpAny_call_entry F.slot_enumerate_next hT F.entry_enumerate_next
      (enumz_next_item D he ez eTI eTO e1 e2 el1 el2 hG hTI hTO h1 h2 hl1 hl2 hx hy fun h' tk a1 a2 a3 a4 a5 a6 a7 a8 a9 => wpAny_pure (hQ h' tk a1 a2 a3 a4 a5 a6 a7 a8 a9)) (F.args_enumerate_next_1 _))))
theorem wpAny_pyNext_enumz_end {e z TI TO i1 i2 l1 l2 : Addr} {k2 : Nat} {i : Int} {k1 : Nat} {xs ys : Array Value} {a b old : Value} {Q : Option Value → Shared → Prop} (hh : A.handled = none) (D : ZipApart z TI TO i1 i2 l1 l2) (he : IsEnum s.heap e z i old)
    (hG : ZipG s.heap z TI TO) (hTI : IsPair s.heap TI (.ref i1) (.ref i2)) (hTO : IsPair s.heap TO a b)
    (h1 : s.heap.IsListIter i1 l1 k1) (hl1 : s.heap.IsList l1 xs) (hend : xs[k1]? = none)
    (hQ : ∀ h', (∀ c o, c ≠ z → c ≠ TO → c ≠ i1 → c ≠ i2 → s.heap.get? c = some o → h'.get? c = some o) → Q none { s with heap := h' }) : wpAny (model prog w) A (pyNext (.ref e)) Q E s := by
  have hT : s.TypeIs (.ref e) "enumerate" := ⟨_, he, rfl⟩
  unfold pyNext
  refine wpAny_bind (wpAny_attempt (wpAny_callSpecial?_slot (name := Str.ofString "__next__") hT F.slot_enumerate_next
    (wpAny_call_entry F.slot_enumerate_next hT F.entry_enumerate_next ?_ (F.args_enumerate_next_1 _))))
  show wpAny _ _ (field (.ref e) 2 >>= _) _ _ _
  refine wpAny_bind (wpAny_field he rfl (x := .ref z) rfl ?_)
  refine wpAny_bind (wpAny_nextOf_zip_end (k2 := k2) (ys := ys) hh D hG hTI hTO h1 hl1 hend fun h' x he' hx' => ?_)
  obtain ⟨o, ho, hc⟩ := hx'
  refine wpAny_bind (wpAny_isInstance (T := "StopIteration") (b := true) ⟨o, ho, hc⟩ isSubtype_stop ?_)
  exact wpAny_pure (hQ _ he')
end
end PySem
namespace PySem
open Builtin
open Sem (wp)
open AutoSeq1 (wpAny_loadPart')
theorem wpAny_pyIter_zip' {prog : Program} {w : World} {A : Around} {E : Value → Shared → Prop} {s : Shared} {z TI TO : Addr} {Q : Value → Shared → Prop} (hz : IsZip s.heap z TI TO .none) (h : Q (.ref z) s) : wpAny (model prog w) A (pyIter (.ref z)) Q E s := wpAny_pyIter_zip hz h
theorem meets_enumerate_newZ (l TI TO : Addr) :
    Meets (Builtin.«enumerate.__new__» ⟨[.type "enumerate", .ref l], []⟩) (fun _ R s => s.heap.get? l = some { cls := .type "zip", dict := none, data := .fields #[.none, .bool false, .bool false, .ref TI, .ref TO], slots := #[] } ∧
      R (.ok (.ret (.ref s.heap.objs.size))) { s with heap := s.heap.push { cls := .type "enumerate", data := .fields #[.none, .bool false, .ref l, rawInt 0, .none, .none] } }) :=
  .of_wp fun prog w A R s h => by
    obtain ⟨hp, g, d, tk, os⟩ := s; obtain ⟨hl, h⟩ := h
    have hsub := sub_enumerate
    have hL : IsZip (Shared.heap ⟨hp, g, d, tk, os⟩) l TI TO .none := hl
    wp_walk using wpAny_loadPart' hl
    refine wpAny_stack_any fun st => wpAny_pure ?_
    split
    · rename_i c _ _ _ _ _
      cases (c == Value.type "enumerate")
      · wp_walk using wpAny_loadPart' hl, wpAny_pyIter_zip' hL
        exact ⟨_, rfl, h⟩
      · wp_walk using wpAny_loadPart' hl, wpAny_pyIter_zip' hL
        exact ⟨_, rfl, h⟩
    · wp_walk using wpAny_loadPart' hl, wpAny_pyIter_zip' hL
      exact ⟨_, rfl, h⟩
theorem call_enumerate_zip {prog : Program} {w : World} {A : Around} {E : Value → Shared → Prop} {s : Shared} {l TI TO : Addr} {Q : Value → Shared → Prop} (hL : IsZip s.heap l TI TO .none)
    (h : ∀ h', IsEnum h' s.heap.objs.size l 0 .none → h'.objs.size = s.heap.objs.size + 1 → (∀ b o, s.heap.get? b = some o → h'.get? b = some o) → Q (.ref s.heap.objs.size) { s with heap := h' }) :
    wpAny (model prog w) A (call (.type "enumerate") [.ref l]) Q E s := by
  refine callType_new F.called_enumerate (by decide) (F.typeCall_enumerate_1 _) (F.newCall_enumerate_1 _) (fun obj => F.args_object_init_2 obj _) F.entry_enumerate_new
    (meets_enumerate_newZ l TI TO) ⟨hL, ?_⟩
  have he : IsEnum (s.heap.push { cls := .type "enumerate", data := .fields #[.none, .bool false, .ref l, rawInt 0, .none, .none] }) s.heap.objs.size l 0 .none := Heap.get?_push_size _ rfl
  exact ⟨⟨_, he, rfl⟩, h _ he (Heap.size_push ..) fun b o x => Heap.get?_push_of_some _ x⟩
end PySem
namespace L2
open PySem PySem.Spec PyProof.Rows
theorem Inv.turnedNew2 {X : Cx} {pins : List (Addr × Obj)} {σ : List (Option V)} {H : Hp} {s : Shared} {h' : Heap} {t' : Nat} {ch : List Addr} {T T2 : Addr} {ob ob2 : HO} (I : Inv X pins σ H s) (k : ∀ b o, b ∉ ch → s.heap.get? b = some o → h'.get? b = some o) (hf : ∀ b ∈ ch, FpOk X pins H b) (hT : s.heap.objs.size ≤ T) (hT2 : s.heap.objs.size ≤ T2) (ne : T2 ≠ T)
    (new : ObjOk X.prog X.w (upd (upd H T2 ob2) T ob) h' T ob) (new2 : ObjOk X.prog X.w (upd (upd H T2 ob2) T ob) h' T2 ob2) : Inv X pins σ (upd (upd H T2 ob2) T ob) { s with heap := h', toks := t' } := by
  have hn : H T = none := I.hok.fresh hT
  have hn2 : H T2 = none := I.hok.fresh hT2
  have kp : ∀ b u, H b = some u → (upd (upd H T2 ob2) T ob) b = some u := fun b u e => by
    rw [upd_ne (ne_of_none e hn), upd_ne (ne_of_none e hn2)]
    exact e
  have nit : ∀ b u, H b = some u → b ∉ ch := fun b u e z => by
    have q := (hf b z).1
    rw [q] at e; cases e
  refine I.step (g' := s.gens) (d' := s.drawn) (ch := ch) (fun b hb => ⟨(hf b hb).2.2.2.1, (hf b hb).2.1, (hf b hb).2.2.2.2.1, (hf b hb).2.2.2.2.2⟩) (fun b o _ _ hc e _ => k b o hc e) (fun b o _ _ hc e _ => ⟨o.slots, k b o hc e⟩)
    (fun b o _ e n => ?_) (fun b o hc e => ⟨o, k b o hc e⟩) (fun b xs e => kp _ _ e) (fun b o u e => kp _ _ e) (fun b ps e => ⟨#[], ?_⟩) (fun m hm => ?_) (fun b u e => ?_) I.bare
  · rw [upd_ne (Nat.ne_of_lt (Nat.lt_of_lt_of_le (Heap.lt_size e) hT)), upd_ne (Nat.ne_of_lt (Nat.lt_of_lt_of_le (Heap.lt_size e) hT2))]; exact n
  · rw [kp _ _ e]; simp
  · obtain ⟨o, es, ep, ho, r⟩ := hm
    exact ⟨o, es, ep, k _ o (fun z => (hf _ z).2.1 rfl) ho, r⟩
  · by_cases hb : b = T
    · subst hb
      rw [upd_same] at e
      cases e
      exact new
    · by_cases hb2 : b = T2
      · subst hb2
        rw [upd_ne ne, upd_same] at e
        cases e
        exact new2
      · rw [upd_ne hb, upd_ne hb2] at e
        refine (I.hok b u e).stay (fun c v hc q => k c v ?_ q) (fun c q => kp _ _ q) fun c xs q => kp _ _ q
        rcases hc with z | z
        · rw [z]; exact nit b u e
        · exact nit c _ z
/-- pairs of the lists at a and b, each with its place -/
def Itez (K : PySem.W.Frag) (a b : Addr) : It :=
  ⟨fun i H => ∃ (xs ys : List V) (x y : V), SqL K H a xs ∧ SqL K H b ys ∧ xs[i]? = some x ∧ ys[i]? = some y,
    fun i H v H' => ∃ (T T2 : Addr) (x y : V), v = .ref T ∧ H T = none ∧ H T2 = none ∧ T2 ≠ T ∧ H' = upd (upd H T2 (.tup [x, y])) T (.tup [.int (i : Nat), .ref T2]) ∧ (∀ xs, SqL K H a xs → xs[i]? = some x) ∧ ∀ ys, SqL K H b ys → ys[i]? = some y,
    fun i H => ∃ (xs ys : List V), SqL K H a xs ∧ SqL K H b ys ∧ xs.length ≤ i⟩
theorem turn_enumZ {P : Program} {w : World} {K : PySem.W.Frag} {elts : List Expr} {kk : Nat} {tpos : Pos} {a b e z TI TO i1 i2 : Addr} (D : ZipApart z TI TO i1 i2 a b) (ez : e ≠ z) (eTI : e ≠ TI) (eTO : e ≠ TO) (e1 : e ≠ i1) (e2 : e ≠ i2) (ea : e ≠ a) (eb : e ≠ b) :
    Turn P w K (.Tuple elts kk tpos) (Itez K a b) [e, z, TI, TO, i1, i2] e (fun i h => (∃ old, IsEnum h e z ((i : Nat) : Int) old) ∧ ZipG h z TI TO ∧ IsPair h TI (.ref i1) (.ref i2) ∧ (∃ x y, IsPair h TO x y) ∧ h.IsListIter i1 a i ∧ h.IsListIter i2 b i) where
  mem := by simp
  obj := fun i h st c hc => by
    obtain ⟨⟨old, he⟩, ⟨f0, bb, hz, _⟩, hTI, ⟨x, y, hTO⟩, ⟨o1, q1, _, d1⟩, ⟨o2, q2, _, d2⟩⟩ := st
    have e' : c = e ∨ c = z ∨ c = TI ∨ c = TO ∨ c = i1 ∨ c = i2 := by simpa using hc
    rcases e' with q | q | q | q | q | q
    · rw [q]; exact ⟨_, he, fun v q => nomatch q⟩
    · rw [q]; exact ⟨_, hz, fun v q => nomatch q⟩
    · rw [q]; exact ⟨_, hTI, fun v q => nomatch q⟩
    · rw [q]; exact ⟨_, hTO, fun v q => nomatch q⟩
    · rw [q]; exact ⟨o1, q1, fun v q => by rw [d1] at q; cases q⟩
    · rw [q]; exact ⟨o2, q2, fun v q => by rw [d2] at q; cases q⟩
  keep := fun i h h' st k => by
    obtain ⟨⟨old, he⟩, ⟨f0, bb, hz, hf⟩, hTI, ⟨x, y, hTO⟩, h1, h2⟩ := st
    exact ⟨⟨old, k e (by simp) _ he⟩, ⟨f0, bb, k z (by simp) _ hz, hf⟩, k TI (by simp) _ hTI, ⟨x, y, k TO (by simp) _ hTO⟩, h1.at fun o q => k i1 (by simp) o q, h2.at fun o q => k i2 (by simp) o q⟩
  item := by
    intro X hP hw hK hc i pins s σ H E I hf st hg
    subst hP hw hK
    obtain ⟨⟨old, he⟩, hG, hTI, ⟨x0, y0, hTO⟩, h1, h2⟩ := st
    obtain ⟨xs, ys, x, y, hqx, hqy, hx, hy⟩ := hg
    obtain ⟨its, rv, p, _⟩ := I.list hqx
    obtain ⟨its2, rv2, p2, _⟩ := I.list hqy
    obtain ⟨u, hu, ru⟩ := rv.get hx
    obtain ⟨u2, hu2, ru2⟩ := rv2.get hy
    have hel : e < s.heap.objs.size := Heap.lt_size he
    refine wpAny_pyNext_enumz_item D he ez eTI eTO e1 e2 ea eb hG hTI hTO h1 h2 p.isList p2.isList (x := u) (y := u2) (by simpa using hu) (by simpa using hu2) fun h' tk ho hG' hTO' h1' h2' hPr hT hsz hk => ?_
    refine ⟨_, rfl, wpAny_letOwnedTupleGo_enum (s := { s with heap := h', toks := tk + 1 }) ho fun h'' he' sb => ?_⟩
    have up : ∀ c o, c ≠ e → h'.get? c = some o → h''.get? c = some o := fun c o hc q => (sb.2 _ hc).trans q
    have ne1 : s.heap.objs.size ≠ e := Nat.ne_of_gt hel
    have ne2 : s.heap.objs.size + 1 ≠ e := Nat.ne_of_gt (Nat.lt_succ_of_lt hel)
    have hT2 := up _ _ ne2 hT
    have hPr2 := up _ _ ne1 hPr
    have neT : s.heap.objs.size ≠ s.heap.objs.size + 1 := Nat.ne_of_lt (Nat.lt_succ_self _)
    have I1 : Inv X pins σ (upd (upd H s.heap.objs.size (.tup [x, y])) (s.heap.objs.size + 1) (.tup [.int (i : Nat), .ref s.heap.objs.size])) { s with heap := h'', toks := tk + 1 } :=
      I.turnedNew2 (ch := [e, z, TI, TO, i1, i2]) (fun c o hb q => (sb.2 c (fun q' => hb (by simp [q']))).trans (hk c o (fun q' => hb (by simp [q'])) (fun q' => hb (by simp [q'])) (fun q' => hb (by simp [q'])) (fun q' => hb (by simp [q'])) (fun q' => hb (by simp [q'])) q)) hf (Nat.le_succ _) (Nat.le_refl _) neT
        ⟨by show 2 ≤ sizeLine; decide, [.int i tk, .ref s.heap.objs.size], .cons ⟨_, rfl⟩ (.cons rfl .nil), ⟨_, hT2, rfl, _, rfl⟩⟩
        ⟨by show 2 ≤ sizeLine; decide, [u, u2], .cons ru (.cons ru2 .nil), ⟨_, hPr2, rfl, _, rfl⟩⟩
    obtain ⟨f0, bb, hz, hzf⟩ := hG'
    obtain ⟨x1, y1, hTO1⟩ := hTO'
    refine ⟨.ref (s.heap.objs.size + 1), _, I1, rfl, ⟨_, s.heap.objs.size, x, y, rfl, I.hok.fresh (Nat.le_succ _), I.hok.fresh (Nat.le_refl _), neT, rfl, fun l hl => by rw [I.list_inj hl hqx]; exact hx, fun l hl => by rw [I.list_inj hl hqy]; exact hy⟩,
      ⟨⟨.ref s.heap.objs.size, ?_⟩, ⟨f0, bb, up _ _ (Ne.symm ez) hz, hzf⟩, up _ _ (Ne.symm eTI) (hk _ _ (Ne.symm eTI) D.TIz D.TITO D.TIi1 D.TIi2 hTI), ⟨x1, y1, up _ _ (Ne.symm eTO) hTO1⟩, h1'.at fun o q => up _ o (Ne.symm e1) q, h2'.at fun o q => up _ o (Ne.symm e2) q⟩, fun c hcm => ?_⟩
    · have e1 : ((i + 1 : Nat) : Int) = (i : Int) + 1 := by omega
      rw [e1]; exact he'
    · have hlt : c < s.heap.objs.size := by
        have e' : c = e ∨ c = z ∨ c = TI ∨ c = TO ∨ c = i1 ∨ c = i2 := by simpa using hcm
        rcases e' with q | q | q | q | q | q
        · rw [q]; exact hel
        · obtain ⟨_, _, hz0, _⟩ := hG
          rw [q]; exact Heap.lt_size hz0
        · rw [q]; exact Heap.lt_size hTI
        · rw [q]; exact Heap.lt_size hTO
        · rw [q]; obtain ⟨_, e1, _⟩ := h1; exact Heap.lt_size e1
        · rw [q]; obtain ⟨_, e2, _⟩ := h2; exact Heap.lt_size e2
      rw [upd_ne (Nat.ne_of_lt (Nat.lt_succ_of_lt hlt)), upd_ne (Nat.ne_of_lt hlt)]
      exact (hf c hcm).1
  done := by
    intro X hP hw hK hc i pins s σ H E I hf st hg
    subst hP hw hK
    obtain ⟨⟨old, he⟩, hG, hTI, ⟨x0, y0, hTO⟩, h1, h2⟩ := st
    obtain ⟨xs, ys, hqx, hqy, hend⟩ := hg
    obtain ⟨its, rv, p, _⟩ := I.list hqx
    have l1 := rv.length
    exact wpAny_pyNext_enumz_end (k2 := i) (ys := #[]) (I.ok.hd hc) D he hG hTI hTO h1 p.isList (by simp; omega) fun h' hk => ⟨rfl, I.turnedL (t' := s.toks) (ch := [e, z, TI, TO, i1, i2]) (fun c o hb q =>
      hk c o (fun q' => hb (by simp [q'])) (fun q' => hb (by simp [q'])) (fun q' => hb (by simp [q'])) (fun q' => hb (by simp [q'])) q) hf⟩
  self := fun A i s Q E st h => let ⟨⟨_, he⟩, _⟩ := st; wpAny_pyIter_enum he h
def iEnumZ (K : PySem.W.Frag) (ta : TA) : TI := fun σ H R => ta σ H fun vs H1 => ∃ a b xs ys, vs = [.ref a, .ref b] ∧ SqL K H1 a xs ∧ SqL K H1 b ys ∧ R (Itez K a b) H1
theorem pi_enumZ {X : Cx} {e e2 : Expr} {ta : TA} {p pos tpos p' pos' : Pos} {elts : List Expr} {kk : Nat} (hg : Gl X "enumerate") (hm : X.mg "enumerate" = none) (hg2 : Gl X "zip") (hm2 : X.mg "zip" = none) (ha : PA X [e, e2] ta)
    (hs : starEach [e, e2] X.env = (false, eval e X.env) :: starEach [e2] X.env := by rfl) (hpl : (backTo pos (starEach [e2] X.env)).any (·.1) = false := by rfl)
    (hs2 : starEach [(.Call (.Name "zip" p) [e, e2] [] pos : Expr)] X.env = [(false, eval (.Call (.Name "zip" p) [e, e2] [] pos) X.env)] := by rfl) :
    PI X (.Tuple elts kk tpos) (.Call (.Name "enumerate" p') [.Call (.Name "zip" p) [e, e2] [] pos] [] pos') (iEnumZ X.K ta) := by
  refine ⟨fun pins s σ H R I h => ?_⟩
  refine Call_ (ld_blt I hg hm boot_enumerate (PyProof.Rows.callWith_type1 ?_ hs2 rfl))
  rw [hs2]
  show wpAny _ _ (spliced [(false, eval (.Call (.Name "zip" p) [e, e2] [] pos) X.env)]) _ _ s
  refine Calls.spliced_cons ?_
  refine Call_ (ld_blt I hg2 hm2 PyProof.Rows.boot_zip (PyProof.Rows.callWith_type1 (thn (ha.run pos pins s σ H _ I h) fun us s1 ⟨vs, H1, I1, r1, q1⟩ => ?_) hs hpl))
  obtain ⟨a, b, xs, ys, ex, hqx, hqy, q⟩ := q1
  subst ex
  cases r1 with
  | cons r rr =>
    cases rr with
    | cons r' rr =>
      cases rr
      cases r
      cases r'
      obtain ⟨its, rv, p1, _⟩ := I1.list hqx
      obtain ⟨its2, rv2, p2, _⟩ := I1.list hqy
      have la : a < s1.heap.objs.size := p1.lt
      have lb : b < s1.heap.objs.size := p2.lt
      refine call_zip_2 p1.isList p2.isList fun h' hz hTI hTO h1 h2 hsz hk => Calls.spliced_nil ?_
      refine call_enumerate_zip (s := { s1 with heap := h' }) hz fun h2' hE hsz2 hk2 => wpAny_pyIter_enum hE ?_
      have I2 : Inv X pins σ H1 { s1 with heap := h2' } := I1.kept (t' := s1.toks) fun b o q => hk2 b o (hk b o q)
      dsimp only at hE hsz2
      rw [hsz] at hE hsz2
      refine ⟨h'.objs.size, [h'.objs.size, s1.heap.objs.size + 4, s1.heap.objs.size + 2, s1.heap.objs.size + 3, s1.heap.objs.size, s1.heap.objs.size + 1], _, _, H1, rfl, I2, turn_enumZ (PySem.W.ktu_apart s1.heap.objs.size a b la lb) ?_ ?_ ?_ ?_ ?_ ?_ ?_, ⟨⟨.none, ?_⟩, ⟨.none, false, hk2 _ _ hz, .inl rfl⟩, hk2 _ _ hTI, ⟨_, _, hk2 _ _ hTO⟩, h1.at fun o q => hk2 _ o q, h2.at fun o q => hk2 _ o q⟩, fun c hcm => ?_, q⟩
      · rw [hsz]; exact Nat.ne_of_gt (Nat.lt_succ_self _)
      · rw [hsz]; exact Nat.ne_of_gt (Nat.add_lt_add_left (by decide) _)
      · rw [hsz]; exact Nat.ne_of_gt (Nat.add_lt_add_left (by decide) _)
      · rw [hsz]; exact Nat.ne_of_gt (Nat.lt_add_of_pos_right (by decide))
      · rw [hsz]; exact Nat.ne_of_gt (Nat.add_lt_add_left (by decide) _)
      · rw [hsz]; exact Nat.ne_of_gt (Nat.lt_add_right 5 la)
      · rw [hsz]; exact Nat.ne_of_gt (Nat.lt_add_right 5 lb)
      · rw [hsz]; exact hE
      · have e' : c = h'.objs.size ∨ c = s1.heap.objs.size + 4 ∨ c = s1.heap.objs.size + 2 ∨ c = s1.heap.objs.size + 3 ∨ c = s1.heap.objs.size ∨ c = s1.heap.objs.size + 1 := by simpa using hcm
        have hle : s1.heap.objs.size ≤ c := by
          rcases e' with z | z | z | z | z | z
          · rw [z, hsz]; exact Nat.le_add_right _ _
          · rw [z]; exact Nat.le_add_right _ _
          · rw [z]; exact Nat.le_add_right _ _
          · rw [z]; exact Nat.le_add_right _ _
          · rw [z]; exact Nat.le_refl _
          · rw [z]; exact Nat.le_add_right _ _
        exact I1.fpOk hle (I1.hok.fresh hle)
theorem walk_enumZ {K : PySem.W.Frag} {a b : Addr} {xs ys : List V} (hl : xs.length = ys.length) : Walk (Itez K a b) xs.length (fun H => SqL K H a xs ∧ SqL K H b ys)
    (fun i H v H' => ∃ (T T2 : Addr) (x y : V), v = .ref T ∧ H T = none ∧ H T2 = none ∧ T2 ≠ T ∧ H' = upd (upd H T2 (.tup [x, y])) T (.tup [.int (i : Nat), .ref T2]) ∧ xs[i]? = some x ∧ ys[i]? = some y) :=
  ⟨fun i H hi q => ⟨xs, ys, xs[i], ys[i], q.1, q.2, by simp [hi], by simp [← hl, hi]⟩, fun H q => ⟨xs, ys, q.1, q.2, Nat.le_refl _⟩, fun i H x H' hi q y => by
    obtain ⟨T, T2, x, y, h1, h2, h3, h4, h5, h6, h7⟩ := y
    exact ⟨T, T2, x, y, h1, h2, h3, h4, h5, h6 xs q.1, h7 ys q.2⟩⟩
end L2

namespace Pw
open PySem PySem.Spec PyProof.Rows L2 Evl
/-! ### classes: their methods, their __init__, what isinstance asks -/
structure CalM (P : Program) (w : World) (K : PySem.W.Frag) (mg : Str → Option Value) (base : Heap) (CX : CXT) (C : Addr) (m : Str) (k : Nat) (ps : List Str) (sp : Sp) : Prop where
  ex : ∃ (f : Addr) (fd : FuncData), FnOk P w K mg base CX k f fd ps sp ∧ Cls K C ∧ Meth K C m f ∧ Binds K fd ps []
structure CalI (P : Program) (w : World) (K : PySem.W.Frag) (mg : Str → Option Value) (base : Heap) (CX : CXT) (x : Str) (C : Addr) (k : Nat) (ps : List Str) (sp : Sp) : Prop where
  ex : ∃ (f : Addr) (fd : FuncData), FnOk P w K mg base CX k f fd ps sp ∧ Mk K C f ∧ mg x = some (.ref C) ∧ Binds K fd ps []
/-- a method of the text -/
structure DatM (K : PySem.W.Frag) (C : Addr) (m q : Str) (st : Stmt) (ps : List Str) (f : Addr) (fd : FuncData) : Prop where
  F : Fun K m q st f fd
  c : Cls K C
  at_ : PySem.W.findIn K (.ref C) m = some (some (.ref f))
  fn : PySem.W.isFn K (.ref f) = true
  b : Binds K fd ps []
/-- an __init__ of the text -/
structure DatI (K : PySem.W.Frag) (mg : Str → Option Value) (x : Str) (C : Addr) (q : Str) (st : Stmt) (ps : List Str) (f : Addr) (fd : FuncData) : Prop where
  F : Fun K "__init__" q st f fd
  made : Mk K C f
  g : mg x = some (.ref C)
  b : Binds K fd ps []
/-- a class that is made without an __init__ of its own -/
structure MkO (K : PySem.W.Frag) (C : Addr) : Prop where
  makes : PySem.W.makesIn K C = true
  init : PySem.W.findIn K (.ref C) "__init__" = some (some (.builtin "object.__init__"))
  kp : PySem.W.keepIn K (.ref C) = true
/-- what isinstance asks of the class of what it is handed -/
structure Kind (K : PySem.W.Frag) (C : Addr) : Prop where
  cl : Cls K C
  ca : PySem.W.findIn K (.ref C) "__class__" = some (some (.builtin "object.__class__"))
  sg : PySem.W.specialIn K (.builtin "object.__class__") "__get__" = some (some (.builtin "getset_descriptor.__get__"))
  tk : PySem.W.takesIn K (.builtin "object.__class__") = some true
  mo : PySem.W.mroIn K C (.type "object") = some true
section
variable {P : Program} {w : World} {K : PySem.W.Frag} {mg : Str → Option Value} {base : Heap} {CX : CXT} {C : Addr} {m q x : Str} {st : Stmt} {ps : List Str} {f : Addr} {fd : FuncData} {k : Nat} {sp : Sp}
theorem DatM.cal (D : DatM K C m q st ps f fd) (h : FnOk P w K mg base CX k f fd ps sp) : CalM P w K mg base CX C m k ps sp := ⟨f, fd, h, D.c, ⟨D.at_, D.fn, D.F.kp⟩, D.b⟩
theorem DatI.cal (D : DatI K mg x C q st ps f fd) (h : FnOk P w K mg base CX k f fd ps sp) : CalI P w K mg base CX x C k ps sp := ⟨f, fd, h, D.made, D.g, D.b⟩
end
section
variable {X : Cx} {x m : Str} {p pos apos : Pos} {o e : Expr} {es : List Expr} {ta : TE} {t : TA} {sp : Sp} {k : Nat} {ps : List Str} {C : Addr}
theorem pe_m0 (M : CalM X.prog X.w X.K X.mg X.base CX0 C m k ps sp) (hr : Room k X.A) (he : PE X o ta) (ha : PA X (e :: es) t) (hst : starEach (e :: es) X.env = (false, eval e X.env) :: starEach es X.env := by rfl) (hpl : (backTo pos (starEach es X.env)).any (·.1) = false := by rfl)
    {pl : Sem Bool} (ht : eval (.Call (.Attribute o m apos) (e :: es) [] pos) X.env = (do
      let ov ← eval o X.env
      standAt apos.atName
      let (f, first) ← holding [ov] (getMethod ov m pl)
      callWith pos f first (backTo pos (starEach (e :: es) X.env)) (backToKw pos (keywordEach [] X.env))) := by rfl) :
    PE X (.Call (.Attribute o m apos) (e :: es) [] pos) (tMeth C m sp [] E0 ta t) := by
  obtain ⟨f, fd, F, c, mt, b⟩ := M.ex
  exact pe_meth he c mt F hr b .nil pass0 ha hst hpl ht
theorem pe_mk0 (M : CalI X.prog X.w X.K X.mg X.base CX0 x C k ps sp) (hr : Room (k + 1) X.A) (ha : PA X (e :: es) t) (hg : Gl X x := by rfl) (hdb : (x == ("__debug__" : Str)) = false := by decide)
    (he : starEach (e :: es) X.env = (false, eval e X.env) :: starEach es X.env := by rfl) (hpl : (backTo pos (starEach es X.env)).any (·.1) = false := by rfl) :
    PE X (.Call (.Name x p) (e :: es) [] pos) (tMake C sp [] E0 t) := by
  obtain ⟨f, fd, F, mk, g, b⟩ := M.ex
  exact pe_make mk F hr hg g b .nil pass0 ha hdb he hpl
/-- C(): a new instance -/
def tMakeO (C : Addr) : TE := fun _ H Q => ∀ x dx, H x = none → H dx = none → dx ≠ x → Q (.ref x) (upd (upd H dx (.own x)) x (.ins C dx []))
theorem run_makeO {pins : List (Addr × Obj)} {σ : L2.St} {H : Hp} {s : Shared} {Q : VK} (M : MkO X.K C) (I : Inv X pins σ H s)
    (h : ∀ x dx, H x = none → H dx = none → dx ≠ x → Q (.ref x) (upd (upd H dx (.own x)) x (.ins C dx []))) : wpAny (model X.prog X.w) X.A (call (.ref C) []) (EP X pins σ Q) X.xe s := by
  have hq := h (s.heap.objs.size + 1) s.heap.objs.size (I.hok.fresh (Nat.le_succ _)) (I.hok.fresh (Nat.le_refl _)) (Nat.ne_of_lt (Nat.lt_succ_self _))
  have I2 := Inv.made (C := C) I
  have Y := PySem.W.makes_of (M := model X.prog X.w) I.kIn M.makes
  have e2 : ((s.heap.push PySem.W.emptyDict).push (PySem.W.instObj C s.heap.objs.size)).get? (s.heap.objs.size + 1) = some (PySem.W.instObj C s.heap.objs.size) := by
    have := Heap.get?_push_size (s.heap.push PySem.W.emptyDict) (o := PySem.W.instObj C s.heap.objs.size) rfl
    rwa [Heap.size_push] at this
  refine wpAny_call (make_map0 I.kIn M.makes M.init (fun self => PySem.W.Looks.of_pure (PySem.W.oi_bind self)) ?_)
  have t1 : PySem.W.Looks (model X.prog X.w) ((s.heap.push PySem.W.emptyDict).push (PySem.W.instObj C s.heap.objs.size)) (typeOf (.ref (s.heap.objs.size + 1))) (.ref C) := (PySem.W.Looks.ld e2).andThen .now
  have t2 : PySem.W.Looks (model X.prog X.w) ((s.heap.push PySem.W.emptyDict).push (PySem.W.instObj C s.heap.objs.size)) (isInstance (.ref (s.heap.objs.size + 1)) (.type "object")) true := t1.andThen (Y.top.keeps fun b o e => Heap.get?_push_of_some _ (Heap.get?_push_of_some _ e))
  refine codeAny_call_builtin PySem.W.oi_plain PySem.W.entry_oi (@PySem.W.check_slot (model X.prog X.w) _ _ ⟨(s.heap.push PySem.W.emptyDict).push (PySem.W.instObj C s.heap.objs.size), s.gens, s.drawn, s.toks, s.os⟩ "object.__init__" "object" "__init__" (.ref (s.heap.objs.size + 1)) [] [] _ PySem.W.oi_kind PySem.W.oi_split t2 (PySem.W.oi_args (.ref (s.heap.objs.size + 1))) ?_)
  rw [PySem.W.oi_run]
  exact wpAny_pure ⟨rfl, V.ref (s.heap.objs.size + 1), _, I2, rfl, hq⟩
theorem pe_makeO (M : MkO X.K C) (hm : X.mg x = some (.ref C)) (hg : Gl X x := by rfl) (hdb : (x == ("__debug__" : Str)) = false := by decide) : PE X (.Call (.Name x p) [] [] pos) (tMakeO C) := by
  refine ⟨fun pins s σ H Q I h => ?_⟩
  refine wpAny_Call_Name_kw (ld_glob I hg hm ?_ hdb)
  exact PySem.W.callWith_K0 I.kIn M.kp (run_makeO M I h)
/-- an attribute, the frame's classes written out -/
theorem pe_fldK {K : PySem.W.Frag} {f : Str} (hk : X.K = K) (he : PE X o ta) (hb : attributeBase o f X.env (eval o X.env) = eval o X.env) : PE X (.Attribute o f pos) (tFld K ta f) := by
  subst hk
  exact pe_fld he hb
/-- one of two readings -/
def tAlt (t u : TE) : TE := fun σ H Q => t σ H Q ∨ u σ H Q
theorem pe_alt {t u : TE} (h1 : PE X e t) (h2 : PE X e u) : PE X e (tAlt t u) := ⟨fun pins s σ H Q I h => h.elim (h1.run pins s σ H Q I) (h2.run pins s σ H Q I)⟩
end
section
variable {K : PySem.W.Frag} {σ : L2.St} {H H' : Hp} {ta tv te tb : TE} {tA : TA} {x z v : V} {D : Ends} {tz : TS} {a C dx : Addr} {fs : List (Str × V)} {f m : Str} {sp : Sp} {E : XK} {vs : List V}
/-- an attribute -/
theorem ev_fld (h : Ev ta σ H (.ref a)) (e : H a = some (.ins C dx fs)) (c : Cls K C) (n : NoAttr K C f) (l : fs.lookup f = some v) : Ev (tFld K ta f) σ H v := fun H1 e1 Q q =>
  h H1 e1 _ fun H2 e2 => ⟨a, C, dx, fs, v, rfl, e2 _ _ (e1 _ _ e), c, n, l, q H2 e2⟩
theorem s_fld (hv : Ev tv σ H v) (h : Ev ta σ H (.ref a)) (e : H a = some (.ins C dx fs)) (c : Cls K C) (n : NoAttr K C f) (hl : fs.length < 1000) (k : ∀ H1, Ex H H1 → D.nx σ (upd H1 a (.ins C dx (putF f v fs)))) : sFld K ta tv f D σ H :=
  hv H (Ex.refl H) _ fun H1 e1 => h H1 e1 _ fun H2 e2 => ⟨a, C, dx, fs, rfl, e2 _ _ (e1 _ _ e), c, n, hl, k H2 (e1.trans e2)⟩
theorem s_fldL {xs : List V} (hv : EvL tv σ H xs) (h : Ev ta σ H (.ref a)) (e : H a = some (.ins C dx fs)) (c : Cls K C) (n : NoAttr K C f) (hl : fs.length < 1000) (k : ∀ p H1, H p = none → Ex H H1 → H1 p = some (.lst xs) → D.nx σ (upd H1 a (.ins C dx (putF f (.ref p) fs)))) : sFld K ta tv f D σ H :=
  hv H (Ex.refl H) _ fun p H1 np e1 hp => h H1 e1 _ fun H2 e2 => ⟨a, C, dx, fs, rfl, e2 _ _ (e1 _ _ e), c, n, hl, k p H2 np (e1.trans e2) (e2 _ _ hp)⟩
/-- a new thing at x of which W holds -/
def EvW (te : TE) (σ : L2.St) (H : Hp) (W : Addr → Hp → Prop) : Prop := ∀ H1, Ex H H1 → ∀ Q : VK, (∀ x H2, H1 x = none → Ex H1 H2 → W x H2 → Q (.ref x) H2) → te σ H1 Q
/-- C(..) -/
theorem ew_make {W : Addr → Hp → Prop} {Pa : List V → Hp → Prop} (h : EvAP tA σ H Pa)
    (hs : ∀ vs H1, Ex H H1 → Pa vs H1 → ∀ x dx, H1 x = none → H1 dx = none → dx ≠ x → ∀ Q : VK, (∀ H2, Ex H1 H2 → W x H2 → Q .non H2) → ∀ E : XK, sp (.ref x :: (vs ++ [])) (upd (upd H1 dx (.own x)) x (.ins C dx [])) Q E) : EvW (tMake C sp [] E tA) σ H W := fun H1 e1 Q q =>
  h H1 e1 _ fun vs H2 e2 hP => fun x dx nx nd ne => hs vs H2 (e1.trans e2) hP x dx nx nd ne _ (fun H3 e3 hW => ⟨rfl, q x H3 (fresh_back e2 nx) (e2.trans e3) hW⟩) E
theorem ew_makeO {W : Addr → Hp → Prop} (hs : ∀ H1 H2 x dx, Ex H H1 → H1 x = none → Ex H1 H2 → H2 x = some (.ins C dx []) → W x H2) : EvW (tMakeO C) σ H W := fun H1 e1 Q q x dx nx nd ne => by
  have e2 : Ex H1 (upd (upd H1 dx (.own x)) x (.ins C dx [])) := fun b o hb => by
    rw [upd_ne (ne_of_none hb nx), upd_ne (ne_of_none hb nd)]
    exact hb
  exact q x _ nx e2 (hs H1 _ x dx e1 nx e2 upd_same)
theorem q_asgW {i : Nat} {W : Addr → Hp → Prop} (h : EvW te σ H W) (k : ∀ x H1, H x = none → Ex H H1 → W x H1 → tz D (σ.set i (some (.ref x))) H1) : tSeq (tAsg te (gName i)) tz D σ H := h H (Ex.refl H) _ k
theorem s_retW {W : Addr → Hp → Prop} (h : EvW te σ H W) (k : ∀ x H1, H x = none → Ex H H1 → W x H1 → D.rt (.ref x) H1) : tRet te D σ H := h H (Ex.refl H) _ k
/-- o.m(..) -/
theorem ev_meth {Pa : List V → Hp → Prop} (h : Ev te σ H (.ref a)) (e : H a = some (.ins C dx fs)) (l : fs.lookup m = none) (hA : EvAP tA σ H Pa) (hs : ∀ vs H1, Ex H H1 → Pa vs H1 → SpV sp (.ref a :: (vs ++ [])) H1 z) : Ev (tMeth C m sp [] E te tA) σ H z := fun H1 e1 Q q =>
  h H1 e1 _ fun H2 e2 => ⟨a, dx, fs, rfl, e2 _ _ (e1 _ _ e), l, hA H2 (e1.trans e2) _ fun vs H3 e3 hP => hs vs H3 ((e1.trans e2).trans e3) hP H3 (Ex.refl H3) Q (fun H4 e4 => q H4 ((e2.trans e3).trans e4)) E⟩
/-- the same of a new thing -/
theorem ev_methW {W : Addr → Hp → Prop} {Pa : Addr → List V → Hp → Prop} (h : EvW te σ H W) (e : ∀ x H1, Ex H H1 → W x H1 → ∃ dx fs, H1 x = some (.ins C dx fs) ∧ fs.lookup m = none) (hA : ∀ x H1, Ex H H1 → W x H1 → EvAP tA σ H1 (Pa x))
    (hs : ∀ x vs H1 H2, Ex H H1 → W x H1 → Ex H1 H2 → Pa x vs H2 → SpV sp (.ref x :: (vs ++ [])) H2 z) : Ev (tMeth C m sp [] E te tA) σ H z := fun H1 e1 Q q =>
  h H1 e1 _ fun x H2 nx e2 hW => by
    obtain ⟨dx, fs, g1, g2⟩ := e x H2 (e1.trans e2) hW
    exact ⟨x, dx, fs, rfl, g1, g2, hA x H2 (e1.trans e2) hW H2 (Ex.refl H2) _ fun vs H3 e3 hP => hs x vs H2 H3 (e1.trans e2) hW e3 hP H3 (Ex.refl H3) Q (fun H4 e4 => q H4 ((e2.trans e3).trans e4)) E⟩
theorem ev_alt1 {t u : TE} (h : Ev t σ H v) : Ev (tAlt t u) σ H v := fun H1 e Q q => .inl (h H1 e Q q)
theorem ev_alt2 {t u : TE} (h : Ev u σ H v) : Ev (tAlt t u) σ H v := fun H1 e Q q => .inr (h H1 e Q q)
theorem ew_alt1 {t u : TE} {W : Addr → Hp → Prop} (h : EvW t σ H W) : EvW (tAlt t u) σ H W := fun H1 e Q q => .inl (h H1 e Q q)
theorem ew_alt2 {t u : TE} {W : Addr → Hp → Prop} (h : EvW u σ H W) : EvW (tAlt t u) σ H W := fun H1 e Q q => .inr (h H1 e Q q)
/-- isinstance of an instance -/
theorem rc_isiK {B : Addr} {b : Bool} (k : Kind K C) (e : H a = some (.ins C dx fs)) (hb : PySem.W.kitOne K (.ref C) (.ref B) = some b) : RC (rIsi K) [.ref a, .ref B] H (.bl b) := fun H1 e1 _ q =>
  ⟨.ref a, .ref B, .ref C, .ref B, b, rfl, .own B, .base (.ins (e1 _ _ e) k.cl k.ca k.sg k.tk k.mo), hb, q H1 (Ex.refl H1)⟩
/-- __init__ as far as the heap goes -/
theorem ex_init {H1 : Hp} {x dx : Addr} (nx : H x = none) (nd : H dx = none) (ne : dx ≠ x) (e : Ex (upd (upd H dx (.own x)) x (.ins C dx fs)) H1) (o : HO) : Ex H (upd H1 x o) := fun b u hb => by
  have h1 := ne_of_none hb nx
  rw [upd_ne h1]
  refine e b u ?_
  rw [upd_ne h1, upd_ne (ne_of_none hb nd)]
  exact hb
end
end Pw

namespace Pw
open PySem PySem.Spec PyProof.Rows L2 Evl
section
variable {K : PySem.W.Frag} {σ : L2.St} {H H' : Hp} {ta tb tc te te2 : TE} {t u : TT} {x y z v : V} {D : Ends} {tz tu : TS} {wi : TI} {g : TG} {n : Nat} {Y : Nat → Hp → V → Hp → Prop}
/-! ### range with a step; lists of new lists -/
theorem ei_rngC {tA : TA} {lo hi c : Int} {n : Nat} (h : EvA tA σ H [.int lo, .int hi, .int c]) (hc : RgC lo hi c n) : EvG (iRng3 tA) σ H n (fun _ => True) (YFn fun i => .int (lo + (i : Nat) * c)) := fun H1 e R q =>
  h H1 e _ fun H2 e2 => ⟨lo, hi, c, n, rfl, hc, q _ H2 walk_rangeC e2⟩
/-- lists stand at rs -/
def LsAt (H : Hp) (rs : List Addr) (yss : List (List V)) : Prop := rs.length = yss.length ∧ ∀ (i : Nat) (r : Addr) (ys : List V), rs[i]? = some r → yss[i]? = some ys → H r = some (.lst ys)
theorem LsAt.ex {rs : List Addr} {yss : List (List V)} (e : Ex H H') (h : LsAt H rs yss) : LsAt H' rs yss := ⟨h.1, fun i r ys h1 h2 => e _ _ (h.2 i r ys h1 h2)⟩
def EvLs (te : TE) (σ : L2.St) (H : Hp) (yss : List (List V)) : Prop := ∀ H1, Ex H H1 → ∀ Q : VK, (∀ p rs H2, H1 p = none → Ex H1 H2 → H2 p = some (.lst (rs.map V.ref)) → LsAt H2 rs yss → Q (.ref p) H2) → te σ H1 Q
theorem LsAt.snoc {rs : List Addr} {yss : List (List V)} {r : Addr} {ys : List V} (h : LsAt H rs yss) (hr : H r = some (.lst ys)) : LsAt H (rs ++ [r]) (yss ++ [ys]) := by
  refine ⟨by rw [List.length_append, List.length_append, h.1]; rfl, fun i s zs h1 h2 => ?_⟩
  by_cases c : i < rs.length
  · rw [List.getElem?_append_left c] at h1
    rw [List.getElem?_append_left (by rw [← h.1]; exact c)] at h2
    exact h.2 i s zs h1 h2
  · rw [List.getElem?_append_right (by omega)] at h1
    rw [List.getElem?_append_right (by rw [← h.1]; omega), ← h.1] at h2
    have e : i - rs.length = 0 := by
      have := (List.getElem?_eq_some_iff.mp h1).1
      rw [List.length_singleton] at this
      omega
    rw [e] at h1 h2
    cases h1
    cases h2
    exact hr
theorem els_lst2 {xs ys : List V} (h1 : EvL te σ H xs) (h2 : EvL te2 σ H ys) : EvLs (tLst (tCons te (tCons te2 tNil))) σ H [xs, ys] := fun H1 e Q q =>
  h1 H1 e _ fun a H2 na e2 ha => h2 H2 (e.trans e2) _ fun b H3 nb e3 hb => ⟨by show 2 ≤ sizeLine; decide, fun p hp => by
    have ha3 := e3 _ _ ha
    refine q p [a, b] _ (fresh_back (e2.trans e3) hp) ((e2.trans e3).trans (Ex.new hp)) upd_same ?_
    refine ⟨rfl, fun i r zs g1 g2 => ?_⟩
    match i, g1, g2 with
    | 0, g1, g2 =>
      cases g1; cases g2
      rw [upd_ne (ne_of_none ha3 hp)]
      exact ha3
    | 1, g1, g2 =>
      cases g1; cases g2
      rw [upd_ne (ne_of_none hb hp)]
      exact hb⟩
/-- [e for x in ..] where e gives a new list each turn -/
theorem els_comp {vs : List Nat} (f : Nat → List V) (h : EvI wi σ H n Y) (hn : n ≤ 40000)
    (ht : ∀ i x H1 H2, Ex H H1 → i < n → Y i H1 x H2 → g x (wipe σ vs) H2 fun σ2 H3 => Ex H1 H3 ∧ wipe σ2 vs = wipe σ vs ∧ EvL te σ2 H (f i))
    (gm : ∀ x σ H Q Q', (∀ σ2 H2, Q σ2 H2 → Q' σ2 H2) → g x σ H Q → g x σ H Q') : EvLs (tLc wi g tYes te vs) σ H ((List.range n).map f) := fun H0 e Q q => h H0 e _ fun J G H1 w hG e1 Dl hD =>
  lc_it w (fun i H' => Ex H1 H' ∧ ∃ rs : List Addr, H' Dl = some (.lst (rs.map V.ref)) ∧ LsAt H' rs ((List.range i).map f) ∧ ∀ r ∈ rs, r ≠ Dl)
    ⟨Ex.new hD, [], upd_same, ⟨rfl, fun i r ys h1 _ => (nomatch h1)⟩, fun r hr => nomatch hr⟩ (fun i H' _ p => hG H' p.1) (fun i x H2 H3 hi p y => by
    refine gm _ _ _ _ _ (fun σ2 H4 z => ?_) (ht i x H2 H3 ((e.trans e1).trans p.1) hi y)
    obtain ⟨e4, z1, z2⟩ := z
    obtain ⟨p1, rs, p2, p3, p4⟩ := p
    refine ⟨z1, ?_⟩
    show te σ2 H4 fun y H5 => ∃ acc, H5 Dl = some (.lst acc) ∧ acc.length < sizeLine ∧ _
    refine z2 H4 ((e.trans e1).trans (p1.trans e4)) _ fun r H5 nr e5 hr => ?_
    have hD4 := e4 _ _ p2
    have hD5 := e5 _ _ hD4
    have ner : r ≠ Dl := fun z => by
      rw [z, hD4] at nr
      cases nr
    have lr : rs.length = i := by rw [p3.1, List.length_map, List.length_range]
    refine ⟨rs.map V.ref, hD5, sz_lt (by rw [List.length_map]; omega), Ex.mut ((p1.trans e4).trans e5) hD, rs ++ [r], by rw [upd_same, List.map_append]; rfl, ?_, fun s hs => ?_⟩
    · rw [List.range_succ, List.map_append]
      have S := (p3.ex (e4.trans e5)).snoc hr
      refine ⟨S.1, fun j s ys g1 g2 => ?_⟩
      have : s ≠ Dl := by
        rcases List.mem_append.mp (List.mem_of_getElem? g1) with q | q
        · exact p4 s q
        · rw [List.mem_singleton.mp q]
          exact ner
      rw [upd_ne this]
      exact S.2 j s ys g1 g2
    · rcases List.mem_append.mp hs with q | q
      · exact p4 s q
      · rw [List.mem_singleton.mp q]
        exact ner) (fun H' p => by
    obtain ⟨p1, rs, p2, p3, p4⟩ := p
    exact q Dl rs H' (fresh_back e1 hD) (e1.trans p1) p2 p3)
theorem q_asgLs {i : Nat} {yss : List (List V)} (h : EvLs te σ H yss) (k : ∀ p rs H1, H p = none → Ex H H1 → H1 p = some (.lst (rs.map V.ref)) → LsAt H1 rs yss → tz D (σ.set i (some (.ref p))) H1) : tSeq (tAsg te (gName i)) tz D σ H := h H (Ex.refl H) _ k
/-- a, b = such a list -/
theorem q_unlLs {i j : Nat} {xs ys : List V} (h : EvLs te σ H [xs, ys]) (k : ∀ a b H1, Ex H H1 → H1 a = some (.lst xs) → H1 b = some (.lst ys) → tz D ((σ.set i (some (.ref a))).set j (some (.ref b))) H1) : tSeq (tAsg te (gUnl K 2 (gCons (gName i) (gCons (gName j) gNil)))) tz D σ H :=
  h H (Ex.refl H) _ fun p rs H1 np e1 hp hL => by
    obtain ⟨l1, l2⟩ := hL
    match rs, l1, l2, hp with
    | [a, b], l1, l2, hp =>
      exact ⟨p, [.ref a, .ref b], rfl, sq_of hp, rfl, .ref a, _, rfl, .ref b, _, rfl, rfl, k a b H1 e1 (l2 0 a xs rfl rfl) (l2 1 b ys rfl rfl)⟩
end
end Pw

namespace Pw
open PySem PySem.Spec PyProof.Rows L2 Evl
section
variable {K : PySem.W.Frag} {σ : L2.St} {H H' : Hp} {ta tb tc te te2 : TE} {tA tr : TA} {t u : TT} {x y z v : V} {D : Ends} {tz tu : TS} {wi : TI} {g : TG} {n : Nat} {Y : Nat → Hp → V → Hp → Prop} {sp : Sp} {E : XK}
/-! ### is -/
theorem rv_isN : RV (fun x y H Q => y = V.non ∧ Q (.bl (decide (x = .non))) H) x .non H (.bl (decide (x = .non))) := fun H1 _ Q q => ⟨rfl, q H1 (Ex.refl H1)⟩
theorem rv_notN : RV (fun x y H Q => y = V.non ∧ Q (.bl (!decide (x = .non))) H) x .non H (.bl (!decide (x = .non))) := fun H1 _ Q q => ⟨rfl, q H1 (Ex.refl H1)⟩
theorem rv_isB {a b : Bool} : RV rIsB (.bl a) (.bl b) H (.bl (decide (a = b))) := fun H1 _ Q q => ⟨a, b, rfl, rfl, q H1 (Ex.refl H1)⟩
theorem rv_notB {a b : Bool} : RV rNotB (.bl a) (.bl b) H (.bl (!decide (a = b))) := fun H1 _ Q q => ⟨a, b, rfl, rfl, q H1 (Ex.refl H1)⟩
/-! ### for, over what only grows -/
theorem q_forI (h : EvI wi σ H n Y) (Pv : Nat → L2.St → Hp → Prop) (h0 : ∀ H1, Ex H H1 → Pv 0 σ H1)
    (hs : ∀ H1, Ex H H1 → ∀ i x σ' H' H2, i < n → Ex H1 H' → Pv i σ' H' → Y i H' x H2 → g x σ' H2 fun σ2 H2 => tu { D with nx := fun σ4 H4 => Ex H1 H4 ∧ Pv (i + 1) σ4 H4, ct := fun σ4 H4 => Ex H1 H4 ∧ Pv (i + 1) σ4 H4, bk := tz D } σ2 H2)
    (hd : ∀ σ' H', Ex H H' → Pv n σ' H' → tz D σ' H') : tSeq (tFor wi g tu) tz D σ H :=
  h H (Ex.refl H) _ fun J G H1 w hG e => for_it (D := { D with nx := tz D }) w (fun i σ' H' => Ex H1 H' ∧ Pv i σ' H') ⟨Ex.refl H1, h0 H1 e⟩ (fun i σ' H' _ p => hG H' p.1) (fun i x σ' H' H2 hi p y => hs H1 e i x σ' H' H2 hi p.1 p.2 y) fun σ' H' p => hd σ' H' (e.trans p.1) p.2
/-- enumerate(zip(.., ..)) -/
def YEnumZ (xs ys : List V) : Nat → Hp → V → Hp → Prop := fun i H v H' => ∃ (T T2 : Addr) (x y : V), v = .ref T ∧ H T = none ∧ H T2 = none ∧ T2 ≠ T ∧ H' = upd (upd H T2 (.tup [x, y])) T (.tup [.int (i : Nat), .ref T2]) ∧ xs[i]? = some x ∧ ys[i]? = some y
theorem ei_enumZ {xs ys : List V} {P : List V → Hp → Prop} (h : EvAP tA σ H P) (hl : xs.length = ys.length) (hP : ∀ vs H1, Ex H H1 → P vs H1 → ∃ a b, vs = [.ref a, .ref b] ∧ ∀ H2, Ex H1 H2 → SqL K H2 a xs ∧ SqL K H2 b ys) : EvI (iEnumZ K tA) σ H xs.length (YEnumZ xs ys) := fun H1 e R q => h H1 e _ fun vs H2 e2 hp => by
  obtain ⟨a, b, rfl, h1⟩ := hP vs H2 (e.trans e2) hp
  exact ⟨a, b, xs, ys, rfl, (h1 H2 (Ex.refl _)).1, (h1 H2 (Ex.refl _)).2, q _ _ H2 (walk_enumZ hl) h1 e2⟩
theorem g_enumZ {xs ys : List V} {m i j l : Nat} {Q : L2.St → Hp → Prop} {H2 : Hp} (h : YEnumZ xs ys m H v H2) (k : ∀ x y H3, xs[m]? = some x → ys[m]? = some y → Ex H H3 → Q (((σ.set i (some (.int (m : Int)))).set j (some x)).set l (some y)) H3) :
    gTup K 2 (gCons (gName i) (gCons (gTup K 2 (gCons (gName j) (gCons (gName l) gNil))) gNil)) v σ H2 Q := by
  obtain ⟨T, T2, x, y, rfl, nT, nT2, ne, rfl, h1, h2⟩ := h
  have e : Ex H (upd (upd H T2 (.tup [x, y])) T (.tup [.int (m : Nat), .ref T2])) := (Ex.new nT2).trans (Ex.new (by rw [upd_ne ne.symm]; exact nT))
  exact ⟨T, _, rfl, st_of upd_same, rfl, .int (m : Nat), _, rfl, .ref T2, _, rfl, T2, _, rfl, st_of (by rw [upd_ne ne]; exact upd_same), rfl, x, _, rfl, y, _, rfl, rfl, rfl, k x y _ h1 h2 e⟩
/-! ### what is called for a new thing -/
def SpW (sp : Sp) (vs : List V) (H : Hp) (W : Addr → Hp → Prop) : Prop := ∀ H1, Ex H H1 → ∀ Q : VK, (∀ x H2, H1 x = none → Ex H1 H2 → W x H2 → Q (.ref x) H2) → ∀ E : XK, sp vs H1 Q E
theorem ew_callP {P : List V → Hp → Prop} {W : Addr → Hp → Prop} (h : EvAP tA σ H P) (hs : ∀ vs H1, Ex H H1 → P vs H1 → SpW sp (vs ++ []) H1 W) : EvW (tCall sp [] E tA) σ H W := fun H1 e Q q =>
  h H1 e _ fun vs H2 e2 hP => hs vs H2 (e.trans e2) hP H2 (Ex.refl H2) Q (fun x H3 nx e3 hW => q x H3 (fresh_back e2 nx) (e2.trans e3) hW) E
/-- an attribute of a new thing -/
theorem ev_fldW {f : Str} {W : Addr → Hp → Prop} (h : EvW te σ H W) (hW : ∀ x H1, W x H1 → ∃ C dx fs, H1 x = some (.ins C dx fs) ∧ Cls K C ∧ NoAttr K C f ∧ fs.lookup f = some v) : Ev (tFld K te f) σ H v := fun H1 e Q q =>
  h H1 e _ fun x H2 nx e2 w => by
    obtain ⟨C, dx, fs, h1, c, n, l⟩ := hW x H2 w
    exact ⟨x, C, dx, fs, v, rfl, h1, c, n, l, q H2 e2⟩
/-- a built-in upon a new thing -/
theorem ev_cbW {r : List V → Hp → VK → Prop} {W : Addr → Hp → Prop} {vs : List V} (h : EvW te σ H W) (hr : EvA tr σ H vs) (hc : ∀ x H1, Ex H H1 → W x H1 → RC r (.ref x :: vs) H1 z) : Ev (tCB r (tCons te tr)) σ H z := fun H1 e Q q =>
  h H1 e _ fun x H2 nx e2 w => hr H2 (e.trans e2) _ fun H3 e3 => hc x H2 (e.trans e2) w H3 e3 Q fun H4 e4 => q H4 ((e2.trans e3).trans e4)
/-- x, y = a new thing, a value -/
theorem q_parW {i j : Nat} {W : Addr → Hp → Prop} (h : EvW te σ H W) (h2 : ∀ (x : Addr) (H1 : Hp), Ex H H1 → Ev te2 σ H1 y) (k : ∀ (x : Addr) (H1 H2 : Hp), H x = none → Ex H H1 → W x H1 → Ex H1 H2 → tz D ((σ.set i (some (.ref x))).set j (some y)) H2) : tSeq (tPar i j (tCons te (tCons te2 tNil))) tz D σ H :=
  h H (Ex.refl H) _ fun x H1 nx e1 w => h2 x H1 e1 H1 (Ex.refl H1) _ fun H2 e2 => ⟨.ref x, y, rfl, k x H1 H2 nx e1 w e2⟩
/-! ### lists of bools -/
theorem dp_bools (bs : List Bool) : DpAll K H (bs.map V.bl) (bs.map PyData.bool) := by
  induction bs with
  | nil => exact .nil
  | cons b r ih => exact .cons (.bl b) ih
/-- where two sequences first differ -/
def firstD (f g : Nat → Int) (m : Nat) : Option Nat := (List.range m).find? fun n => !decide (f n = g n)
theorem firstD_none {f g : Nat → Int} {m : Nat} : firstD f g m = none ↔ ∀ n, n < m → f n = g n := by
  unfold firstD
  rw [List.find?_eq_none]
  constructor
  · intro h n hn
    have := h n (List.mem_range.mpr hn)
    simpa using this
  · intro h n hn
    have := h n (List.mem_range.mp hn)
    simpa using this
theorem firstD_some {f g : Nat → Int} {m k : Nat} : firstD f g m = some k ↔ k < m ∧ f k ≠ g k ∧ ∀ n, n < k → f n = g n := by
  unfold firstD
  rw [List.find?_range_eq_some]
  constructor
  · rintro ⟨h1, h2, h3⟩
    refine ⟨List.mem_range.mp h2, by simpa using h1, fun n hn => ?_⟩
    have := h3 n hn
    simpa using this
  · rintro ⟨h1, h2, h3⟩
    refine ⟨by simpa using h2, List.mem_range.mpr h1, fun n hn => ?_⟩
    have := h3 n hn
    simpa using this
theorem firstD_comm (f g : Nat → Int) (m : Nat) : firstD f g m = firstD g f m := by
  unfold firstD
  congr 1
  funext n
  rw [decide_eq_decide.mpr ⟨Eq.symm, Eq.symm⟩]
/-- told by all that lies ahead of each -/
theorem firstD_eq {f g f' g' : Nat → Int} {m m' : Nat} (h : ∀ n, (∀ k, k < n → f k = g k) ↔ ∀ k, k < n → f' k = g' k) (hm : m ≤ m') (hz : ∀ n, m ≤ n → f n = g n) : firstD f g m = firstD f' g' m' := by
  cases e : firstD f g m with
  | none =>
    have h1 := firstD_none.mp e
    symm
    rw [firstD_none]
    intro n hn
    exact (h (n + 1)).mp (fun k _ => if c : k < m then h1 k c else hz k (by omega)) n (Nat.lt_succ_self n)
  | some k =>
    obtain ⟨h1, h2, h3⟩ := firstD_some.mp e
    symm
    rw [firstD_some]
    refine ⟨by omega, fun z => h2 ?_, (h k).mp h3⟩
    refine (h (k + 1)).mpr (fun j hj => ?_) k (Nat.lt_succ_self k)
    by_cases c : j < k
    · exact (h k).mp h3 j c
    · rw [show j = k by omega]
      exact z
end
end Pw

namespace Pw
open PySem PySem.Spec PyProof.Rows L2 Evl
/-! ### a dict of leads -/
def kvOf (ls : List Lead) (as : List Addr) : List (Key × V) := List.zipWith (fun e a => ((Sum.inl (e.1 : Int) : Key), V.ref a)) ls as
/-- the leads' lists stand at as -/
def LdsAt (H : Hp) (as : List Addr) (ls : List Lead) : Prop := as.length = ls.length ∧ ∀ (i : Nat) (a : Addr) (e : Lead), as[i]? = some a → ls[i]? = some e → H a = some (.lst (e.2.map V.int))
theorem LdsAt.ex {H H' : Hp} {as : List Addr} {ls : List Lead} (x : Ex H H') (h : LdsAt H as ls) : LdsAt H' as ls := ⟨h.1, fun i a e h1 h2 => x _ _ (h.2 i a e h1 h2)⟩
theorem LdsAt.snoc {H : Hp} {as : List Addr} {ls : List Lead} {a : Addr} {e : Lead} (h : LdsAt H as ls) (ha : H a = some (.lst (e.2.map V.int))) : LdsAt H (as ++ [a]) (ls ++ [e]) := by
  refine ⟨by rw [List.length_append, List.length_append, h.1]; rfl, fun i b x h1 h2 => ?_⟩
  by_cases c : i < as.length
  · rw [List.getElem?_append_left c] at h1
    rw [List.getElem?_append_left (by rw [← h.1]; exact c)] at h2
    exact h.2 i b x h1 h2
  · rw [List.getElem?_append_right (by omega)] at h1
    rw [List.getElem?_append_right (by rw [← h.1]; omega), ← h.1] at h2
    have q : i - as.length = 0 := by
      have := (List.getElem?_eq_some_iff.mp h1).1
      rw [List.length_singleton] at this
      omega
    rw [q] at h1 h2
    cases h1
    cases h2
    exact ha
theorem kv_len {ls : List Lead} {as : List Addr} (h : as.length = ls.length) : (kvOf ls as).length = ls.length := by
  unfold kvOf
  rw [List.length_zipWith, h, Nat.min_self]
theorem kv_at {ls : List Lead} {as : List Addr} {i : Nat} {e : Lead} {a : Addr} (h1 : ls[i]? = some e) (h2 : as[i]? = some a) : (kvOf ls as)[i]? = some (Sum.inl (e.1 : Int), V.ref a) := by
  unfold kvOf
  rw [List.getElem?_zipWith, h1, h2]
theorem kv_snoc {ls : List Lead} {as : List Addr} (h : as.length = ls.length) (e : Lead) (a : Addr) : kvOf (ls ++ [e]) (as ++ [a]) = kvOf ls as ++ [(Sum.inl (e.1 : Int), V.ref a)] := by
  unfold kvOf
  rw [List.zipWith_append h.symm]
  rfl
theorem kv_out {c : Nat} : ∀ {ls : List Lead} {as : List Addr}, c ∉ cols ls → valV (kvOf ls as) (Sum.inl (c : Int) : Key) = none
  | [], _, _ => rfl
  | e :: r, [], _ => rfl
  | e :: r, a :: as, h => by
    show valV ((Sum.inl (e.1 : Int), V.ref a) :: kvOf r as) _ = none
    rw [valV_neg]
    · exact kv_out fun z => h (List.mem_cons_of_mem _ z)
    · intro z
      have : (e.1 : Int) = (c : Int) := Sum.inl.inj z
      exact h (by rw [← Int.ofNat.inj this]; exact List.mem_cons_self ..)
theorem kv_get : ∀ {ls : List Lead} {as : List Addr}, (cols ls).Nodup → ∀ {i : Nat} {e : Lead} {a : Addr}, ls[i]? = some e → as[i]? = some a → valV (kvOf ls as) (Sum.inl (e.1 : Int) : Key) = some (V.ref a)
  | [], _, _, i, e, a, h, _ => by cases h
  | x :: r, [], _, i, e, a, _, h => by cases h
  | x :: r, b :: as, nd, i, e, a, h1, h2 => by
    have nd' : x.1 ∉ cols r ∧ (cols r).Nodup := List.nodup_cons.mp nd
    show valV ((Sum.inl (x.1 : Int), V.ref b) :: kvOf r as) _ = _
    cases i with
    | zero =>
      cases h1
      cases h2
      exact valV_pos rfl
    | succ i =>
      rw [valV_neg]
      · exact kv_get nd'.2 (i := i) h1 h2
      · intro z
        have : (x.1 : Int) = (e.1 : Int) := Sum.inl.inj z
        exact nd'.1 (by rw [Int.ofNat.inj this]; exact List.mem_map.mpr ⟨e, List.mem_of_getElem? h1, rfl⟩)
section
variable {K : PySem.W.Frag} {σ : L2.St} {H H' : Hp} {ta tb tc te td tv tk : TE} {x y z v : V} {D : Ends} {tz tu : TS}
/-- d[c], d locked or not -/
theorem ev_dget {d : Addr} {kvs : List (Key × V)} {c : Int} (h : Ev td σ H (.ref d)) (hc : Ev tk σ H (.int c)) (hd : ∀ H1, Ex H H1 → Rd H1 d (.dK kvs)) (hv : valV kvs (Sum.inl c : Key) = some v) : Ev (tDGet td tk) σ H v := fun H1 e Q q =>
  h H1 e _ fun H2 e2 => hc H2 (e.trans e2) _ fun H3 e3 => ⟨d, v, rfl, .inl ⟨kvs, Sum.inl c, hd H3 ((e.trans e2).trans e3), rfl, hv.symm⟩, q H3 (e2.trans e3)⟩
/-- c in d -/
theorem ev_din {d : Addr} {kvs : List (Key × V)} {c : Int} (hc : Ev tk σ H (.int c)) (h : Ev td σ H (.ref d)) (hd : H d = some (.dK kvs)) : Ev (tDIn tk td) σ H (.bl (valV kvs (Sum.inl c : Key)).isSome) := fun H1 e Q q =>
  hc H1 e _ fun H2 e2 => h H2 (e.trans e2) _ fun H3 e3 => ⟨d, _, rfl, DGet.k (k := Sum.inl c) (((e.trans e2).trans e3) _ _ hd), q H3 (e2.trans e3)⟩
theorem q_dnew {j : Nat} (k : ∀ p, H p = none → tz D (σ.set j (some (.ref p))) (upd H p (.dK []))) : tSeq (tAsg tDNewK (gName j)) tz D σ H := fun p hp => k p hp
/-- for c in d: d is locked meanwhile -/
theorem q_forKeys {d : Addr} {ls : List Lead} {as : List Addr} {j : Nat} (hd : H d = some (.dK (kvOf ls as))) (hl : as.length = ls.length) (h : ∀ J, Ev td σ J (.ref d)) (Pv : Nat → L2.St → Hp → Prop)
    (h0 : ∀ J0 : Hp, (∀ b o, b ≠ d → H b = some o → J0 b = some o) → Pv 0 σ J0)
    (hs : ∀ (od : Obj) (J0 : Hp), J0 d = some (.frz od (.dK (kvOf ls as))) → (∀ b, b ≠ d → J0 b = H b) → ∀ i e a σ' H', ls[i]? = some e → as[i]? = some a → Ex J0 H' → Pv i σ' H' →
      ∀ D' : Ends, (∀ σ4 H4, Ex J0 H4 → Pv (i + 1) σ4 H4 → D'.nx σ4 H4) → tu D' (σ'.set j (some (.int (e.1 : Int)))) H')
    (hz : ∀ (od : Obj) (J0 : Hp), J0 d = some (.frz od (.dK (kvOf ls as))) → (∀ b, b ≠ d → J0 b = H b) → ∀ σ' H', Ex J0 H' → Pv ls.length σ' H' → tz D σ' (upd H' d (.dK (kvOf ls as)))) :
    tSeq (tLock (tFor (iKeys td) (gName j) tu)) tz D σ H := by
  refine ⟨d, .dK (kvOf ls as), hd, True.intro, fun od => ?_⟩
  have hJ : upd H d (.frz od (.dK (kvOf ls as))) d = some (.frz od (.dK (kvOf ls as))) := upd_same
  have hb : ∀ b, b ≠ d → upd H d (.frz od (.dK (kvOf ls as))) b = H b := fun b hb => upd_ne hb
  generalize upd H d (.frz od (.dK (kvOf ls as))) = J0 at hJ hb
  refine h J0 J0 (Ex.refl J0) _ fun J1 e1 => ⟨d, od, rfl, .inl ⟨kvOf ls as, e1 _ _ hJ, ?_⟩⟩
  have w := walk_keys (d := d) (o := od) (kvs := kvOf ls as)
  rw [kv_len hl] at w
  refine for_it w (fun i σ' H' => Ex J0 H' ∧ Pv i σ' H') ⟨e1, ?_⟩ (fun i σ' H' _ p => p.1 _ _ hJ) (fun i x σ' H' H2 hi p y => ?_) fun σ' H' p => ⟨p.1 _ _ hJ, hz od J0 hJ hb σ' H' p.1 p.2⟩
  · exact h0 J1 fun b o hne hbo => e1 _ _ ((hb b hne).trans hbo)
  · obtain ⟨rfl, k, v, hk, rfl⟩ := y
    have e0 : ls[i]? = some ls[i] := by simp [hi]
    have a0 : as[i]? = some (as[i]'(by omega)) := by simp [hl, hi]
    rw [kv_at e0 a0] at hk
    cases hk
    exact hs od J0 hJ hb i _ _ σ' _ e0 a0 p.1 p.2 { nx := fun σ4 H4 => Ex J0 H4 ∧ Pv (i + 1) σ4 H4, rt := _, bk := _, ct := _ } fun σ4 H4 f g => ⟨f, g⟩
end
section
variable {K : PySem.W.Frag} {σ : L2.St} {H H' : Hp} {ta tb tc te td tv tk : TE} {x y z v : V} {D : Ends} {tz tu : TS}
/-- a new dict -/
def EvD (te : TE) (σ : L2.St) (H : Hp) (P : List (Key × V) → Hp → Prop) : Prop := ∀ H1, Ex H H1 → ∀ Q : VK, (∀ p kvs H2, H1 p = none → Ex H1 H2 → H2 p = some (.dK kvs) → P kvs H2 → Q (.ref p) H2) → te σ H1 Q
theorem q_asgD {i : Nat} {P : List (Key × V) → Hp → Prop} (h : EvD te σ H P) (k : ∀ p kvs H1, H p = none → Ex H H1 → H1 p = some (.dK kvs) → P kvs H1 → tz D (σ.set i (some (.ref p))) H1) : tSeq (tAsg te (gName i)) tz D σ H := h H (Ex.refl H) _ k
/-- {c: e for c in d} where e gives a new list each turn -/
theorem ed_leads {d : Addr} {ls : List Lead} {as : List Addr} {j : Nat} {vs : List Nat} (f : Lead → Lead) (hd : H d = some (.dK (kvOf ls as))) (hl : as.length = ls.length) (nd : (cols ls).Nodup) (hz : ls.length ≤ 1000) (h : ∀ J, Ev td σ J (.ref d))
    (hk : ∀ x J, Ev tk ((wipe σ vs).set j (some x)) J x) (hw : ∀ x, wipe ((wipe σ vs).set j (some x)) vs = wipe σ vs) (hf : ∀ e, (f e).1 = e.1)
    (hv : ∀ H1, Ex H H1 → ∀ (od : Obj) (J0 : Hp), J0 d = some (.frz od (.dK (kvOf ls as))) → (∀ b o, b ≠ d → H1 b = some o → J0 b = some o) → ∀ (i : Nat) (e : Lead) (a : Addr), ls[i]? = some e → as[i]? = some a → EvL tv ((wipe σ vs).set j (some (.int (e.1 : Int)))) J0 ((f e).2.map V.int)) :
    EvD (tLockE (tDc (iKeys td) (gName j) tYes tk tv vs)) σ H (fun kvs H2 => ∃ bs, kvs = kvOf (ls.map f) bs ∧ LdsAt H2 bs (ls.map f)) := fun H1 e1 Q q => by
  refine ⟨d, .dK (kvOf ls as), e1 _ _ hd, True.intro, fun od => ?_⟩
  have hJ : upd H1 d (.frz od (.dK (kvOf ls as))) d = some (.frz od (.dK (kvOf ls as))) := upd_same
  have hb : ∀ b, b ≠ d → upd H1 d (.frz od (.dK (kvOf ls as))) b = H1 b := fun b hb => upd_ne hb
  generalize upd H1 d (.frz od (.dK (kvOf ls as))) = J0 at hJ hb
  refine h J0 J0 (Ex.refl J0) _ fun J1 f1 => ⟨d, od, rfl, .inl ⟨kvOf ls as, f1 _ _ hJ, fun Dl hD => ?_⟩⟩
  have w := walk_keys (d := d) (o := od) (kvs := kvOf ls as)
  rw [kv_len hl] at w
  have hJ1 := f1 _ _ hJ
  have nDd : Dl ≠ d := fun z => by
    rw [z, hJ1] at hD
    cases hD
  have cm : ∀ i, cols ((ls.map f).take i) = (cols ls).take i := fun i => by
    unfold cols
    rw [List.map_take, List.map_map]
    congr 1
    exact List.map_congr_left fun e _ => hf e
  refine ⟨fun i m H' => m = ls.length - i ∧ i ≤ ls.length ∧ Ex J1 H' ∧ ∃ bs, H' Dl = some (.dK (kvOf ((ls.map f).take i) bs)) ∧ LdsAt H' bs ((ls.map f).take i) ∧ ∀ b ∈ bs, b ≠ Dl,
    ⟨ls.length, rfl, Nat.zero_le _, Ex.new hD, [], upd_same, ⟨rfl, fun i a e h1 _ => (nomatch h1)⟩, fun b hb => (nomatch hb)⟩, ?_⟩
  rintro i m H' ⟨rfl, hi, x1, bs, hDl, hL, hne⟩
  have hd' := x1 _ _ hJ1
  by_cases hlt : i < ls.length
  · refine .inr ⟨w.goes i H' hlt hd', fun H2 => Ex J1 H2 ∧ ∃ bs, H2 Dl = some (.dK (kvOf ((ls.map f).take (i + 1)) bs)) ∧ LdsAt H2 bs ((ls.map f).take (i + 1)) ∧ ∀ b ∈ bs, b ≠ Dl, fun H2 p => ⟨ls.length - (i + 1), by omega, rfl, hlt, p⟩, fun x H2 y => ?_⟩
    obtain ⟨rfl, k, v, hkv, rfl⟩ := w.yields i H' x H2 hlt hd' y
    have e0 : ls[i]? = some ls[i] := by simp [hlt]
    have a0 : as[i]? = some (as[i]'(by omega)) := by simp [hl, hlt]
    rw [kv_at e0 a0] at hkv
    cases hkv
    refine ⟨hw _, ?_⟩
    show tk _ _ fun y H4 => tv _ H4 fun z H5 => ∃ (kvs : List (Key × V)) (k : Key), y = kV k ∧ H5 Dl = some (HO.dK kvs) ∧ kvs.length < sizeLine ∧ _
    refine hk _ _ _ (Ex.refl _) _ fun H4 f4 => ?_
    have xx : Ex J0 H4 := (f1.trans x1).trans f4
    refine hv H1 e1 od J0 hJ (fun b o hne hbo => (hb b hne).trans hbo) i _ _ e0 a0 H4 xx _ fun r H5 nr f5 hr => ?_
    have hD4 := f4 _ _ hDl
    have hD5 := f5 _ _ hD4
    have nrD : r ≠ Dl := fun z => by
      rw [z, hD4] at nr
      cases nr
    have lb : bs.length = i := by rw [hL.1, List.length_take, List.length_map]; omega
    have tk1 : (ls.map f).take (i + 1) = (ls.map f).take i ++ [f ls[i]] := by
      rw [List.take_succ, List.getElem?_map, e0]
      rfl
    have hlt2 : bs.length = ((ls.map f).take i).length := hL.1
    have nin : ls[i].1 ∉ cols ((ls.map f).take i) := fun hc => by
      rw [cm] at hc
      obtain ⟨k, hk1, hk2⟩ := List.mem_iff_getElem.mp hc
      rw [List.length_take] at hk1
      rw [List.getElem_take] at hk2
      have lc : (cols ls).length = ls.length := by unfold cols; rw [List.length_map]
      have h1 : (cols ls)[i]'(by omega) = ls[i].1 := by
        unfold cols
        rw [List.getElem_map]
      have := (List.getElem_inj nd).mp (hk2.trans h1.symm)
      omega
    refine ⟨_, Sum.inl (ls[i].1 : Int), rfl, hD5, sz_lt (by rw [kv_len hlt2, List.length_take, List.length_map]; omega), Ex.mut ((x1.trans f4).trans f5) hD, bs ++ [r], ?_, ?_, fun b hb' => ?_⟩
    · rw [upd_same, putK_new _ (kv_out nin), tk1, kv_snoc hlt2, hf]
    · rw [tk1]
      have S := (hL.ex (f4.trans f5)).snoc hr
      refine ⟨S.1, fun k a e g1 g2 => ?_⟩
      have : a ≠ Dl := by
        rcases List.mem_append.mp (List.mem_of_getElem? g1) with z | z
        · exact hne a z
        · rw [List.mem_singleton.mp z]
          exact nrD
      rw [upd_ne this]
      exact S.2 k a e g1 g2
    · rcases List.mem_append.mp hb' with z | z
      · exact hne b z
      · rw [List.mem_singleton.mp z]
        exact nrD
  · have hn : i = ls.length := by omega
    subst hn
    rw [List.take_of_length_le (by rw [List.length_map]; exact Nat.le_refl _)] at hDl hL
    refine .inl ⟨w.stops H' hd', hd', ?_⟩
    have nd1 : H1 Dl = none := by
      have := fresh_back f1 hD
      rwa [hb Dl nDd] at this
    refine q Dl _ _ nd1 (fun b o hbo => ?_) (by rw [upd_ne nDd]; exact hDl) ⟨bs, rfl, hL.1, fun i a e h1 h2 => ?_⟩
    · by_cases c : b = d
      · rw [c, upd_same]
        rw [c, e1 _ _ hd] at hbo
        exact hbo
      · rw [upd_ne c]
        exact x1 _ _ (f1 _ _ ((hb b c).trans hbo))
    · have g := hL.2 i a e h1 h2
      rw [upd_ne]
      · exact g
      · intro c
        rw [c, hd'] at g
        cases g
end
end Pw
namespace Pw
open PySem PySem.Spec PyProof.Rows L2 Evl
section
variable {σ : L2.St} {H : Hp} {td tv tk : TE} {v : V} {D : Ends} {tz : TS}
/-- d[k] = v -/
theorem q_dput {d : Addr} {kvs : List (Key × V)} {k : Key} (hd : H d = some (.dK kvs)) (h : Ev td σ H (.ref d)) (hk : Ev tk σ H (kV k)) (hv : Ev tv σ H v) (hl : kvs.length < sizeLine) (q : ∀ H1, Ex H H1 → tz D σ (upd H1 d (.dK (putK kvs k v)))) : tSeq (sDPut td tk tv) tz D σ H :=
  hv H (Ex.refl H) _ fun H1 e1 => h H1 e1 _ fun H2 e2 => hk H2 (e1.trans e2) _ fun H3 e3 => ⟨d, _, rfl, DPut.k (((e1.trans e2).trans e3) _ _ hd) hl, q H3 ((e1.trans e2).trans e3)⟩
end
end Pw
namespace L2
open PySem PySem.Spec PyProof.Rows
section
variable {X : Cx}
theorem sw_trueD {kx vx : Expr} {gs : List Comprehension} {scope : Scope} {pos py : Pos} {y : Str} {l : Nat} {env : Env} (hk : env.scope.kind = .function) (hy : env.scope.names.lookup y = some .local) (hl : (py.line == pos.line) = true)
    (ha : (scope.names.any fun (n, k) => n == y && (k == .local || k == .cell)) = false) : swapsWith (.DictComp kx vx gs scope pos) (some (.Name y py)) l env = pure true := by
  have ky : env.kindOf y = some .local := hy
  have hb : env.blockKind = .function := by unfold Env.blockKind; rw [hk]; rfl
  unfold swapsWith
  simp only [hb, ky, ha, Expr.pos, hl]
  rfl
/-- y = {k: v for ..} -/
theorem ps_setDc {i : Nat} {y : Str} {py : Pos} {kx vx tg iter : Expr} {ifs : List Expr} {scope : Scope} {own : List (Str × Nat)} {pos spos : Pos} {wi : TI} {g : TG} {tt : TT} {tk tv : TE} (hc : X.calm = true) (hN : X.N.Nodup) (hy : X.N[i]? = some y) (hyl : X.env.scope.names.lookup y = some .local)
    (hsw : swapsWith (.DictComp kx vx [⟨tg, iter, ifs, 0⟩] scope pos) (some (.Name y py)) spos.line X.env = pure true) (hi : PI X tg iter wi) (ok : BlkOk X.N X.env.scope scope own)
    (hg : ∀ (s : Shared) (H : Hp) (C : Addr) (cl : List (Str × Addr)) (fp : List Addr), PG (X.blk s H scope (compEnvC scope cl C X.env) fp) tg g) (ht : ∀ (s : Shared) (H : Hp) (C : Addr) (cl : List (Str × Addr)) (fp : List Addr), PTs (X.blk s H scope (compEnvC scope cl C X.env) fp) ifs tt)
    (hk : ∀ (s : Shared) (H : Hp) (C : Addr) (cl : List (Str × Addr)) (fp : List Addr), PE (X.blk s H scope (compEnvC scope cl C X.env) fp) kx tk)
    (he : ∀ (s : Shared) (H : Hp) (C : Addr) (cl : List (Str × Addr)) (fp : List Addr), PE (X.blk s H scope (compEnvC scope cl C X.env) fp) vx tv) (hs : ∀ x, foldedSetIterable iter X.env x = pure x := by intro _; rfl) :
    PS X (.Assign [.Name y py] (.DictComp kx vx [⟨tg, iter, ifs, 0⟩] scope pos) spos) (tAsg (tDc wi g tt tk tv (own.map (·.2))) (gName i)) := by
  refine ⟨fun pins s σ H D I h => ?_⟩
  rw [exec_Assign_Name_used _ _ _ _ hsw]
  refine wpAny_bind (wpAny_standAt (wpAny_bind ?_))
  show wpAny _ X.A (do let _ ← comprehension (.DictComp kx vx [⟨tg, iter, ifs, 0⟩] scope pos) scope X.env (firstIterPos [⟨tg, iter, ifs, 0⟩] pos) newDict false (eval iter X.env) (some (assign (.Name y py) X.env))) _ _ s
  have h : tDc wi g tt tk tv (own.map (·.2)) σ H (fun x H1 => gName i x σ H1 D.nx) := h
  refine wpAny_bind (thn (dc_core (Qf := fun _ s' => SP X pins D .next s') hc hN I hi ok hg ht hk he hs h fun L C s' m H' I' q hn f => ?_) fun _ s' hq => wpAny_pure (wpAny_pure hq))
  show wpAny _ _ (assign (.Name y py) X.env (.ref L)) _ _ _
  refine wpAny_assign_Name (store_ok2 (v := V.ref L) I' hN hy (.inl hyl) rfl (fun s2 I2 ⟨a, sb, ha⟩ => ?_) (.inr hyl))
  obtain ⟨f0, f1, f2, f3, f4, f5⟩ := f
  have haC : C ≠ a := by
    rcases ha with z | z
    · rw [z]; exact f1
    · exact fun e => f4 y a z e.symm
  refine ⟨m, hn.sameBut sb haC, fun h3 sb3 => ?_⟩
  exact ⟨_, H', I2.turned (t' := s2.toks) (fun b o hb e => (sb3.2 b hb).trans e) f0 f1 f3 f4 f5, q⟩
end
end L2
namespace Pw
open PySem PySem.Spec PyProof.Rows L2 Evl
theorem q_lockD {σ : L2.St} {H : Hp} {te : TE} {D : Ends} {tz : TS} {i : Nat} {P : List (Key × V) → Hp → Prop} (h : EvD (tLockE te) σ H P) (k : ∀ p kvs H1, H p = none → Ex H H1 → H1 p = some (.dK kvs) → P kvs H1 → tz D (σ.set i (some (.ref p))) H1) : tSeq (tLock (tAsg te (gName i))) tz D σ H :=
  show tLockE te σ H (fun v H1 => tz D (σ.set i (some v)) H1) from h H (Ex.refl H) _ k
end Pw
namespace Pw
open PySem PySem.Spec PyProof.Rows L2 Evl
/-! ### any of a list of ints -/
theorem truth_ints {prog : Program} {w : World} {A : Around} {ns : List Int} {its : List Value} (e : Vals (ns.map V.int) its) : TruthOf prog w A (fun i v => its.toArray[i]? = some v) (fun i => sq ns i != 0) := fun i v s Q E hv hq => by
  have hv' : its[i]? = some v := by simpa using hv
  have hi : i < ns.length := by
    have h1 := (List.getElem?_eq_some_iff.mp hv').1
    have h2 := e.length
    rw [List.length_map] at h2
    omega
  obtain ⟨u, hu, r⟩ := e.get (i := i) (x := .int (sq ns i)) (by rw [List.getElem?_map, sq_at hi]; rfl)
  rw [hv'] at hu
  cases hu
  obtain ⟨t, rfl⟩ := (show ∃ t, v = Value.int (sq ns i) t from r)
  exact PyProof.Rows.truthy_int hq
def rAnyI (K : PySem.W.Frag) : List V → Hp → VK → Prop := fun vs H Q => ∃ (a : Addr) (ns : List Int), vs = [V.ref a] ∧ SqL K H a (ns.map V.int) ∧ Q (.bl (ns.any fun n => n != 0)) H
theorem any_rangeI : ∀ ns : List Int, (List.range ns.length).any (fun i => sq ns i != 0) = ns.any fun n => n != 0
  | [] => rfl
  | n :: ns => by
    rw [List.length_cons, List.range_succ_eq_map, List.any_cons, List.any_map, List.any_cons, ← any_rangeI ns]
    rfl
theorem cr_anyI {X : Cx} (hc : X.calm = true) : CallR X (.builtin "any") (rAnyI X.K) := by
  intro pins s σ H vs us Q I r h
  obtain ⟨a, ns, rfl, hs, q⟩ := h
  obtain ⟨its, rv, hl, _⟩ := I.list hs
  rw [Vals.ref1 r]
  refine call_any_walk (iter_any hl.isList fun s₂ e2 st hne => ?_)
  subst e2
  refine ⟨_, _, _, _, _, _, _, rfl, Walks.list (A := X.A.in1) (I.ok.hd hc) _ a hne its.toArray, st, truth_ints rv, fun h' tk hk => ?_⟩
  refine ⟨.bl _, H, I.kept fun b o eo => hk b o (fun hmem => ?_) (Heap.get?_push_of_some _ eo), ?_, q⟩
  · rcases List.mem_cons.mp hmem with e1 | hmem
    · exact absurd (e1 ▸ Heap.lt_size eo) (Nat.lt_irrefl _)
    · cases hmem
  · show Value.bool _ = Value.bool _
    have hlen := rv.length
    rw [List.length_map] at hlen
    rw [← any_rangeI, List.size_toArray, hlen]
theorem rc_anyI {K : PySem.W.Frag} {H : Hp} {a : Addr} {ns : List Int} (h : SqL K H a (ns.map V.int)) : RC (rAnyI K) [.ref a] H (.bl (ns.any fun n => n != 0)) := fun H1 e _ q => ⟨a, ns, rfl, ex_l e h, q H1 (Ex.refl H1)⟩
end Pw

namespace Pw
open PySem PySem.Spec PyProof.Rows L2 LamX NdefX
/-! ### lambdas as tracked things -/
structure LM where
  qual : Str
  params : Arguments
  body : PySem.Expr
  scope : Scope
  cl : List (Str × Addr)
  c : Addr
abbrev LM.fd (L : LM) (pm ctv : Value) : FuncData := PySem.W.kla_fn "<lambda>" L.qual L.params L.body L.scope L.cl pm (.ref L.c) ctv
def LM.nf (L : LM) : NF := ⟨"<lambda>", L.qual, L.params, [], L.scope, L.cl, L.c⟩
def LamO (f : Addr) (L : LM) : HO := .ext fun h => ∃ (od : Option Addr) (sl : Array (Option Value)) (pm ctv : Value), h.get? f = some (⟨.type "function", od, .func (L.fd pm ctv), sl⟩ : Obj)
theorem lamO_at {P : Program} {w : World} {H : Hp} {h : Heap} {f : Addr} {L : LM} (hok : HOk P w H h) (e : H f = some (LamO f L)) : ∃ (od : Option Addr) (sl : Array (Option Value)) (pm ctv : Value), h.get? f = some (⟨.type "function", od, .func (L.fd pm ctv), sl⟩ : Obj) := by
  obtain ⟨z, _, _⟩ := hok f _ e
  exact z
theorem lamO_ne {f : Addr} {L : LM} (ps : Array Value) : LamO f L ≠ .tbl ps := fun z => by
  unfold LamO at z
  cases z
section
variable {X : Cx} {pins : List (Addr × Obj)} {σ : L2.St} {H : Hp} {s : Shared}
theorem inv_lam {L : LM} {o : Obj} {t' : Nat} {pm ctv : Value} (I : Inv X pins σ H s) (ho : o = { cls := .type "function", data := .func (L.fd pm ctv) }) :
    Inv X pins σ (upd H s.heap.objs.size (LamO s.heap.objs.size L)) { s with heap := s.heap.push o, toks := t' } := by
  subst ho
  refine I.laid (a := s.heap.objs.size) (fun b u e => Heap.get?_push_of_some _ e) (Nat.le_refl _) ?_
  have e : (s.heap.push ({ cls := .type "function", data := .func (L.fd pm ctv) } : Obj)).get? s.heap.objs.size = some ({ cls := .type "function", data := .func (L.fd pm ctv) } : Obj) := Heap.get?_push_size _ rfl
  exact ⟨⟨_, _, pm, ctv, e⟩, ⟨_, e⟩, fun h1 h2 ⟨od, sl, p, t, z⟩ st => ⟨od, sl, p, t, st _ z⟩⟩
theorem tabs_upd {T : List (Addr × Str)} {H : Hp} {f : Addr} {o : HO} (t : Tabs T H) (hf : H f = none) : Tabs T (upd H f o) := t.ext fun b u e => by
  rw [upd_ne (ne_of_none e hf)]
  exact e
/-- a lambda is made and known from now on -/
theorem lam_makeT {T : List (Addr × Str)} {c P : Addr} {params : Arguments} {body : PySem.Expr} {scope : Scope} {pos : Pos} {E : Value → Shared → Prop} {Q : Value → Shared → Prop} (I : Inv X pins σ H s) (TB : TabB X.base X.mg c P) (hcode : X.env.code = .ref c)
    (hm : (P, X.env.qual ++ "<lambda>") ∈ T) (hu : ∀ p ∈ T, p.1 = P → p.2 = X.env.qual ++ "<lambda>") (hT : Tabs T H) (hdef : defaultsOf params X.env = ([], [])) (hfree : ∀ y ∈ scope.names, y.2 = .free → ∃ c, X.env.cells.lookup y.1 = some c)
    (h : ∀ (f c' : Addr) (H1 : Hp) (s' : Shared), Inv X pins σ H1 s' → ExtN H H1 → Tabs T H1 → H f = none → H1 f = some (LamO f ⟨X.env.qual ++ "<lambda>", params, body, scope, cloFrom X.env.cells scope.names [], c'⟩) → H1 c' = some (CodeO c' (X.env.qual ++ "<lambda>")) → Q (.ref f) s') :
    wpAny (model X.prog X.w) X.A (eval (.Lambda params body scope pos) X.env) Q E s := by
  obtain ⟨ps, hP, ht, ha⟩ := hT _ hm
  refine PySem.W.kla_eval hdef ?_
  have bP : s.heap.BuiltinsAt X.mg P := TB.bm.keeps I.bk
  have hP' : s.heap.get? P = some { cls := .none, data := .fields ps } := I.hok P _ hP
  cases hc : codeAmong pos ps.toList with
  | none =>
    refine PySem.W.kla_makeFunction (mg := X.mg) (c := c) (P := P) (ps := ps) (closure_ok hfree) I.ok.glob (I.mod.glob.keeps I.bk) hcode (TB.code.keeps I.bk) hP' ht hc TB.gP bP fun c' ctv h' tk hx hge hlt hrec htb => ?_
    obtain ⟨c2, oc, vs, t, e2, hoc, hd, hv⟩ := hrec
    cases e2
    have hsz : s.heap.objs.size ≤ h'.objs.size := Nat.le_trans hge (Nat.le_of_lt hlt)
    have nC : H c' = none := I.hok.fresh hge
    have I1 := inv_table (t' := tk) (more := #[rawInt pos.line, rawInt pos.col, .ref c']) (h' := h') I hP (fun b o hb e => hx b o hb e) htb hge ⟨oc, vs, t, hoc, hd, hv⟩
    have nF : upd (upd H P (.tbl (ps ++ #[rawInt pos.line, rawInt pos.col, .ref c']))) c' (CodeO c' (X.env.qual ++ "<lambda>")) h'.objs.size = none := I1.hok.fresh (Nat.le_refl _)
    have I2 := inv_lam (L := ⟨X.env.qual ++ "<lambda>", params, body, scope, cloFrom X.env.cells scope.names [], c'⟩) (t' := tk) (pm := (X.mg "__name__").getD .none) (ctv := ctv) I1 rfl
    have hE : ExtN H (upd (upd H P (.tbl (ps ++ #[rawInt pos.line, rawInt pos.col, .ref c']))) c' (CodeO c' (X.env.qual ++ "<lambda>"))) := fun b o e n => by
      rw [upd_ne (ne_of_none e nC), upd_ne (fun z => n ps (Option.some.inj (e.symm.trans (by rw [z]; exact hP))))]
      exact e
    have eL : (ps ++ #[rawInt pos.line, rawInt pos.col, .ref c']).toList = ps.toList ++ [rawInt pos.line, rawInt pos.col, .ref c'] := by simp
    have T1 : Tabs T (upd (upd H P (.tbl (ps ++ #[rawInt pos.line, rawInt pos.col, .ref c']))) c' (CodeO c' (X.env.qual ++ "<lambda>"))) := fun p hp => by
      by_cases hb : p.1 = P
      · rw [hu p hp hb, hb]
        refine ⟨_, by rw [upd_ne (ne_of_none hP nC), upd_same], by rw [eL]; exact PySem.TriplesOk_snoc _ _ _ _ ht, fun p' cv hcv => ?_⟩
        rw [eL] at hcv
        rcases among_app _ ht hcv with z | z
        · obtain ⟨c0, e1, e2⟩ := ha p' cv z
          exact ⟨c0, e1, hE _ _ e2 codeO_ne⟩
        · exact ⟨c', z, upd_same⟩
      · obtain ⟨ps', a1, a2, a3⟩ := hT p hp
        refine ⟨ps', by rw [upd_ne (ne_of_none a1 nC), upd_ne hb]; exact a1, a2, fun p' cv hcv => ?_⟩
        obtain ⟨c0, e1, e2⟩ := a3 p' cv hcv
        exact ⟨c0, e1, hE _ _ e2 codeO_ne⟩
    refine h h'.objs.size c' _ _ I2 (hE.trans (ExtN.of fun b o e => by rw [upd_ne (ne_of_none e nF)]; exact e)) (tabs_upd T1 nF) (I.hok.fresh hsz) upd_same ?_
    rw [upd_ne (Nat.ne_of_lt hlt), upd_same]
  | some cv =>
    obtain ⟨c', e, hco⟩ := ha pos cv hc
    subst e
    refine PySem.W.kla_makeFunctionHit (mg := X.mg) (c := c) (P := P) (ps := ps) (closure_ok hfree) I.ok.glob (I.mod.glob.keeps I.bk) hcode (TB.code.keeps I.bk) hP' ht hc bP fun ctv h' tk hx hsz => ?_
    have I1 : Inv X pins σ H { s with heap := h', toks := tk } := I.kept hx
    have nF : H h'.objs.size = none := I1.hok.fresh (Nat.le_refl _)
    have I2 := inv_lam (L := ⟨X.env.qual ++ "<lambda>", params, body, scope, cloFrom X.env.cells scope.names [], c'⟩) (t' := tk) (pm := (X.mg "__name__").getD .none) (ctv := ctv) I1 rfl
    exact h h'.objs.size c' _ _ I2 (ExtN.of fun b o e => by rw [upd_ne (ne_of_none e nF)]; exact e) (tabs_upd hT nF) nF upd_same (by rw [upd_ne (ne_of_none hco nF)]; exact hco)
end
/-- the lambda as an expression -/
def tLamE (T : List (Addr × Str)) (mk : Addr → LM) : TE := fun σ H Q => Tabs T H ∧ ∀ (f c' : Addr) (H1 : Hp), ExtN H H1 → Tabs T H1 → H f = none → H1 f = some (LamO f (mk c')) → H1 c' = some (CodeO c' (mk c').qual) → Q (.ref f) H1
section
variable {X : Cx}
theorem pe_lam {T : List (Addr × Str)} {c P : Addr} {params : Arguments} {body : PySem.Expr} {scope : Scope} {pos : Pos} (TB : TabB X.base X.mg c P) (hcode : X.env.code = .ref c) (hm : (P, X.env.qual ++ "<lambda>") ∈ T) (hu : ∀ p ∈ T, p.1 = P → p.2 = X.env.qual ++ "<lambda>")
    (hfree : ∀ y ∈ scope.names, y.2 = .free → X.env.scope.names.lookup y.1 = some .cell ∨ X.env.scope.names.lookup y.1 = some .free) (hdef : defaultsOf params X.env = ([], []) := by rfl) :
    PE X (.Lambda params body scope pos) (tLamE T fun c' => ⟨X.env.qual ++ "<lambda>", params, body, scope, cloFrom X.env.cells scope.names [], c'⟩) := by
  refine ⟨fun pins s σ H Q I h => ?_⟩
  obtain ⟨hT, h⟩ := h
  exact lam_makeT I TB hcode hm hu hT hdef (fun y hy e => (hfree y hy e).elim (fun z => I.ok.has _ (.inl z)) fun z => I.ok.has _ (.inr z)) fun f c' H1 s' I1 eN T1 hf hL hC => ⟨.ref f, H1, I1, rfl, h f c' H1 eN T1 hf hL hC⟩
end
/-! ### what a lambda promises -/
structure LOk (P : Program) (w : World) (K : PySem.W.Frag) (mg : Str → Option Value) (base : Heap) (CX : CXT) (k : Nat) (f : Addr) (L : LM) (ps fr : List Str) (sp : List (Option V) → Sp) : Prop where
  len : ∀ ws vs H Q E, sp ws vs H Q E → vs.length = ps.length
  run : ∀ (A : Around) (outer : List Env) (s : Shared) (H : Hp) (us : List Value) (vs : List V) (ws : List (Option V)) (Q : VK) (E : XK), Room k A → Env0 P w K mg base A outer s H → H f = some (LamO f L) → H L.c = some (CodeO L.c L.qual) →
    CellsAt L.cl fr ws s.heap H → Vals vs us → sp ws vs H Q E → codeAny (model P w) A (.call (.ref f) ⟨us, []⟩) (CR CX outer P w H s Q E) s
section
variable {CX : CXT} {P : Program} {w : World} {K : PySem.W.Frag} {mg : Str → Option Value} {base : Heap} {N ps fr : List Str} {L : LM} {f : Addr} {k : Nat} {sp : List (Option V) → Sp}
theorem lok_of (S : NScope N ps fr L.scope) (hb : ∀ (pm ctv : Value) (us : List Value), us.length = ps.length → bindArgs (L.fd pm ctv) ⟨us, []⟩ = pure (ps.zip us)) (len : ∀ ws vs H Q E, sp ws vs H Q E → vs.length = ps.length)
    (hbody : ∀ (A : Around) (outer : List Env) (s : Shared) (H : Hp) (vs : List V) (ws : List (Option V)) (Q : VK) (E : XK), Room k (A.deeper (envF L.nf f s.heap.objs.size)) → ws.length = fr.length → sp ws vs H Q E →
      ∃ t, PE (ncx CX P w K mg base N L.nf f A outer s H E) L.body t ∧ t (startF N vs ws) H Q) : LOk P w K mg base CX (k + 1) f L ps fr sp := by
  refine ⟨len, fun A outer s H us vs ws Q E hr e0 hf hc C r hsp => ?_⟩
  have hl := len _ _ _ _ _ hsp
  have lim : s.heap.NoLimit := e0.mod.nolimit.keeps fun b o e => (e0.bs b o e).1
  obtain ⟨od, sl, pm, ctv, ho⟩ := lamO_at e0.hok hf
  refine PySem.W.kla_callFunE hr.depth ho rfl S.co S.gen rfl (codeO_at e0.hok hc) ?_
  rw [hb pm ctv us (by rw [← r.length]; exact hl)]
  refine wpAny_pure (wpAny_newFunctionEnv S.nocell (fun ⟨n, _⟩ hy => S.par n (List.of_mem_zip hy).1) (fun h₁ hns hsb => ⟨lim.fresh _ hsb, ?_⟩) S.kind)
  show codeAny _ _ (.expr L.body (envF L.nf f s.heap.objs.size)) _ _
  have kp : ∀ b o, s.heap.get? b = some o → h₁.get? b = some o := fun b o e => hsb.extBut b o (Nat.ne_of_lt (Heap.lt_size e)) (Heap.get?_push_of_some _ e)
  obtain ⟨t, ht, hq⟩ := hbody A outer s H vs ws Q E (hr.deeper _) C.len hsp
  have I : Inv (ncx CX P w K mg base N L.nf f A outer s H E) [] (startF N vs ws) H { s with heap := h₁, toks := s.toks + (ps.zip us).length } := inv_startN S hr.hd e0 hl r C hns kp
  refine PySem.W.kla_codeExpr (wpAny_mono (ht.run [] _ (startF N vs ws) H Q I hq) (fun v s' hs => ?_) fun e s' hs => hs)
  obtain ⟨w', H', J, rv, q⟩ := hs
  exact ⟨w', H', J.os, J.bare, J.base, J.hok, rv, q⟩
end
/-- what cells held they hold behind what doesn't touch them -/
theorem cells_later {cl : List (Str × Addr)} {fr : List Str} {ws : List (Option V)} {H0 H : Hp} {h0 h : Heap} {fs : List Addr} (C : CellsAt cl fr ws h0 H0) (U : Un fs [] H0 H h0 h) : CellsAt cl fr ws h H := by
  have kp : ∀ c v, H0 c = none → h0.IsCell c v → h.IsCell c v := fun c v n ⟨o, ho, hd⟩ => by
    by_cases m : c ∈ fs
    · obtain ⟨sl, e⟩ := U.slot c o ho n m (by simp)
      exact ⟨_, e, hd⟩
    · exact ⟨o, U.keep c o ho n m (by simp), hd⟩
  refine ⟨C.len, fun y c e => ?_, C.inj, fun i y e => ?_⟩
  · obtain ⟨n, v, z⟩ := C.all y c e
    refine ⟨?_, v, kp c v n z⟩
    obtain ⟨o, ho, _⟩ := z
    exact U.free c o ho n (by simp)
  · obtain ⟨c, hc, hv⟩ := C.has i y e
    refine ⟨c, hc, fun v ev => ?_⟩
    obtain ⟨u, r, z⟩ := hv v ev
    exact ⟨u, r, kp c _ (C.all y c hc).1 z⟩
end Pw
namespace Pw
open PySem PySem.Spec PyProof.Rows L2 LamX NdefX Evl
/-! ### a callee whose promise speaks of the entry state -/
structure FnT (P : Program) (w : World) (K : PySem.W.Frag) (mg : Str → Option Value) (base : Heap) (CX : CXT) (k : Nat) (f : Addr) (fd : FuncData) (ps : List Str) (sp : Shared → Sp) : Prop where
  len : ∀ s vs H Q E, sp s vs H Q E → vs.length = ps.length
  run : ∀ (A : Around) (outer : List Env) (s : Shared) (H : Hp) (args : Args) (us : List Value) (vs : List V) (Q : VK) (E : XK), Room k A → Env0 P w K mg base A outer s H → BindsTo s fd args (ps.zip us) → Vals vs us → sp s vs H Q E →
    codeAny (model P w) A (.call (.ref f) args) (CR CX outer P w H s Q E) s
structure CalT (P : Program) (w : World) (K : PySem.W.Frag) (mg : Str → Option Value) (base : Heap) (CX : CXT) (x : Str) (k : Nat) (ps : List Str) (sp : Shared → Sp) : Prop where
  ex : ∃ (f : Addr) (fd : FuncData), FnT P w K mg base CX k f fd ps sp ∧ mg x = some (.ref f) ∧ PySem.W.keepIn K (.ref f) = true ∧ Binds K fd ps []
section
variable {P : Program} {w : World} {K : PySem.W.Frag} {mg : Str → Option Value} {base : Heap}
theorem Dat.calT {x : Str} {st : Stmt} {N ps : List Str} {f : Addr} {fd : FuncData} {k : Nat} {sp : Shared → Sp} (D : Dat K mg x st ps f fd) (S : FnScope N ps (defScope st)) (len : ∀ s vs H Q E, sp s vs H Q E → vs.length = ps.length)
    (hbody : ∀ (cdv : Value) (A : Around) (outer : List Env) (s : Shared) (H : Hp) (vs : List V) (Q : VK) (E : XK), Room k (A.deeper (envOfC x (defScope st) s.heap.objs.size f cdv)) → sp s vs H Q E →
      ∃ t, PSs (cxOf CX0 P w K mg base N x (defScope st) f cdv A outer s H E).nox (defBody st) t ∧ t { nx := fun _ H' => Q .non H', rt := Q } (start N vs) H) : CalT P w K mg base CX0 x (k + 1) ps sp := by
  obtain ⟨⟨⟨oc, od, kV, doc, pm, an, cdv, ct, osl, rfl, lk, hcd⟩, kp⟩, g, b⟩ := D
  refine ⟨f, _, ⟨len, fun A outer s H args us vs Q E hr e0 hb r hsp => ?_⟩, g, kp, b⟩
  refine run_ofS (CX := CX0) lk hcd S hr e0 hb r (len _ _ _ _ _ hsp) fun hr' => ?_
  obtain ⟨t, ht, q⟩ := hbody cdv A outer s H vs Q E hr' hsp
  exact ⟨t, ht.nox, q⟩
end
def tCallT (X : Cx) (sp : Shared → Sp) (t : TA) : TE := fun σ H Q => t σ H fun vs H1 => ∀ s : Shared, (∀ (cl : List (Str × Addr)) (fr : List Str) (js : List Nat), (X.Ok → Caps X cl fr js) → CellsAt cl fr (js.map (slotAt σ)) s.heap H1) → sp s vs H1 Q E0
section
variable {X : Cx} {x : Str} {p pos : Pos} {e : PySem.Expr} {es : List PySem.Expr} {t : TA} {k : Nat} {ps : List Str}
theorem pe_cT {sp : Shared → Sp} (C : CalT X.prog X.w X.K X.mg X.base CX0 x k ps sp) (hr : Room k X.A) (ha : PA X (e :: es) t) (hg : Gl X x := by rfl) (hdb : (x == ("__debug__" : Str)) = false := by decide)
    (he : starEach (e :: es) X.env = (false, eval e X.env) :: starEach es X.env := by rfl) (hpl : (backTo pos (starEach es X.env)).any (·.1) = false := by rfl) :
    PE X (.Call (.Name x p) (e :: es) [] pos) (tCallT X sp t) := by
  obtain ⟨f, fd, F, hm, hk, hb⟩ := C.ex
  refine ⟨fun pins s σ H Q I h => ?_⟩
  refine wpAny_Call_Name_kw (ld_glob I hg hm ?_ hdb)
  refine PySem.W.callWith_K (h₀ := X.base) I.ok.mod.kin hk (thn (ha.run pos pins s σ H _ I h) fun us s1 ⟨vs, H1, I1, r, q⟩ => ⟨I1.kIn, ?_⟩) he hpl
  show wpAny _ _ (call (.ref f) us) _ _ _
  have h2 := q s1 fun cl fr js c => cells_of I1 (c I1.ok)
  have hl : us.length = ps.length := by rw [← r.length]; exact F.len _ _ _ _ _ h2
  have b := hb s1 us I1.kIn (by rw [List.append_nil]; exact hl)
  rw [List.append_nil] at b
  refine wpAny_call (codeAny_mono (F.run X.A X.stack s1 H1 ⟨us, []⟩ us vs Q E0 hr I1.env0 b r h2) fun r s' hq => ?_)
  cases r with
  | error e => exact (show False from hq).elim
  | ok fl =>
    cases fl with
    | ret u => exact I1.after hq
    | next => exact False.elim hq
    | brk => exact False.elim hq
    | cont => exact False.elim hq
/-- a lambda that a slot holds, asked -/
def tAsk (i : Nat) (f : Addr) (L : LM) (ws : List (Option V)) (sp : List (Option V) → Sp) (E : L2.St → XK) (t : TA) : TE := fun σ H Q => σ[i]? = some (some (.ref f)) ∧ H f = some (LamO f L) ∧
  t σ H fun vs H1 => H1 f = some (LamO f L) ∧ H1 L.c = some (CodeO L.c L.qual) ∧ sp ws vs H1 Q (E σ)
theorem pe_ask {CX : CXT} {L : LM} {f : Addr} {i : Nat} {fr : List Str} {ws : List (Option V)} {sp : List (Option V) → Sp} {E : L2.St → XK} (Fn : LOk X.prog X.w X.K X.mg X.base CX k f L ps fr sp) (C : CellsAt L.cl fr ws X.s_0.heap X.H_0) (hex : X.ex = []) (hr : Room k X.A) (hx : ∀ σ, PassesAt CX X σ (E σ))
    (hN : X.N[i]? = some x) (hv : Vis X.env.scope x) (ha : PA X (e :: es) t) (hd : (x == ("__debug__" : Str)) = false := by decide) (hcd : (x == ("__classdict__" : Str)) = false := by decide)
    (he : starEach (e :: es) X.env = (false, eval e X.env) :: starEach es X.env := by rfl) (hpl : (backTo pos (starEach es X.env)).any (·.1) = false := by rfl) :
    PE X (.Call (.Name x p) (e :: es) [] pos) (tAsk i f L ws sp E t) := by
  refine ⟨fun pins s σ H Q I h => ?_⟩
  obtain ⟨hs, hf, ht⟩ := h
  refine wpAny_Call_Name_kw (thn ((pe_var (pos := p) hN hv hd hcd).run pins s σ H (fun v H1 => v = .ref f ∧ H1 = H) I ⟨.ref f, hs, rfl, rfl⟩) fun u s1 ⟨v, H1, I1, r1, q1⟩ => ?_)
  obtain ⟨ev, eH⟩ := q1
  subst ev
  rw [eH] at I1
  obtain rfl : u = Value.ref f := r1
  have fnAt : ∀ {H : Hp} {s : Shared}, Inv X pins σ H s → H f = some (LamO f L) → PySem.W.FnAt f s.heap := fun {H s} I e => by
    obtain ⟨od, sl, pm, ctv, ho⟩ := lamO_at I.hok e
    exact ⟨_, od, _, sl, ho⟩
  refine PySem.W.callWith_F (first := []) (fnAt I1 hf) (thn (ha.run pos pins s1 σ H _ I1 ht) fun us s2 ⟨vs, H2, I2, r, h1, h2, q⟩ => ⟨fnAt I2 h1, ?_⟩) he hpl
  show wpAny _ _ (call (.ref f) us) _ _ _
  have U := I2.base
  rw [hex] at U
  refine wpAny_call (codeAny_mono (Fn.run X.A X.stack s2 H2 us vs ws Q (E σ) hr I2.env0 h1 h2 (cells_later C U) r q) fun r s' hq => ?_)
  cases r with
  | error e => exact hx σ pins H2 s2 e s' I2 hq
  | ok fl =>
    cases fl with
    | ret u => exact I2.after hq
    | next => exact False.elim hq
    | brk => exact False.elim hq
    | cont => exact False.elim hq
end
/-- in a lambda's body: a def that lets an exception out lets it out of the lambda -/
theorem lam_passes {P : Program} {w : World} {K : PySem.W.Frag} {mg : Str → Option Value} {base : Heap} {N : List Str} {F : NF} {f : Addr} {A : Around} {outer : List Env} {s : Shared} {H : Hp} {E : XK} (σ : L2.St) : PassesAt (L2N.CX P w) (ncx (L2N.CX P w) P w K mg base N F f A outer s H E) σ (WE (fun cls d _ H => E cls d H) σ) :=
  L2N.passAt (L2N.takes_of rfl rfl rfl rfl) σ
end Pw
namespace Pw
open PySem PySem.Spec PyProof.Rows L2 LamX NdefX Evl
/-- try: ask(..), a lambda asked -/
theorem q_trya {σ : L2.St} {H : Hp} {D : Ends} {tz : TS} {i : Nat} {f : Addr} {L : LM} {ws : List (Option V)} {sp : List (Option V) → Sp} {tA : TA} {vs : List V} {W : Ends → WX} (h : EvA tA σ H vs) (hs : σ[i]? = some (some (.ref f))) (hf : H f = some (LamO f L)) (hc : H L.c = some (CodeO L.c L.qual))
    (k : ∀ H1, Ex H H1 → sp ws vs H1 (fun _ H2 => tz D σ H2) (WE (W { D with nx := tz D }) σ)) :
    tSeq (fun D σ H => tDrop (tAsk i f L ws sp (WE (W D)) tA) D σ H) tz D σ H := ⟨hs, hf, h H (Ex.refl H) _ fun H1 e1 => ⟨e1 f _ hf, e1 _ _ hc, k H1 e1⟩⟩
end Pw
namespace Pw
open PySem PySem.Spec PyProof.Rows L2 LamX NdefX Evl
/-! ### a def that makes lambdas -/
structure DatC (K : PySem.W.Frag) (mg : Str → Option Value) (x : Str) (st : Stmt) (ps : List Str) (f : Addr) (fd : FuncData) (c : Addr) : Prop where
  ex : ∃ (oc : Value) (od : Option Addr) (kV doc pm : Value) (an : Option Addr) (ct : Value) (osl : Array (Option Value)),
    fd = PySem.W.fnOf x x (defArgs st) (defBody st) (defScope st) .none kV doc pm an (.ref c) ct ∧ K.lookup f = some ⟨oc, od, .func fd, osl⟩ ∧ PySem.W.codeIn K (.ref c) x = true
theorem DatC.ok {P : Program} {w : World} {K : PySem.W.Frag} {mg : Str → Option Value} {base : Heap} {x : Str} {st : Stmt} {N ps : List Str} {f c : Addr} {fd : FuncData} {k : Nat} {sp : Sp} (D : DatC K mg x st ps f fd c) (S : FnScope N ps (defScope st)) (len : ∀ vs H Q E, sp vs H Q E → vs.length = ps.length)
    (hbody : ∀ (A : Around) (outer : List Env) (s : Shared) (H : Hp) (vs : List V) (Q : VK) (E : XK), Room k (A.deeper (envOfC x (defScope st) s.heap.objs.size f (.ref c))) → sp vs H Q E →
      ∃ t, PSs (cxOf CX0 P w K mg base N x (defScope st) f (.ref c) A outer s H E).nox (defBody st) t ∧ t { nx := fun _ H' => Q .non H', rt := Q } (start N vs) H) : FnOk P w K mg base CX0 (k + 1) f fd ps sp := by
  obtain ⟨oc, od, kV, doc, pm, an, ct, osl, rfl, lk, hcd⟩ := D.ex
  refine fn_of lk hcd S len fun A outer s H vs Q E hr hsp => ?_
  obtain ⟨t, ht, q⟩ := hbody A outer s H vs Q E hr hsp
  exact ⟨t, ht.nox, q⟩
def freeB (names up : List (Str × NameKind)) : Bool := names.all fun y => !decide (y.2 = .free) || decide (up.lookup y.1 = some .cell) || decide (up.lookup y.1 = some .free)
theorem free_of {X : Cx} {sc scope : Scope} (e : X.env.scope = sc) (h : freeB scope.names sc.names = true) : ∀ y ∈ scope.names, y.2 = .free → X.env.scope.names.lookup y.1 = some .cell ∨ X.env.scope.names.lookup y.1 = some .free := fun y hy hf => by
  have z := List.all_eq_true.mp h y hy
  rw [e]
  simp only [Bool.or_eq_true, Bool.not_eq_true', decide_eq_false_iff_not, decide_eq_true_eq] at z
  rcases z with (z | z) | z
  · exact absurd hf z
  · exact .inl z
  · exact .inr z
/-- what isn't a table stays -/
theorem exn_lst {H H' : Hp} {a : Addr} {xs : List V} (e : ExtN H H') (h : H a = some (.lst xs)) : H' a = some (.lst xs) := e a _ h fun ps z => by cases z
theorem exn_l {K : PySem.W.Frag} {H H' : Hp} {a : Addr} {xs : List V} (e : ExtN H H') (h : SqL K H a xs) : SqL K H' a xs := by
  rcases h with (h | ⟨o, h⟩) | h
  · exact .inl (.inl (exn_lst e h))
  · exact .inl (.inr ⟨o, e a _ h fun ps z => by cases z⟩)
  · exact .inr h
/-- a list's address, of which R is known -/
def EvR (te : TE) (σ : L2.St) (H : Hp) (R : Addr → Hp → Prop) : Prop := ∀ H1, Ex H H1 → ∀ Q : VK, (∀ p H2, Ex H1 H2 → R p H2 → Q (.ref p) H2) → te σ H1 Q
section
variable {K : PySem.W.Frag} {σ : L2.St} {H H' : Hp} {ta tb tc te te2 t1 t2 t3 t4 ti : TE} {x y z v : V} {D : Ends} {tz tu : TS} {xs xs1 xs2 xs3 xs4 : List V}
theorem er_ofL (h : EvL te σ H xs) : EvR te σ H (fun p H2 => H2 p = some (.lst xs)) := fun H1 e _ q => h H1 e _ fun p H2 _ e2 hp => q p H2 e2 hp
theorem er_imp {R R' : Addr → Hp → Prop} (h : EvR te σ H R) (i : ∀ p H1, R p H1 → R' p H1) : EvR te σ H R' := fun H1 e _ q => h H1 e _ fun p H2 e2 hp => q p H2 e2 (i p H2 hp)
theorem er_pick4 {n : Nat} (h1 : EvL t1 σ H xs1) (h2 : EvL t2 σ H xs2) (h3 : EvL t3 σ H xs3) (h4 : EvL t4 σ H xs4) (hi : Ev ti σ H (.int (n : Int))) (hn : n < 4) :
    EvR (tOp (rIxL K) (tLst (tCons t1 (tCons t2 (tCons t3 (tCons t4 tNil))))) ti) σ H (fun p H2 => ∃ xs ∈ [xs1, xs2, xs3, xs4], H2 p = some (.lst xs)) := fun H0 e Q q =>
  h1 H0 e _ fun a1 H1 n1 e1 g1 => h2 H1 (e.trans e1) _ fun a2 H2 n2 e2 g2 => h3 H2 ((e.trans e1).trans e2) _ fun a3 H3 n3 e3 g3 => h4 H3 (((e.trans e1).trans e2).trans e3) _ fun a4 H4 n4 e4 g4 =>
    ⟨by show 4 ≤ sizeLine; decide, fun p hp => hi _ ((((e.trans e1).trans e2).trans e3).trans (e4.trans (Ex.new hp))) _ fun H5 e5 => by
      have hl : H5 p = some (.lst [.ref a1, .ref a2, .ref a3, .ref a4]) := e5 p _ upd_same
      have ee : Ex H4 H5 := (Ex.new hp).trans e5
      have E0 : Ex H0 H5 := (((e1.trans e2).trans e3).trans e4).trans ee
      match n, hn with
      | 0, _ => exact rv_ixL (v := .ref a1) (sq_of hl) rfl H5 (Ex.refl _) Q fun H6 e6 => q a1 H6 (E0.trans e6) ⟨xs1, by simp, e6 _ _ (ee _ _ (e4 _ _ (e3 _ _ (e2 _ _ g1))))⟩
      | 1, _ => exact rv_ixL (v := .ref a2) (sq_of hl) rfl H5 (Ex.refl _) Q fun H6 e6 => q a2 H6 (E0.trans e6) ⟨xs2, by simp, e6 _ _ (ee _ _ (e4 _ _ (e3 _ _ g2)))⟩
      | 2, _ => exact rv_ixL (v := .ref a3) (sq_of hl) rfl H5 (Ex.refl _) Q fun H6 e6 => q a3 H6 (E0.trans e6) ⟨xs3, by simp, e6 _ _ (ee _ _ (e4 _ _ g3))⟩
      | 3, _ => exact rv_ixL (v := .ref a4) (sq_of hl) rfl H5 (Ex.refl _) Q fun H6 e6 => q a4 H6 (E0.trans e6) ⟨xs4, by simp, e6 _ _ (ee _ _ g4)⟩⟩
/-- if not f(lambda, list): .. -/
theorem q_whenLam {X : Cx} {T : List (Addr × Str)} {mk : Addr → LM} {sp : Shared → Sp} {fr : List Str} {js : List Nat} {R : Addr → Hp → Prop} (hT : Tabs T H) (cp : ∀ c', X.Ok → Caps X (mk c').cl fr js) (hl : ∀ H1, ExtN H H1 → EvR te σ H1 R)
    (hs : ∀ (s : Shared) (f c' x : Addr) (H1 : Hp), CellsAt (mk c').cl fr (js.map (slotAt σ)) s.heap H1 → ExtN H H1 → H1 f = some (LamO f (mk c')) → H1 c' = some (CodeO c' (mk c').qual) → R x H1 → ∀ Q : VK, RetV (.bl true) H1 Q → sp s [.ref f, .ref x] H1 Q E0)
    (k : ∀ H2, ExtN H H2 → Tabs T H2 → tz D σ H2) :
    tSeq (tIfS (tNot (tB (tCallT X sp (tCons (tLamE T mk) (tCons te tNil))))) tu tNext) tz D σ H :=
  ⟨hT, fun f c' H1 e1 T1 _ hf hc => hl H1 e1 H1 (Ex.refl _) _ fun x H2 e2 hx s hC =>
    hs s f c' x H2 (hC _ fr js (cp c')) (e1.trans (ExtN.of e2)) (e2 _ _ hf) (e2 _ _ hc) hx _ fun H3 e3 => ⟨true, rfl, k H3 ((e1.trans (ExtN.of e2)).trans (ExtN.of e3)) (T1.ext fun b o z => e3 b o (e2 b o z))⟩⟩
theorem s_whenLam {X : Cx} {T : List (Addr × Str)} {mk : Addr → LM} {sp : Shared → Sp} {fr : List Str} {js : List Nat} {R : Addr → Hp → Prop} (hT : Tabs T H) (cp : ∀ c', X.Ok → Caps X (mk c').cl fr js) (hl : ∀ H1, ExtN H H1 → EvR te σ H1 R)
    (hs : ∀ (s : Shared) (f c' x : Addr) (H1 : Hp), CellsAt (mk c').cl fr (js.map (slotAt σ)) s.heap H1 → ExtN H H1 → H1 f = some (LamO f (mk c')) → H1 c' = some (CodeO c' (mk c').qual) → R x H1 → ∀ Q : VK, RetV (.bl true) H1 Q → sp s [.ref f, .ref x] H1 Q E0)
    (k : ∀ H2, ExtN H H2 → Tabs T H2 → D.nx σ H2) :
    tIfS (tNot (tB (tCallT X sp (tCons (tLamE T mk) (tCons te tNil))))) tu tNext D σ H :=
  ⟨hT, fun f c' H1 e1 T1 _ hf hc => hl H1 e1 H1 (Ex.refl _) _ fun x H2 e2 hx s hC =>
    hs s f c' x H2 (hC _ fr js (cp c')) (e1.trans (ExtN.of e2)) (e2 _ _ hf) (e2 _ _ hc) hx _ fun H3 e3 => ⟨true, rfl, k H3 ((e1.trans (ExtN.of e2)).trans (ExtN.of e3)) (T1.ext fun b o z => e3 b o (e2 b o z))⟩⟩
end
end Pw
namespace Pw
open PySem PySem.Spec PyProof.Rows L2 LamX NdefX Evl
/-- the table of one def's lambdas -/
def TTof (x : Str) (PP : Addr) : List (Addr × Str) := [(PP, x ++ ".<locals>." ++ "<lambda>")]
theorem tt_mem {x : Str} {PP : Addr} : (PP, x ++ ".<locals>." ++ "<lambda>") ∈ TTof x PP := List.mem_singleton.mpr rfl
theorem tt_uni {x : Str} {PP : Addr} : ∀ p ∈ TTof x PP, p.1 = PP → p.2 = x ++ ".<locals>." ++ "<lambda>" := fun p hp _ => by
  rw [List.mem_singleton.mp hp]
theorem tt_start {x : Str} {PP : Addr} {H : Hp} (h : H PP = some (.tbl #[])) : Tabs (TTof x PP) H := fun p hp => by
  rw [List.mem_singleton.mp hp]
  exact ⟨#[], h, trivial, fun pos cv hcv => by cases hcv⟩
end Pw

namespace Pw
open PySem PySem.Spec PyProof.Rows L2 HotX L2H
/-! ### a comprehension over range within an except suite -/
section
variable {X : Cx} {pins : List (Addr × Obj)} {s : Shared} {σ : L2.St} {H : Hp} {Q : VK}
/-- the handled exception's object, carried into a block that begins at s3 -/
theorem blk_pin {pe : Addr × Obj} {s3 s5 : Shared} {H3 H5 : Hp} {scope : Scope} {ce : Env} {fp : List Addr} {σ' : L2.St} (hp : pe ∈ X.pn) (I3 : Inv X pins σ H3 s3) (hfp : pe.1 ∉ fp) (hloc : pe.1 ≠ ce.locals) (I5 : Inv (X.blk s3 H3 scope ce fp) [] σ' H5 s5) : Inv (X.blk s3 H3 scope ce fp) [pe] σ' H5 s5 := by
  obtain ⟨g1, g2, g3, g4, g5⟩ := I3.pin pe (List.mem_append_left _ hp)
  have nf : pe.1 ∉ (X.blk s3 H3 scope ce fp).fs := fun hb => by
    have hb' : pe.1 ∈ frs X.stack := hb
    rcases I3.ok.stk with z | ⟨z, zf⟩
    · rw [z] at hb'
      exact g4 hb'
    · rw [z] at hb'
      have e : frs (X.env :: X.outer) = X.env.locals :: frs X.outer := by
        unfold frs
        rw [List.filterMap_cons, zf]
      rw [e] at hb'
      rcases List.mem_cons.mp hb' with q | q
      · exact g3 q
      · exact g4 q
  refine ⟨I5.ok, I5.os, I5.bare, I5.base, I5.loc, I5.cell, I5.free, I5.freeC, fun q hq => ?_, I5.hok, I5.len⟩
  have e : q = pe := by
    have h1 : q ∈ ([] : List (Addr × Obj)) ++ [pe] := hq
    simpa using h1
  subst e
  exact ⟨I5.base.keep _ _ g1 g2 nf hfp, I5.base.free _ _ g1 g2 hfp, hloc, nf, g5⟩
/-- [elt for x in range(..)] there -/
theorem pe_lcH {elt tg iter : Expr} {scope : Scope} {own : List (Str × Nat)} {pos : Pos} {wi : TI} {g : TG} {te : TE} (hot : HotC X) (nd : X.N.Nodup) (walk : PIH X tg iter wi) (blk : BlkOk X.N X.env.scope scope own)
    (dg : ∀ (s : Shared) (H : Hp) (C : Addr) (cl : List (Str × Addr)) (fp : List Addr), PG (X.blk s H scope (compEnvC scope cl C X.env) fp) tg g)
    (de : ∀ (s : Shared) (H : Hp) (C : Addr) (cl : List (Str × Addr)) (fp : List Addr), PE (X.blk s H scope (compEnvC scope cl C X.env) fp) elt te) (fold : ∀ x, foldedSetIterable iter X.env x = pure x := by intro _; rfl) :
    PE X (.ListComp elt [⟨tg, iter, [], 0⟩] scope pos) (tLc wi g tYes te (own.map (·.2))) := by
  refine ⟨fun pins s σ H Q I h => ?_⟩
  obtain ⟨pe0, hot1, hpe⟩ := hot
  obtain ⟨hh, vs0, hd0, hc0⟩ := hot1
  rw [eval_ListComp]
  have clo : ∀ y ∈ scope.names, y.2 = .free → ∃ c, X.env.cells.lookup y.1 = some c := fun y hy e => (blk.free y hy e).elim (fun k => I.ok.has _ (.inl k)) fun k => I.ok.has _ (.inr k)
  refine wpAny_comprehension_free (use := none) rfl fold (closure_ok clo) blk.kind (fun y hy e => by rw [blk.uniq y hy, e]) (thn (walk.run pins s σ H _ I h) fun xv s1 hx => thn hx fun itv s2 h2 => ?_)
  obtain ⟨it, fp, tn, J, H2, e, I2, T, st2, f2, q⟩ := h2
  subst e
  refine wpAny_newObj_type (newEnv_comp ?_) (by show 0 ≤ sizeLine; decide)
  obtain ⟨D, hD⟩ : ∃ D, D = s2.heap.objs.size := ⟨_, rfl⟩
  have fresh : H2 D = none := I2.hok.fresh (Nat.le_of_eq hD.symm)
  obtain ⟨W, ⟨m0, w0⟩, turn⟩ := q D fresh
  obtain ⟨s3, hs3⟩ : ∃ s3 : Shared, s3 = { s2 with heap := s2.heap.push { cls := .type "list", data := .seq ([] : List Value).toArray } } := ⟨_, rfl⟩
  have hh3 : s3.heap = s2.heap.push { cls := .type "list", data := .seq ([] : List Value).toArray } := by rw [hs3]
  have at3 : ∀ b o, s2.heap.get? b = some o → s3.heap.get? b = some o := fun b o e => by
    rw [hh3]
    exact Heap.get?_push_of_some _ e
  have I3 : Inv X pins σ (upd H2 D (.lst [])) s3 := by
    rw [hs3]
    refine I2.laid (t' := s2.toks) (fun b o e => Heap.get?_push_of_some _ e) (Nat.le_of_eq hD.symm) ⟨Nat.zero_le _, [], 0, .nil, ?_⟩
    rw [hD]
    exact Heap.get?_push_size _ rfl
  have low : ∀ b ∈ fp, b < s2.heap.objs.size := fun b hb => Heap.lt_size (T.obj _ _ st2 b hb).choose_spec.1
  have f3 : ∀ b ∈ fp, FpOk X pins (upd H2 D (.lst [])) b ∧ b < s3.heap.objs.size := fun b hb => by
    refine ⟨⟨?_, (f2 b hb).2⟩, by rw [hh3, Heap.size_push]; exact Nat.lt_succ_of_lt (low b hb)⟩
    rw [upd_ne (by rw [hD]; exact Nat.ne_of_lt (low b hb))]
    exact (f2 b hb).1
  have st3 : tn 0 s3.heap := T.keep _ _ _ st2 fun b _ o e => at3 b o e
  have I4 := block_start I3 blk nd f3
  obtain ⟨C, hC⟩ : ∃ C, C = s3.heap.objs.size := ⟨_, rfl⟩
  obtain ⟨cl, hcl⟩ : ∃ cl, cl = cellsFrom (s3.heap.objs.size + 1) scope.names (cloFrom X.env.cells scope.names []) := ⟨_, rfl⟩
  obtain ⟨H3, hH3⟩ : ∃ H3, H3 = upd H2 D (.lst []) := ⟨_, rfl⟩
  rw [← hcl, ← hC, ← hH3] at I4
  rw [← hH3] at I3 f3 w0
  have pg := dg s3 H3 C cl fp
  have pe := de s3 H3 C cl fp
  obtain ⟨ce, hce⟩ : ∃ ce, ce = compEnvC scope cl C X.env := ⟨_, rfl⟩
  rw [← hce] at I4 pg pe
  have cL : ce.locals = C := by
    rw [hce]
    rfl
  obtain ⟨s4, hs4⟩ : ∃ s4 : Shared, s4 = { s3 with heap := pushCells (s3.heap.push { cls := .type "dict", data := .dict #[] }) scope.names } := ⟨_, rfl⟩
  rw [← hs4] at I4
  have st4 : tn 0 s4.heap := T.keep _ _ _ st3 fun b _ o e => by
    rw [hs4]
    exact pushCells_keeps _ _ _ _ (Heap.get?_push_of_some _ e)
  have pin3 := I3.pin pe0 (List.mem_append_left _ hpe)
  have nfp : pe0.1 ∉ fp := fun hb => (f3 _ hb).1.2.2.2.2.2 pe0 (List.mem_append_left _ hpe) rfl
  have nloc : pe0.1 ≠ ce.locals := by
    rw [cL, hC]
    exact Nat.ne_of_lt (Heap.lt_size pin3.1)
  have ready : ∀ {σ' : L2.St} {H' : Hp} {s' : Shared}, Inv (X.blk s3 H3 scope ce fp) [] σ' H' s' → Inv ((X.blk s3 H3 scope ce fp).tr ([] ++ [pe0]) (fun _ _ => False)) [] σ' H' s' := fun I' => (blk_pin hpe I3 nfp nloc I').toTry _
  have hotB : HotC ((X.blk s3 H3 scope ce fp).tr ([] ++ [pe0]) (fun _ _ => False)) := ⟨pe0, ⟨hh, vs0, hd0, hc0⟩, by show pe0 ∈ [pe0]; exact List.mem_singleton.mpr rfl⟩
  have calmB : ∀ {σ' : L2.St} {H' : Hp} {s' : Shared}, Inv (X.blk s3 H3 scope ce fp) [] σ' H' s' → (∀ b ∈ fp, H' b = none) → ∀ b ∈ fp, FpOk ((X.blk s3 H3 scope ce fp).tr ([] ++ [pe0]) (fun _ _ => False)) [] H' b := fun {σ' H' s'} I' hn b hb =>
    ⟨hn b hb, (I'.ok.exf b hb).1, I'.ok.exfs b hb, .inl hb, fun x c e => (I'.ok.exf b hb).2 x c e, fun p hp => by
      have hp' : p ∈ ([] ++ [pe0]) ++ ([] : List (Addr × Obj)) := hp
      have e : p = pe0 := by simpa using hp'
      rw [e]
      exact fun z => nfp (by rw [z]; exact hb)⟩
  have plainB : ∀ {σ' : L2.St} {H' : Hp} {s' : Shared}, Inv (X.blk s3 H3 scope ce fp) [] σ' H' s' → (∀ b ∈ fp, H' b = none) → ∀ b ∈ fp, FpOk (X.blk s3 H3 scope ce fp) [] H' b := fun {σ' H' s'} I' hn b hb =>
    ⟨hn b hb, (I'.ok.exf b hb).1, I'.ok.exfs b hb, .inl hb, fun x c e => (I'.ok.exf b hb).2 x c e, fun p hp => absurd (show p ∈ ([] : List (Addr × Obj)) ++ [] from hp) (by simp)⟩
  have back : ∀ {σ' : L2.St} {H' : Hp} {s' : Shared}, Inv ((X.blk s3 H3 scope ce fp).tr ([] ++ [pe0]) (fun _ _ => False)) [] σ' H' s' → Inv (X.blk s3 H3 scope ce fp) [] σ' H' s' := fun {σ' H' s'} I' =>
    have I6 : Inv (X.blk s3 H3 scope ce fp) [pe0] σ' H' s' := I'.ofTry I4.ok
    ⟨I6.ok, I6.os, I6.bare, I6.base, I6.loc, I6.cell, I6.free, I6.freeC, fun p hp => absurd (show p ∈ ([] : List (Addr × Obj)) ++ [] from hp) (by simp), I6.hok, I6.len⟩
  have loop : codeAny (model X.prog X.w) X.A (.compLoop (.ListComp elt [⟨tg, iter, [], 0⟩] scope pos) 0 (.ref it) (.ref D) ce) (compPost (model X.prog X.w) X.A X.xe none (EP X pins σ Q) (.ref D) C) s4 := by
    refine compLoop_any (fun n s' => ∃ i H', Inv (X.blk s3 H3 scope ce fp) [] (wipe σ (own.map (·.2))) H' s' ∧ tn i s'.heap ∧ (∀ b ∈ fp, H' b = none) ∧ W i n H') ?_ m0 ⟨0, H3, I4, st4, fun b hb => (f3 b hb).1.1, w0⟩
    rintro n s5 ⟨i, H5, I5, st5, n5, w5⟩
    rcases turn i n H5 w5 with ⟨stop, qq⟩ | ⟨go, Nx, hNx, step⟩
    · refine thnF (T.done ((X.blk s3 H3 scope ce fp).tr ([] ++ [pe0]) (fun _ _ => False)) rfl rfl rfl hotB i [] s5 _ H5 (fun _ _ => False) (ready I5) (calmB I5 n5) st5 stop) fun r s6 ⟨hr, J6⟩ => ?_
      subst hr
      have I6 := back J6
      have I7 : Inv X pins σ H5 s6 := I3.call' (ch := fp) I6.os I6.base I6.hok I6.bare fun b hb => by
        obtain ⟨_, k1, _, k2, k3, k4⟩ := (f3 b hb).1
        exact ⟨k2, k1, k3, k4⟩
      have nC : H5 C = none := by
        rw [← cL]
        exact I6.free
      obtain ⟨m, hn, _⟩ := I6.loc
      have hn' : s6.heap.Ns C m := by
        rw [← cL]
        exact hn
      refine ⟨m, hn', fun h'' sb => ?_⟩
      obtain ⟨k0, k1, k2, k3, k4, k5⟩ := I3.fpOk (b := C) (Nat.le_of_eq hC.symm) nC
      exact ⟨.ref D, H5, I7.turned (t' := s6.toks) (fun b o hb e => (sb.2 b hb).trans e) k0 k1 k3 k4 k5, rfl, qq⟩
    · refine thnF (T.item ((X.blk s3 H3 scope ce fp).tr ([] ++ [pe0]) (fun _ _ => False)) rfl rfl rfl hotB i [] s5 _ H5 (fun _ _ => False) (ready I5) (calmB I5 n5) st5 go) fun r s6 ⟨u, hr, h6⟩ => ?_
      subst hr
      refine thnF h6 fun _ s7 ⟨x, H7, J7, r7, y7, st7, n7⟩ => ?_
      have I7 := back J7
      have P7 := I7.pinned (plainB I7 n7) (T.obj _ _ st7)
      refine thnF (pg.run _ s7 _ H7 x u _ P7 r7 (step x H7 y7)) fun _ s8 ⟨σ8, H8, I8, hw8, q8⟩ => ?_
      refine thnF ((pts_nil (X := X.blk s3 H3 scope ce fp)).run _ s8 σ8 H8 _ I8 q8) fun b s9 ⟨H9, I9, q9⟩ => ?_
      have again : ∀ {s' : Shared} {H' : Hp}, Inv (X.blk s3 H3 scope ce fp) ([] ++ pinsAt fp s7.heap) σ8 H' s' → Nx H' → ∃ m, m < n ∧ ∃ i H', Inv (X.blk s3 H3 scope ce fp) [] (wipe σ (own.map (·.2))) H' s' ∧ tn i s'.heap ∧ (∀ b ∈ fp, H' b = none) ∧ W i m H' := fun {s' H'} I' nx => by
        obtain ⟨m', hm, w'⟩ := hNx H' nx
        have held : ∀ b ∈ fp, ∀ o, s7.heap.get? b = some o → s'.heap.get? b = some o ∧ H' b = none := fun b hb o e => by
          have z := I'.pin (b, o) (List.mem_append_right _ (List.mem_append_right _ (mem_pinsAt hb e)))
          exact ⟨z.1, z.2.1⟩
        have same : (wipe σ (own.map (·.2))).length = σ8.length := by rw [← hw8, wipe_length]
        refine ⟨m', hm, i + 1, H', (I'.unpinned (pins := [])).weak same (fun j v e => ?_), T.keep _ _ _ st7 fun b hb o e => (held b hb o e).1, fun b hb => ?_, w'⟩
        · rw [← hw8] at e
          exact (wipe_some e).1
        · obtain ⟨o, e, _⟩ := T.obj _ _ st7 b hb
          exact (held b hb o e).2
      cases b with
      | false =>
        simp only [Bool.false_eq_true, if_false] at q9 ⊢
        exact again I9 q9
      | true =>
        simp only [if_true] at q9 ⊢
        refine thnF (pe.run _ s9 σ8 H9 _ I9 q9) fun z s10 ⟨yv, H10, I10, r10, acc, hD10, hz10, nx⟩ => ?_
        exact app_ok (X := X.blk s3 H3 scope ce fp) I10 hD10 hz10 r10 fun s11 I11 => again I11 nx
  subst hce hcl hC hs4 hs3 hD
  exact codeAny_compStart_list loop (T.self X.A 0 _ _ _ st4 loop)
end
end Pw

namespace Pw
open PySem PySem.Spec PyProof.Rows L2 LamX
/-- every def of the text that stands at the top has an empty table when the law begins -/
def Owns (q : Program) (K : PySem.W.Frag) (mg : Str → Option Value) (h : Heap) : Prop := ∀ (x : Str) (f : Addr), ((recsOf q).any fun e => e.name == x) = true → mg x = some (.ref f) → OwnTab K f h
theorem walk_ofOwns {l : PySem.W.OpenLaw} {n k : Nat} {q : Program} {loose : List Str} {XP : (Str → Option Value) → Heap → Prop} {YP : World → Heap → Prop} {d : DefRec} {K : Params → PySem.W.Frag} {CX : World → CXT} {x : Str}
    (most : l.most = some n) (small : n ≤ sizeLine) (nodef : d.params.defaults = []) (room : Room k callerA) (inY : ∀ (w : World) (h : Heap), YP w h → (K w.params).In h)
    (F : ∀ (w : World) (mg : Str → Option Value) (fa : Addr) (h : Heap), YP w h → (K w.params).In h → h.Ns mainGlobals mg → mg d.name = some (.ref fa) → Owns q (K w.params) mg h → LawAtS l w (K w.params) (CX w) k n x mg fa h)
    (quiet : ∀ (w : World) (H : Hp) (s : Shared) (e : Value) (s' : Shared), CX w [] H s (fun _ _ _ => False) e s' → False) :
    PySem.W.WalkO q loose XP YP l.row.toRowW d [] (fun f vs => PySem.call f vs) := by
  refine Att.attach_callB most nodef fun w s₀ s₁ mg mb fa o pm cd doc a vs ns G Y ho hd hcd hmg hobj hints hlen hbits hg => ?_
  have KX := inY w _ Y
  have all : Owns q (K w.params) mg s₁.heap := fun y f hy hf c P o1 fd1 e dd vs1 sl k1 k2 k3 k4 k5 => by
    obtain ⟨dL, hm, hn⟩ := List.any_eq_true.mp hy
    have hn : dL.name = y := beq_iff_eq.mp hn
    obtain ⟨a', o', fd', c', P', j1, j2, j3, j4, j5, ⟨oc, vc, e1, _, e3, e4⟩, hP⟩ := G.T.tab dL hm
    rw [hn, hf] at j1
    cases j1
    have m1 := KX _ _ k1
    rw [m1] at j2
    cases j2
    rw [k2] at j3
    cases j3
    rw [k3] at j4
    cases j4
    have m2 := KX _ _ k4
    rw [m2] at e1
    cases e1
    cases e3
    rw [k5] at e4
    cases e4
    exact hP
  obtain ⟨fd, cs, sp, hT, nT, C, hb, hsp, hF⟩ := F w mg fa _ Y KX G.T.g hmg all
  exact law_callTs KX G.T.g G.T.b G.T.builtins G.T.nolimit hg hT nT C G.T.bmain hobj hints (Nat.le_trans hlen small) room hF hb (fun H hH hS => hsp H a ns hlen hbits hH hS) fun H e s' => quiet w H s₁ e s'
end Pw
namespace Pw
open PySem PySem.Spec PyProof.Rows L2 LamX NdefX Evl
theorem kit_val {K : PySem.W.Frag} {D : Addr} (h : PySem.W.subIn K (.ref D) (.type "ValueError") = some true) : PySem.W.kitOne K (.ref D) (.type "ValueError") = some true := by
  unfold PySem.W.kitOne
  rw [if_neg fun z => by cases beq_iff_eq.mp z]
  show (if PySem.W.kitMeta "ValueError" = true then PySem.W.subIn K (.ref D) (.type "ValueError") else none) = some true
  rw [if_pos (by decide +kernel)]
  exact h
theorem hotc_of {X : Cx} {a : Addr} {oe : Obj} {pn : List (Addr × Obj)} {cls : Value} {d : Option Addr} (hz : L2N.Zn cls d oe) (hf : ∃ vs, oe.data = .fields vs) : L2H.HotC (X.suite a ((a, oe) :: pn)) := by
  obtain ⟨vs, hv⟩ := hf
  exact ⟨(a, oe), ⟨rfl, vs, hv, hz.2.2 vs hv⟩, List.mem_cons_self⟩
theorem cells_nil {h : Heap} {H : Hp} : CellsAt [] [] [] h H := ⟨rfl, fun y c e => (nomatch e), fun x y c e => (nomatch e), fun i y e => by
  rw [List.getElem?_nil] at e
  cases e⟩
/-! ### lambdas that refuse -/
/-- what such a lambda promises: handed what is bad, it lets the error out -/
def AskSp (Bd : V → Hp → Prop) (C : Addr) : List (Option V) → Sp := fun _ vs H _ E => ∃ x, vs = [x] ∧ Bd x H ∧ ∀ H1, Ex H H1 → E (.ref C) none H1
structure AskAt (P : Program) (w : World) (K : PySem.W.Frag) (mg : Str → Option Value) (base : Heap) (Bd : V → Hp → Prop) (C : Addr) (H : Hp) (f : Addr) : Prop where
  ex : ∃ (L : LM) (ps : List Str), H f = some (LamO f L) ∧ H L.c = some (CodeO L.c L.qual) ∧ L.cl = [] ∧ LOk P w K mg base (L2N.CX P w) 13 f L ps [] (AskSp Bd C)
section
variable {P : Program} {w : World} {K : PySem.W.Frag} {mg : Str → Option Value} {base : Heap} {Bd : V → Hp → Prop} {C f : Addr} {H H' : Hp}
theorem AskAt.extN (e : ExtN H H') (h : AskAt P w K mg base Bd C H f) : AskAt P w K mg base Bd C H' f := by
  obtain ⟨L, ps, h1, h2, h3, h4⟩ := h.ex
  exact ⟨L, ps, e _ _ h1 lamO_ne, e _ _ h2 codeO_ne, h3, h4⟩
theorem AskAt.mono (e : Ex H H') (h : AskAt P w K mg base Bd C H f) : AskAt P w K mg base Bd C H' f := h.extN (ExtN.of e)
end
/-- a helper def that makes lambdas -/
structure DatK (K : PySem.W.Frag) (mg : Str → Option Value) (x : Str) (st : Stmt) (ps : List Str) (f : Addr) (fd : FuncData) (c : Addr) : Prop where
  c : DatC K mg x st ps f fd c
  d : Dat K mg x st ps f fd
theorem tabs_start {T : List (Addr × Str)} {H : Hp} (h : ∀ p ∈ T, H p.1 = some (.tbl #[])) : Tabs T H := fun p hp => ⟨#[], h p hp, trivial, fun pos cv hcv => by cases hcv⟩
/-- an own exception of one argument of any form -/
theorem pmk_ownE {X : Cx} {C : Addr} {bmB : List Value} {B newId initId : String} {nm : Str} {arg : PySem.Expr} {te : TE} {p pos : Pos} (F : ExcBaseFacts B newId initId bmB) (qE : PySem.W.excIn X.K C bmB newId = true) (mC : X.mg nm = some (.ref C)) (inK : PySem.W.keepIn X.K (.ref C) = true) (rs : Raises X (.ref C)) (gl : Gl X nm)
    (ha : PE X arg te) (one : starEach [arg] X.env = (false, eval arg X.env) :: starEach [] X.env := by rfl) (notDb : (nm == ("__debug__" : Str)) = false := by decide) : L2N.PMk X (.Call (.Name nm p) [arg] [] pos) (fun σ H Q => te σ H fun _ H1 => Q (.ref C) none H1) := by
  intro pins s σ H Q I h
  refine wpAny_Call_Name_kw (ld_glob I gl mC ?_ notDb)
  refine PySem.W.callWith_K (h₀ := X.base) I.ok.mod.kin inK ?_ one (by rfl)
  rw [one]
  show wpAny _ _ (spliced ((false, eval arg X.env) :: backTo pos (starEach [] X.env))) _ _ s
  refine Calls.spliced_cons (thn (ha.run pins s σ H _ I h) fun u s1 ⟨v, H1, I1, _, q1⟩ => ?_)
  refine Calls.spliced_nil ⟨I1.kIn, ?_⟩
  show wpAny _ _ (call (.ref C) [u]) _ _ _
  obtain ⟨b1, b2, b3, b4, b5, b6, b7, b8, b9, b10, b11, b12, b13, b14, b15, b16, b17, inC, inN, noI, TT⟩ := exc_obj I1.kIn qE
  exact wpAny_call_exc_subT F TT inC inN noI (fun h' e hm => L2N.mk_of I1 hm rs q1 (I1.hok.gone hm.new)) (by show 1 ≤ sizeLine; rw [sizeLine_eq]; omega)
end Pw

namespace Pw
open PySem PySem.Spec PyProof.Rows MeetsSeq MeetsSeq2 MeetsSeq3
section
variable {prog : Program} {w : World} {A : Around} {s : Shared} {E : Value → Shared → Prop}
theorem call_dict_eq_other {a : Addr} {y : Value} {T : String} {o : Obj} (da : s.TypeIs (.ref a) "dict") (hy : s.TypeIs y T) (sub : isSubtype (.type T) (.type "dict") = pure false) (Q : Value → Shared → Prop) (q : Q .notImplemented s) : wpAny (model prog w) A (call (.builtin "dict.__eq__") [.ref a, y]) Q E s := by
  refine wpAny_call_entry PySem.F.slot_dict_eq da PySem.F.entry_dict_eq ?_ (PySem.F.args_dict_eq_2 _ _)
  show wpAny _ _ (Builtin.Dict.dictSlotArgs "__eq__" ⟨[.ref a, y], []⟩ >>= _) _ _ s
  refine wpAny_bind ?_
  unfold Builtin.Dict.dictSlotArgs
  refine wpAny_bind (wpAny_notOrdered_dict da ?_)
  show wpAny _ _ (pure (Value.ref a, y)) _ _ s
  refine wpAny_pure ?_
  refine wpAny_bind (wpAny_isInstance hy sub ?_)
  simp only [Bool.not_false, if_true]
  wp_walk
  exact ⟨_, rfl, q⟩
theorem call_dict_ne_other {a : Addr} {y : Value} {T : String} {o : Obj} (da : s.TypeIs (.ref a) "dict") (hy : s.TypeIs y T) (sub : isSubtype (.type T) (.type "dict") = pure false) (Q : Value → Shared → Prop) (q : Q .notImplemented s) : wpAny (model prog w) A (call (.builtin "dict.__ne__") [.ref a, y]) Q E s := by
  refine wpAny_call_entry PySem.F.slot_dict_ne da PySem.F.entry_dict_ne ?_ (PySem.F.args_dict_ne_2 _ _)
  show wpAny _ _ (Builtin.Dict.dictSlotArgs "__ne__" ⟨[.ref a, y], []⟩ >>= _) _ _ s
  refine wpAny_bind ?_
  unfold Builtin.Dict.dictSlotArgs
  refine wpAny_bind (wpAny_notOrdered_dict da ?_)
  show wpAny _ _ (pure (Value.ref a, y)) _ _ s
  refine wpAny_pure ?_
  refine wpAny_bind (wpAny_isInstance hy sub ?_)
  simp only [Bool.not_false, if_true]
  wp_walk
  exact ⟨_, rfl, q⟩
end
theorem int_eq_declines_dict (b : Int) (u : Tok) (l : Addr) (es : Array DictEntry) (n : Nat) (dd : Option Addr) (sl : Array (Option Value)) :
    Meets (Builtin.«int.__eq__» ⟨[.int b u, .ref l], []⟩) (fun _ R s => s.heap.get? l = some { cls := .type "dict", dict := dd, data := .dict es n, slots := sl } ∧ R (.ok (.ret .notImplemented)) s) :=
  .of_wp fun prog w A R s h => by obtain ⟨hp, g, d, tk, os⟩ := s; obtain ⟨hl, h⟩ := h; wp_walk using AutoSeq1.wpAny_loadPart' hl, wpAny_load hl; exact ⟨_, rfl, h⟩
theorem list_ne_declines_dict (l b : Addr) (items : Array Value) (es : Array DictEntry) (n n2 : Nat) (dd dd2 : Option Addr) (sl sl2 : Array (Option Value)) :
    Meets (Builtin.«list.__ne__» ⟨[.ref l, .ref b], []⟩) (fun _ R s => s.heap.get? l = some { cls := .type "list", dict := dd, data := .seq items n, slots := sl } ∧ s.heap.get? b = some { cls := .type "dict", dict := dd2, data := .dict es n2, slots := sl2 } ∧ R (.ok (.ret .notImplemented)) s) :=
  .of_wp fun prog w A R s h => by obtain ⟨hp, g, d, tk, os⟩ := s; obtain ⟨hl, hb, h⟩ := h; have f1 := PySem.F.sub_dict_list; wp_walk using AutoSeq1.wpAny_loadPart' hl, AutoSeq1.wpAny_loadPart' hb; exact ⟨_, rfl, h⟩
section
variable {A : Around} {s : Shared}
theorem rcNe_dict_list {d l : Addr} {items : Array Value} {o : Obj} (ho : s.heap.get? d = some o) (hc : o.cls = .type "dict") (hd : ∃ es n, o.data = .dict es n) (hl : s.heap.IsList l items) (hu : A.units < cLine) : SeqAt.RcNeAt A s (.ref d) (.ref l) true := fun prog w E Q h => by
  obtain ⟨cls, dd, data, sl⟩ := o
  obtain ⟨es, n, hd⟩ := hd
  simp only at hc hd
  subst hc hd
  obtain ⟨⟨cls2, dd2, data2, sl2⟩, ho2, hc2, n2, hd2⟩ := id hl
  simp only at hc2 hd2
  subst hc2 hd2
  have hne : d ≠ l := fun z => by
    rw [z, ho2] at ho
    have k := congrArg Obj.cls (Option.some.inj ho)
    exact absurd (Value.type.inj k) (by decide)
  have td : s.TypeIs (.ref d) "dict" := ⟨_, ho, rfl⟩
  have tl : s.TypeIs (.ref l) "list" := ⟨_, ho2, rfl⟩
  exact (SeqAt.rc_ne_decline_or (k := false) td tl (by decide) PySem.F.sub_list_dict PySem.F.slot_dict_ne PySem.F.slot_list_ne_refl
    (fun Q' hq => call_dict_ne_other (o := ⟨.type "dict", dd, .dict es n, sl⟩) td tl PySem.F.sub_list_dict Q' hq)
    (fun _ hq => call_meets PySem.F.slot_list_ne_refl tl PySem.F.entry_list_ne (PySem.F.args_list_ne_2 _ _) (list_ne_declines_dict l d items es n2 n dd2 dd sl2 sl) ⟨ho2, ho, hq⟩)
    (fun _ hq => wpAny_isSame_ref_other hne ho ho2 (by simp) hq) (.inr hu) h)
theorem rc_dict_int {d : Addr} {o : Obj} (b : Int) (u : Tok) (ho : s.heap.get? d = some o) (hc : o.cls = .type "dict") (hd : ∃ es n, o.data = .dict es n) (hu : A.units < cLine) : SeqAt.RcAt A s (.ref d) (.int b u) false := fun prog w E Q h => by
  obtain ⟨cls, dd, data, sl⟩ := o
  obtain ⟨es, n, hd⟩ := hd
  simp only at hc hd
  subst hc hd
  have td : s.TypeIs (.ref d) "dict" := ⟨_, ho, rfl⟩
  exact SeqAt.rc_eq_decline_or (k := false) td (typeIs_int s b u) (by decide) PySem.F.sub_int_dict PySem.F.slot_dict_eq PySem.F.slot_int_eq_refl
    (fun Q' hq => call_dict_eq_other (o := ⟨.type "dict", dd, .dict es n, sl⟩) td (typeIs_int s b u) PySem.F.sub_int_dict Q' hq)
    (fun _ hq => call_meets PySem.F.slot_int_eq_refl (typeIs_int s b u) PySem.F.entry_int_eq (PySem.F.args_int_eq_2 _ _) (int_eq_declines_dict b u d es n dd sl) ⟨ho, hq⟩)
    (fun _ hq => wpAny_of_eq (rfl : isSame (.ref d) (.int b u) = pure false) hq) (.inr hu) h
theorem eqAt_dict_int {d : Addr} {o : Obj} (b : Int) (u : Tok) (ho : s.heap.get? d = some o) (hc : o.cls = .type "dict") (hd : ∃ es n, o.data = .dict es n) (hu : A.units < cLine) : SeqAt.EqAt A s (.ref d) (.int b u) false := fun prog w E Q h => by
  unfold eqBool
  refine wpAny_holding ?_
  refine wpAny_ite_split (fun hab => absurd (eq_of_beq hab) nofun) (fun _ => ?_)
  exact wpAny_bind (rc_dict_int b u ho hc hd hu prog w E _ (wpAny_truthy_bool h))
end
end Pw
namespace Pw
open PySem PySem.Spec PyProof.Rows L2 Evl
local macro_rules | `(tactic| walk_at "sq") => `(tactic| first | assumption | exact sq_of (by assumption) | exact ex_l (by assumption) (by assumption) | exact ex_l (by assumption) (sq_of (by assumption)) | exact st_of (by assumption))
local macro_rules | `(tactic| walk_at "cond") => `(tactic| first | assumption | decide | (show (0 : Int) < _; omega) | (show (0 : Int) < _ ∧ _ < (1073741824 : Int); constructor <;> omega) | exact mul_l (by constructor <;> omega) | exact mul_r (by constructor <;> omega))
local macro_rules | `(tactic| walk_at "rv") => `(tactic| first | exact rv_I0 | exact rv_I (by walk_at "cond") | exact rv_eq rfl | exact rv_ne rfl | exact rv_eqL (by walk_at "sq") (by walk_at "sq") | exact rv_neL (by walk_at "sq") (by walk_at "sq") | exact rv_at (by walk_at "sq") (by omega) (by omega))
local macro_rules | `(tactic| walk_at "rc") => `(tactic| first | exact rc_lenI (by walk_at "sq") | exact rc_len (by walk_at "sq") | exact rc_minN | exact rc_min | exact rc_abs | exact rc_isi_int (by decide +kernel) | exact rc_isi_bl (by decide +kernel) | exact rc_isi_lst (by assumption) (by decide +kernel) | exact rc_sum (by walk_at "sq") | exact rc_all (by walk_at "sq") | exact rc_any (by walk_at "sq"))
local macro_rules | `(tactic| walk_at "ev") => `(tactic| first
  | exact ev_var rfl | exact ev_c | assumption | exact ea_nil
  | (refine' ea_cons ?a ?b; (case a => walk_at "ev"); (case b => walk_at "ev"))
  | (refine' ev_op ?a ?b ?c; (case a => walk_at "ev"); (case b => walk_at "ev"); (case c => walk_at "rv"))
  | (refine' ev_un ?a ?b; (case a => walk_at "ev"); (case b => exact ru_neg))
  | (refine' ev_cb ?a ?b; (case a => walk_at "ev"); (case b => walk_at "rc"))
  | (refine' ev_call ?a ?b; (case a => walk_at "ev"); (case b => walk_at "spv")))
local macro_rules | `(tactic| walk_at "et") => `(tactic| first
  | (refine' et_test ?a; (case a => walk_at "ev"))
  | (refine' et_B ?a; (case a => walk_at "ev"))
  | (refine' et_not ?a; (case a => walk_at "et")))
def topS (i : Nat) : Stmt := PySem.Challenge.pw_powerrows_k10_refused.main.body.getD i (.Pass ⟨0, 0, 0, 0⟩)
abbrev s_wall : Stmt := topS 0
abbrev nm_wall : List Str := ["k"]
theorem sc_wall : FnScope nm_wall ["k"] (defScope s_wall) := ⟨rfl, rfl, rfl, by decide +kernel, rfl, by decide +kernel, by decide +kernel⟩
abbrev s_is_number : Stmt := topS 18
abbrev nm_is_number : List Str := ["thing"]
theorem sc_is_number : FnScope nm_is_number ["thing"] (defScope s_is_number) := ⟨rfl, rfl, rfl, by decide +kernel, rfl, by decide +kernel, by decide +kernel⟩
abbrev s_is_within : Stmt := topS 19
abbrev nm_is_within : List Str := ["thing", "least", "most"]
theorem sc_is_within : FnScope nm_is_within ["thing", "least", "most"] (defScope s_is_within) := ⟨rfl, rfl, rfl, by decide +kernel, rfl, by decide +kernel, by decide +kernel⟩
abbrev s_is_rest : Stmt := topS 20
abbrev nm_is_rest : List Str := ["prime", "thing"]
theorem sc_is_rest : FnScope nm_is_rest ["prime", "thing"] (defScope s_is_rest) := ⟨rfl, rfl, rfl, by decide +kernel, rfl, by decide +kernel, by decide +kernel⟩
abbrev s_are_rests : Stmt := topS 21
abbrev nm_are_rests : List Str := ["prime", "thing", "least", "most", "rest"]
theorem sc_are_rests : FnScope nm_are_rests ["prime", "thing", "least", "most"] (defScope s_are_rests) := ⟨rfl, rfl, rfl, by decide +kernel, rfl, by decide +kernel, by decide +kernel⟩
abbrev s_is_rule : Stmt := topS 22
abbrev nm_is_rule : List Str := ["prime", "thing", "top", "bottom"]
theorem sc_is_rule : FnScope nm_is_rule ["prime", "thing"] (defScope s_is_rule) := ⟨rfl, rfl, rfl, by decide +kernel, rfl, by decide +kernel, by decide +kernel⟩
abbrev s_is_term : Stmt := topS 23
abbrev nm_is_term : List Str := ["prime", "thing", "rest", "shift", "power"]
theorem sc_is_term : FnScope nm_is_term ["prime", "thing"] (defScope s_is_term) := ⟨rfl, rfl, rfl, by decide +kernel, rfl, by decide +kernel, by decide +kernel⟩
abbrev s_are_terms : Stmt := topS 24
abbrev nm_are_terms : List Str := ["prime", "thing", "term"]
theorem sc_are_terms : FnScope nm_are_terms ["prime", "thing"] (defScope s_are_terms) := ⟨rfl, rfl, rfl, by decide +kernel, rfl, by decide +kernel, by decide +kernel⟩
abbrev s_need_prime : Stmt := topS 25
abbrev nm_need_prime : List Str := ["prime"]
theorem sc_need_prime : FnScope nm_need_prime ["prime"] (defScope s_need_prime) := ⟨rfl, rfl, rfl, by decide +kernel, rfl, by decide +kernel, by decide +kernel⟩
abbrev s_need_row : Stmt := topS 26
abbrev nm_need_row : List Str := ["prime", "row"]
theorem sc_need_row : FnScope nm_need_row ["prime", "row"] (defScope s_need_row) := ⟨rfl, rfl, rfl, by decide +kernel, rfl, by decide +kernel, by decide +kernel⟩
abbrev s_need_prime_and_rows : Stmt := topS 27
abbrev nm_need_prime_and_rows : List Str := ["prime", "one", "other"]
theorem sc_need_prime_and_rows : FnScope nm_need_prime_and_rows ["prime", "one", "other"] (defScope s_need_prime_and_rows) := ⟨rfl, rfl, rfl, by decide +kernel, rfl, by decide +kernel, by decide +kernel⟩
abbrev s_need_rule : Stmt := topS 28
abbrev nm_need_rule : List Str := ["prime", "rule"]
theorem sc_need_rule : FnScope nm_need_rule ["prime", "rule"] (defScope s_need_rule) := ⟨rfl, rfl, rfl, by decide +kernel, rfl, by decide +kernel, by decide +kernel⟩
abbrev s_need_places : Stmt := topS 29
abbrev nm_need_places : List Str := ["prime", "places"]
theorem sc_need_places : FnScope nm_need_places ["prime", "places"] (defScope s_need_places) := ⟨rfl, rfl, rfl, by decide +kernel, rfl, by decide +kernel, by decide +kernel⟩
abbrev s_need_terms : Stmt := topS 30
abbrev nm_need_terms : List Str := ["prime", "terms"]
theorem sc_need_terms : FnScope nm_need_terms ["prime", "terms"] (defScope s_need_terms) := ⟨rfl, rfl, rfl, by decide +kernel, rfl, by decide +kernel, by decide +kernel⟩
abbrev s_need_count : Stmt := topS 31
abbrev nm_need_count : List Str := ["many"]
theorem sc_need_count : FnScope nm_need_count ["many"] (defScope s_need_count) := ⟨rfl, rfl, rfl, by decide +kernel, rfl, by decide +kernel, by decide +kernel⟩
abbrev s_need_count_within : Stmt := topS 32
abbrev nm_need_count_within : List Str := ["many", "least", "most"]
theorem sc_need_count_within : FnScope nm_need_count_within ["many", "least", "most"] (defScope s_need_count_within) := ⟨rfl, rfl, rfl, by decide +kernel, rfl, by decide +kernel, by decide +kernel⟩
abbrev s_inverse : Stmt := topS 33
abbrev nm_inverse : List Str := ["prime", "rest", "told", "turn"]
theorem sc_inverse : FnScope nm_inverse ["prime", "rest"] (defScope s_inverse) := ⟨rfl, rfl, rfl, by decide +kernel, rfl, by decide +kernel, by decide +kernel⟩
abbrev s_plus : Stmt := topS 35
abbrev nm_plus : List Str := ["prime", "one", "other", "left", "right"]
theorem sc_plus : FnScope nm_plus ["prime", "one", "other"] (defScope s_plus) := ⟨rfl, rfl, rfl, by decide +kernel, rfl, by decide +kernel, by decide +kernel⟩
abbrev s_times : Stmt := topS 36
abbrev nm_times : List Str := ["prime", "one", "other"]
theorem sc_times : FnScope nm_times ["prime", "one", "other"] (defScope s_times) := ⟨rfl, rfl, rfl, by decide +kernel, rfl, by decide +kernel, by decide +kernel⟩
abbrev s_parted : Stmt := topS 37
abbrev nm_parted : List Str := ["prime", "one", "other"]
theorem sc_parted : FnScope nm_parted ["prime", "one", "other"] (defScope s_parted) := ⟨rfl, rfl, rfl, by decide +kernel, rfl, by decide +kernel, by decide +kernel⟩
abbrev s_product : Stmt := topS 38
abbrev nm_product : List Str := ["prime", "one", "other", "many", "place"]
theorem sc_product : FnScope nm_product ["prime", "one", "other"] (defScope s_product) := ⟨rfl, rfl, rfl, by decide +kernel, rfl, by decide +kernel, by decide +kernel⟩
abbrev s_product_place : Stmt := topS 39
abbrev nm_product_place : List Str := ["one", "other", "place", "first"]
theorem sc_product_place : FnScope nm_product_place ["one", "other", "place"] (defScope s_product_place) := ⟨rfl, rfl, rfl, by decide +kernel, rfl, by decide +kernel, by decide +kernel⟩
abbrev s_quotient : Stmt := topS 40
abbrev nm_quotient : List Str := ["prime", "one", "other", "turned", "part", "place", "known", "first"]
theorem sc_quotient : FnScope nm_quotient ["prime", "one", "other"] (defScope s_quotient) := ⟨rfl, rfl, rfl, by decide +kernel, rfl, by decide +kernel, by decide +kernel⟩
abbrev s_first_places : Stmt := topS 41
abbrev nm_first_places : List Str := ["row", "many"]
theorem sc_first_places : FnScope nm_first_places ["row", "many"] (defScope s_first_places) := ⟨rfl, rfl, rfl, by decide +kernel, rfl, by decide +kernel, by decide +kernel⟩
abbrev s_whole_product : Stmt := topS 42
abbrev nm_whole_product : List Str := ["prime", "one", "other", "many"]
theorem sc_whole_product : FnScope nm_whole_product ["prime", "one", "other"] (defScope s_whole_product) := ⟨rfl, rfl, rfl, by decide +kernel, rfl, by decide +kernel, by decide +kernel⟩
abbrev s_first_unlike : Stmt := topS 49
abbrev nm_first_unlike : List Str := ["prime", "one", "other", "left", "right", "many", "at", "rest", "same"]
theorem sc_first_unlike : FnScope nm_first_unlike ["prime", "one", "other"] (defScope s_first_unlike) := ⟨rfl, rfl, rfl, by decide +kernel, rfl, by decide +kernel, by decide +kernel⟩
abbrev s_tapped : Stmt := topS 51
abbrev nm_tapped : List Str := ["prime", "places", "many", "leads", "demand", "line", "column", "standing"]
theorem sc_tapped : FnScope nm_tapped ["prime", "places", "many"] (defScope s_tapped) := ⟨rfl, rfl, rfl, by decide +kernel, rfl, by decide +kernel, by decide +kernel⟩
abbrev s_demands : Stmt := topS 52
abbrev nm_demands : List Str := ["places", "many", "lines", "at", "own", "distance"]
theorem sc_demands : FnScope nm_demands ["places", "many"] (defScope s_demands) := ⟨rfl, rfl, rfl, by decide +kernel, rfl, by decide +kernel, by decide +kernel⟩
abbrev s_cleared : Stmt := topS 53
abbrev nm_cleared : List Str := ["prime", "line", "lead", "column", "share", "rest", "less"]
theorem sc_cleared : FnScope nm_cleared ["prime", "line", "lead", "column"] (defScope s_cleared) := ⟨rfl, rfl, rfl, by decide +kernel, rfl, by decide +kernel, by decide +kernel⟩
abbrev s_with_lead : Stmt := topS 54
abbrev nm_with_lead : List Str := ["prime", "leads", "line", "column", "share", "lead", "rest", "grown", "other"]
theorem sc_with_lead : FnScope nm_with_lead ["prime", "leads", "line", "column"] (defScope s_with_lead) := ⟨rfl, rfl, rfl, by decide +kernel, rfl, by decide +kernel, by decide +kernel⟩
abbrev s_put_in : Stmt := topS 56
abbrev nm_put_in : List Str := ["prime", "outer", "inner", "many", "told", "place"]
theorem sc_put_in : FnScope nm_put_in ["prime", "outer", "inner"] (defScope s_put_in) := ⟨rfl, rfl, rfl, by decide +kernel, rfl, by decide +kernel, by decide +kernel⟩
abbrev s_turned_out : Stmt := topS 57
abbrev nm_turned_out : List Str := ["prime", "row"]
theorem sc_turned_out : FnScope nm_turned_out ["prime", "row"] (defScope s_turned_out) := ⟨rfl, rfl, rfl, by decide +kernel, rfl, by decide +kernel, by decide +kernel⟩
abbrev s_solved : Stmt := topS 58
abbrev nm_solved : List Str := ["prime", "row", "missing", "power", "turned", "place", "share", "lack", "rest"]
theorem sc_solved : FnScope nm_solved ["prime", "row"] (defScope s_solved) := ⟨rfl, rfl, rfl, by decide +kernel, rfl, by decide +kernel, by decide +kernel⟩
abbrev s_grown : Stmt := topS 60
abbrev nm_grown : List Str := ["prime", "terms", "many", "powers", "place"]
theorem sc_grown : FnScope nm_grown ["prime", "terms", "many"] (defScope s_grown) := ⟨rfl, rfl, rfl, by decide +kernel, rfl, by decide +kernel, by decide +kernel⟩
abbrev s_term_sum : Stmt := topS 61
abbrev nm_term_sum : List Str := ["terms", "powers", "place", "rest", "shift", "power"]
theorem sc_term_sum : FnScope nm_term_sum ["terms", "powers", "place"] (defScope s_term_sum) := ⟨rfl, rfl, rfl, by decide +kernel, rfl, by decide +kernel, by decide +kernel⟩
abbrev s_raised : Stmt := topS 63
abbrev nm_raised : List Str := ["prime", "row", "many", "left", "told", "square"]
theorem sc_raised : FnScope nm_raised ["prime", "row", "many"] (defScope s_raised) := ⟨rfl, rfl, rfl, by decide +kernel, rfl, by decide +kernel, by decide +kernel⟩
abbrev s_lesser_count : Stmt := topS 64
abbrev nm_lesser_count : List Str := ["prime", "row", "many", "power"]
theorem sc_lesser_count : FnScope nm_lesser_count ["prime", "row", "many"] (defScope s_lesser_count) := ⟨rfl, rfl, rfl, by decide +kernel, rfl, by decide +kernel, by decide +kernel⟩
abbrev s_root : Stmt := topS 65
abbrev nm_root : List Str := ["prime", "row", "first", "half", "told", "place", "known", "at"]
theorem sc_root : FnScope nm_root ["prime", "row"] (defScope s_root) := ⟨rfl, rfl, rfl, by decide +kernel, rfl, by decide +kernel, by decide +kernel⟩
abbrev s_lesser_root : Stmt := topS 66
abbrev nm_lesser_root : List Str := ["prime", "rest", "least"]
theorem sc_lesser_root : FnScope nm_lesser_root ["prime", "rest"] (defScope s_lesser_root) := ⟨rfl, rfl, rfl, by decide +kernel, rfl, by decide +kernel, by decide +kernel⟩
abbrev s_opened : Stmt := topS 68
abbrev nm_opened : List Str := ["prime", "rule", "many", "top", "bottom"]
theorem sc_opened : FnScope nm_opened ["prime", "rule", "many"] (defScope s_opened) := ⟨rfl, rfl, rfl, by decide +kernel, rfl, by decide +kernel, by decide +kernel⟩
abbrev s_far_place : Stmt := topS 69
abbrev nm_far_place : List Str := ["prime", "rule", "at", "top", "bottom", "left", "turned", "place", "rest"]
theorem sc_far_place : FnScope nm_far_place ["prime", "rule", "at"] (defScope s_far_place) := ⟨rfl, rfl, rfl, by decide +kernel, rfl, by decide +kernel, by decide +kernel⟩
abbrev s_lesser_place : Stmt := topS 70
abbrev nm_lesser_place : List Str := ["prime", "at", "around", "power", "turn"]
theorem sc_lesser_place : FnScope nm_lesser_place ["prime", "at"] (defScope s_lesser_place) := ⟨rfl, rfl, rfl, by decide +kernel, rfl, by decide +kernel, by decide +kernel⟩
abbrev s_alike : Stmt := topS 71
abbrev nm_alike : List Str := ["prime", "one", "other", "at"]
theorem sc_alike : FnScope nm_alike ["prime", "one", "other"] (defScope s_alike) := ⟨rfl, rfl, rfl, by decide +kernel, rfl, by decide +kernel, by decide +kernel⟩
abbrev s_law_refused : Stmt := topS 73
abbrev nm_law_refused : List Str := ["_law_ask", "_law_thing", "_law_due", "error", "_law_kinds", "_law_kind"]
theorem sc_law_refused : FnScope nm_law_refused ["_law_ask", "_law_thing", "_law_due"] (defScope s_law_refused) := ⟨rfl, rfl, rfl, by decide +kernel, rfl, by decide +kernel, by decide +kernel⟩
abbrev s_law_each : Stmt := topS 74
abbrev nm_law_each : List Str := ["_law_asks", "_law_things", "_law_due", "_law_ask", "_law_thing"]
theorem sc_law_each : FnScope nm_law_each ["_law_asks", "_law_things", "_law_due"] (defScope s_law_each) := ⟨rfl, rfl, rfl, by decide +kernel, rfl, by decide +kernel, by decide +kernel⟩
abbrev s_law_no_numbers : Stmt := topS 75
abbrev nm_law_no_numbers : List Str := ["_law_more"]
theorem sc_law_no_numbers : FnScope nm_law_no_numbers ["_law_more"] (defScope s_law_no_numbers) := ⟨rfl, rfl, rfl, by decide +kernel, rfl, by decide +kernel, by decide +kernel⟩
abbrev s_law_no_lists : Stmt := topS 76
abbrev nm_law_no_lists : List Str := ["_law_more", "_law_most", "_law_found", "_law_at", "_law_bad", "_law_row"]
theorem sc_law_no_lists : FnScope nm_law_no_lists ["_law_more", "_law_most"] (defScope s_law_no_lists) := ⟨rfl, rfl, rfl, by decide +kernel, rfl, by decide +kernel, by decide +kernel⟩
abbrev s_law_primes_right : Stmt := topS 77
abbrev nm_law_primes_right : List Str := ["_law_more", "_law_bad", "_law_asks"]
theorem sc_law_primes_right : FnScope nm_law_primes_right ["_law_more"] (defScope s_law_primes_right) := ⟨rfl, rfl, rfl, by decide +kernel, rfl, by decide +kernel, by decide +kernel⟩
abbrev s_law_rows_right : Stmt := topS 78
abbrev nm_law_rows_right : List Str := ["_law_more", "_law_bad", "_law_asks"]
theorem sc_law_rows_right : FnScope nm_law_rows_right ["_law_more"] (defScope s_law_rows_right) := ⟨rfl, rfl, rfl, by decide +kernel, rfl, by decide +kernel, by decide +kernel⟩
abbrev s_law_rules_right : Stmt := topS 79
abbrev nm_law_rules_right : List Str := ["_law_more", "_law_bad", "_law_some", "_law_asks", "_law_numbers"]
theorem sc_law_rules_right : FnScope nm_law_rules_right ["_law_more"] (defScope s_law_rules_right) := ⟨rfl, rfl, rfl, by decide +kernel, rfl, by decide +kernel, by decide +kernel⟩
abbrev s_law_terms_right : Stmt := topS 80
abbrev nm_law_terms_right : List Str := ["_law_more", "_law_bad", "_law_one"]
theorem sc_law_terms_right : FnScope nm_law_terms_right ["_law_more"] (defScope s_law_terms_right) := ⟨rfl, rfl, rfl, by decide +kernel, rfl, by decide +kernel, by decide +kernel⟩
abbrev s_law : Stmt := topS 81
abbrev nm_law : List Str := ["_law_script", "_law_cell", "_law_more"]
theorem sc_law : FnScope nm_law ["_law_script"] (defScope s_law) := ⟨rfl, rfl, rfl, by decide +kernel, rfl, by decide +kernel, by decide +kernel⟩
abbrev s_Alike_shows : Stmt := inClass (topS 45) 0
abbrev nm_Alike_shows : List Str := ["self", "prime", "one", "other"]
theorem sc_Alike_shows : FnScope nm_Alike_shows ["self", "prime", "one", "other"] (defScope s_Alike_shows) := ⟨rfl, rfl, rfl, by decide +kernel, rfl, by decide +kernel, by decide +kernel⟩
abbrev s_Unlike_init : Stmt := inClass (topS 46) 0
abbrev nm_Unlike_init : List Str := ["self", "at"]
theorem sc_Unlike_init : FnScope nm_Unlike_init ["self", "at"] (defScope s_Unlike_init) := ⟨rfl, rfl, rfl, by decide +kernel, rfl, by decide +kernel, by decide +kernel⟩
abbrev s_Unlike_shows : Stmt := inClass (topS 46) 1
abbrev nm_Unlike_shows : List Str := ["self", "prime", "one", "other"]
theorem sc_Unlike_shows : FnScope nm_Unlike_shows ["self", "prime", "one", "other"] (defScope s_Unlike_shows) := ⟨rfl, rfl, rfl, by decide +kernel, rfl, by decide +kernel, by decide +kernel⟩
abbrev s_Ruled_init : Stmt := inClass (topS 47) 0
abbrev nm_Ruled_init : List Str := ["self", "taps"]
theorem sc_Ruled_init : FnScope nm_Ruled_init ["self", "taps"] (defScope s_Ruled_init) := ⟨rfl, rfl, rfl, by decide +kernel, rfl, by decide +kernel, by decide +kernel⟩
abbrev s_Ruled_shows : Stmt := inClass (topS 47) 1
abbrev nm_Ruled_shows : List Str := ["self", "prime", "places", "many"]
theorem sc_Ruled_shows : FnScope nm_Ruled_shows ["self", "prime", "places", "many"] (defScope s_Ruled_shows) := ⟨rfl, rfl, rfl, by decide +kernel, rfl, by decide +kernel, by decide +kernel⟩
abbrev s_Ruled_goes_on : Stmt := inClass (topS 47) 2
abbrev nm_Ruled_goes_on : List Str := ["self", "prime", "places", "at"]
theorem sc_Ruled_goes_on : FnScope nm_Ruled_goes_on ["self", "prime", "places", "at"] (defScope s_Ruled_goes_on) := ⟨rfl, rfl, rfl, by decide +kernel, rfl, by decide +kernel, by decide +kernel⟩
abbrev s_Barred_init : Stmt := inClass (topS 48) 0
abbrev nm_Barred_init : List Str := ["self", "weights"]
theorem sc_Barred_init : FnScope nm_Barred_init ["self", "weights"] (defScope s_Barred_init) := ⟨rfl, rfl, rfl, by decide +kernel, rfl, by decide +kernel, by decide +kernel⟩
abbrev s_Barred_shows : Stmt := inClass (topS 48) 1
abbrev nm_Barred_shows : List Str := ["self", "prime", "places", "many"]
theorem sc_Barred_shows : FnScope nm_Barred_shows ["self", "prime", "places", "many"] (defScope s_Barred_shows) := ⟨rfl, rfl, rfl, by decide +kernel, rfl, by decide +kernel, by decide +kernel⟩
structure Blt (K : PySem.W.Frag) (mg : Str → Option Value) (a_PRIMES : Addr) (t_MOST_CUT : Tok) (t_MOST_RULED : Tok) (t_MOST_PLACES : Tok) (t_MOST_TERMS : Tok) (a_PowerError : Addr) (a_BadPrime : Addr) (a_BadRow : Addr) (a_BadCount : Addr) (a_BadRule : Addr) (a_BadPlaces : Addr) (a_BadTerms : Addr) (a_NoPart : Addr) (a_NoInside : Addr) (a_NoRoot : Addr) (a_Answer : Addr) (a_Alike : Addr) (a_Unlike : Addr) (a_Ruled : Addr) (a_Barred : Addr) : Prop where
  ValueError : mg "ValueError" = none
  abs : mg "abs" = none
  all : mg "all" = none
  bool : mg "bool" = none
  enumerate : mg "enumerate" = none
  int : mg "int" = none
  isinstance : mg "isinstance" = none
  len : mg "len" = none
  list : mg "list" = none
  max : mg "max" = none
  min : mg "min" = none
  range : mg "range" = none
  reversed : mg "reversed" = none
  sum : mg "sum" = none
  tuple : mg "tuple" = none
  zip : mg "zip" = none
  PRIMES : mg "PRIMES" = some (.ref a_PRIMES)
  PRIMES_T : ∀ H : Hp, SqT K H a_PRIMES [V.int 2, V.int 3, V.int 5, V.int 7, V.int 11, V.int 13, V.int 17, V.int 19, V.int 23, V.int 29, V.int 31, V.int 37, V.int 41, V.int 43, V.int 47, V.int 53, V.int 59, V.int 61, V.int 67, V.int 71, V.int 73, V.int 79, V.int 83, V.int 89, V.int 97]
  MOST_CUT : mg "MOST_CUT" = some (.int 20 t_MOST_CUT)
  MOST_RULED : mg "MOST_RULED" = some (.int 8 t_MOST_RULED)
  MOST_PLACES : mg "MOST_PLACES" = some (.int 24 t_MOST_PLACES)
  MOST_TERMS : mg "MOST_TERMS" = some (.int 6 t_MOST_TERMS)
  PowerError : mg "PowerError" = some (.ref a_PowerError)
  PowerError_k : PySem.W.keepIn K (.ref a_PowerError) = true
  BadPrime : mg "BadPrime" = some (.ref a_BadPrime)
  BadPrime_k : PySem.W.keepIn K (.ref a_BadPrime) = true
  BadRow : mg "BadRow" = some (.ref a_BadRow)
  BadRow_k : PySem.W.keepIn K (.ref a_BadRow) = true
  BadCount : mg "BadCount" = some (.ref a_BadCount)
  BadCount_k : PySem.W.keepIn K (.ref a_BadCount) = true
  BadRule : mg "BadRule" = some (.ref a_BadRule)
  BadRule_k : PySem.W.keepIn K (.ref a_BadRule) = true
  BadPlaces : mg "BadPlaces" = some (.ref a_BadPlaces)
  BadPlaces_k : PySem.W.keepIn K (.ref a_BadPlaces) = true
  BadTerms : mg "BadTerms" = some (.ref a_BadTerms)
  BadTerms_k : PySem.W.keepIn K (.ref a_BadTerms) = true
  NoPart : mg "NoPart" = some (.ref a_NoPart)
  NoPart_k : PySem.W.keepIn K (.ref a_NoPart) = true
  NoInside : mg "NoInside" = some (.ref a_NoInside)
  NoInside_k : PySem.W.keepIn K (.ref a_NoInside) = true
  NoRoot : mg "NoRoot" = some (.ref a_NoRoot)
  NoRoot_k : PySem.W.keepIn K (.ref a_NoRoot) = true
  Answer : mg "Answer" = some (.ref a_Answer)
  Answer_k : PySem.W.keepIn K (.ref a_Answer) = true
  Answer_c : Cls K a_Answer
  Alike : mg "Alike" = some (.ref a_Alike)
  Alike_k : PySem.W.keepIn K (.ref a_Alike) = true
  Alike_c : Cls K a_Alike
  Alike_o : MkO K a_Alike
  Unlike : mg "Unlike" = some (.ref a_Unlike)
  Unlike_k : PySem.W.keepIn K (.ref a_Unlike) = true
  Unlike_c : Cls K a_Unlike
  Unlike_n_at : NoAttr K a_Unlike "at"
  Ruled : mg "Ruled" = some (.ref a_Ruled)
  Ruled_k : PySem.W.keepIn K (.ref a_Ruled) = true
  Ruled_c : Cls K a_Ruled
  Ruled_n_taps : NoAttr K a_Ruled "taps"
  Barred : mg "Barred" = some (.ref a_Barred)
  Barred_k : PySem.W.keepIn K (.ref a_Barred) = true
  Barred_c : Cls K a_Barred
  Barred_n_weights : NoAttr K a_Barred "weights"
section
variable {P : Program} {w : World} {K : PySem.W.Frag} {mg : Str → Option Value} {base : Heap}
/-! ### is_number -/
def spIsNumber : Sp := fun vs H Q _ => ∃ i : Int, vs = [.int i] ∧ RetV (.bl true) H Q
theorem ok_is_number {f : Addr} {fd : FuncData} (D : Dat K mg "is_number" s_is_number ["thing"] f fd) {a_PRIMES : Addr} {t_MOST_CUT : Tok} {t_MOST_RULED : Tok} {t_MOST_PLACES : Tok} {t_MOST_TERMS : Tok} {a_PowerError : Addr} {a_BadPrime : Addr} {a_BadRow : Addr} {a_BadCount : Addr} {a_BadRule : Addr} {a_BadPlaces : Addr} {a_BadTerms : Addr} {a_NoPart : Addr} {a_NoInside : Addr} {a_NoRoot : Addr} {a_Answer : Addr} {a_Alike : Addr} {a_Unlike : Addr} {a_Ruled : Addr} {a_Barred : Addr} (B : Blt K mg a_PRIMES t_MOST_CUT t_MOST_RULED t_MOST_PLACES t_MOST_TERMS a_PowerError a_BadPrime a_BadRow a_BadCount a_BadRule a_BadPlaces a_BadTerms a_NoPart a_NoInside a_NoRoot a_Answer a_Alike a_Unlike a_Ruled a_Barred) : Cal P w K mg base CX0 "is_number" 1 ["thing"] spIsNumber := by
  refine D.cal (D.F.ok sc_is_number (fun vs H Q E h => ?_) (fun cdv A outer s H vs Q E hr h => ?_))
  · obtain ⟨i, rfl, _⟩ := h
    rfl
  · obtain ⟨i, rfl, q⟩ := h
    refine ⟨_, (pss_one (ps_ret (pe_and (pe_callB (r := rIsi K) call_isi (by rfl) B.isinstance (by decide +kernel) (pa_cons (pv 0) (pa_cons (pe_bltn (v := .ty "int") (by rfl) B.int (by decide +kernel) rfl) pa_nil))) (pe_one (pe_not (pe_callB (r := rIsi K) call_isi (by rfl) B.isinstance (by decide +kernel) (pa_cons (pv 0) (pa_cons (pe_bltn (v := .ty "bool") (by rfl) B.bool (by decide +kernel) rfl) pa_nil)))))))), ?_⟩
    exact s_ret (ev_andV (a := true) (b := true) (ev_cb (ea_cons (ev_var rfl) (ea_cons ev_c ea_nil)) (rc_isi_int (by decide +kernel))) fun _ => ev_notV (a := false) (ev_cb (ea_cons (ev_var rfl) (ea_cons ev_c ea_nil)) (rc_isi_int (by decide +kernel)))) fun H1 e => q H1 e

/-! ### is_within -/
def spIsWithin : Sp := fun vs H Q _ => ∃ i lo hi : Int, vs = [.int i, .int lo, .int hi] ∧ RetV (.bl (decide (lo ≤ i) && decide (i ≤ hi))) H Q
theorem spv_is_number {H : Hp} {i : Int} : SpV spIsNumber [.int i] H (.bl true) := fun H1 e Q q E => ⟨i, rfl, q⟩
theorem ok_is_within {f : Addr} {fd : FuncData} (D : Dat K mg "is_within" s_is_within ["thing", "least", "most"] f fd) {a_PRIMES : Addr} {t_MOST_CUT : Tok} {t_MOST_RULED : Tok} {t_MOST_PLACES : Tok} {t_MOST_TERMS : Tok} {a_PowerError : Addr} {a_BadPrime : Addr} {a_BadRow : Addr} {a_BadCount : Addr} {a_BadRule : Addr} {a_BadPlaces : Addr} {a_BadTerms : Addr} {a_NoPart : Addr} {a_NoInside : Addr} {a_NoRoot : Addr} {a_Answer : Addr} {a_Alike : Addr} {a_Unlike : Addr} {a_Ruled : Addr} {a_Barred : Addr} (B : Blt K mg a_PRIMES t_MOST_CUT t_MOST_RULED t_MOST_PLACES t_MOST_TERMS a_PowerError a_BadPrime a_BadRow a_BadCount a_BadRule a_BadPlaces a_BadTerms a_NoPart a_NoInside a_NoRoot a_Answer a_Alike a_Unlike a_Ruled a_Barred) (C_is_number : Cal P w K mg base CX0 "is_number" 1 ["thing"] spIsNumber) : Cal P w K mg base CX0 "is_within" 2 ["thing", "least", "most"] spIsWithin := by
  refine D.cal (D.F.ok sc_is_within (fun vs H Q E h => ?_) (fun cdv A outer s H vs Q E hr h => ?_))
  · obtain ⟨p, i, j, rfl, _⟩ := h
    rfl
  · obtain ⟨i, lo, hi, rfl, q⟩ := h
    refine ⟨_, (pss_one (ps_ret (pe_and (pe_c0 C_is_number (hr.mono (by decide)) (pa_cons (pv 0) pa_nil)) (pe_one (pe_chain op_le op_le (pv 1) (pv 0) (pv 2)))))), ?_⟩
    exact s_ret (ev_andV (a := true) (ev_call (ea_cons (ev_var rfl) ea_nil) spv_is_number) fun _ => ev_chain (ev_var rfl) (ev_var rfl) rv_I0 (fun _ => ev_var rfl) (fun _ => rv_I0)) fun H1 e => q H1 e
theorem spv_is_within {H : Hp} {i lo hi : Int} : SpV spIsWithin [.int i, .int lo, .int hi] H (.bl (decide (lo ≤ i) && decide (i ≤ hi))) := fun H1 e Q q E => ⟨i, lo, hi, rfl, q⟩

/-! ### is_rest -/
def spIsRest : Sp := fun vs H Q _ => ∃ p i : Int, vs = [.int p, .int i] ∧ RetV (.bl (decide (0 ≤ i) && decide (i < p))) H Q
theorem ok_is_rest {f : Addr} {fd : FuncData} (D : Dat K mg "is_rest" s_is_rest ["prime", "thing"] f fd) {a_PRIMES : Addr} {t_MOST_CUT : Tok} {t_MOST_RULED : Tok} {t_MOST_PLACES : Tok} {t_MOST_TERMS : Tok} {a_PowerError : Addr} {a_BadPrime : Addr} {a_BadRow : Addr} {a_BadCount : Addr} {a_BadRule : Addr} {a_BadPlaces : Addr} {a_BadTerms : Addr} {a_NoPart : Addr} {a_NoInside : Addr} {a_NoRoot : Addr} {a_Answer : Addr} {a_Alike : Addr} {a_Unlike : Addr} {a_Ruled : Addr} {a_Barred : Addr} (B : Blt K mg a_PRIMES t_MOST_CUT t_MOST_RULED t_MOST_PLACES t_MOST_TERMS a_PowerError a_BadPrime a_BadRow a_BadCount a_BadRule a_BadPlaces a_BadTerms a_NoPart a_NoInside a_NoRoot a_Answer a_Alike a_Unlike a_Ruled a_Barred) (C_is_within : Cal P w K mg base CX0 "is_within" 2 ["thing", "least", "most"] spIsWithin) : Cal P w K mg base CX0 "is_rest" 3 ["prime", "thing"] spIsRest := by
  refine D.cal (D.F.ok sc_is_rest (fun vs H Q E h => ?_) (fun cdv A outer s H vs Q E hr h => ?_))
  · obtain ⟨p, i, rfl, _⟩ := h
    rfl
  · obtain ⟨p, i, rfl, q⟩ := h
    refine ⟨_, (pss_one (ps_ret (pe_c0 C_is_within (hr.mono (by decide)) (pa_cons (pv 1) (pa_cons pe_int (pa_cons (pe_op op_sub (pv 0) pe_int) pa_nil)))))), ?_⟩
    refine s_ret (ev_is (ev_call (ea_cons (ev_var rfl) (ea_cons ev_c (ea_cons (ev_op (ev_var rfl) ev_c rv_I0) ea_nil))) spv_is_within) ?_) fun H1 e => q H1 e
    rw [show decide (i ≤ p - 1) = decide (i < p) from decide_eq_decide.mpr (by omega)]
theorem spv_is_rest {H : Hp} {p i : Int} : SpV spIsRest [.int p, .int i] H (.bl (decide (0 ≤ i) && decide (i < p))) := fun H1 e Q q E => ⟨p, i, rfl, q⟩

/-! ### are_rests, of rests -/
def spAreRestsOk : Sp := fun vs H Q _ => ∃ (p lo hi : Int) (a : Addr) (xs : List Int), vs = [.int p, .ref a, .int lo, .int hi] ∧ H a = some (.lst (xs.map V.int)) ∧ (lo ≤ xs.length ∧ (xs.length : Int) ≤ hi ∧ hi ≤ 1000) ∧ (∀ x ∈ xs, 0 ≤ x ∧ x < p) ∧ RetV (.bl true) H Q
theorem ok_are_rests {f : Addr} {fd : FuncData} (D : Dat K mg "are_rests" s_are_rests ["prime", "thing", "least", "most"] f fd) {a_PRIMES : Addr} {t_MOST_CUT : Tok} {t_MOST_RULED : Tok} {t_MOST_PLACES : Tok} {t_MOST_TERMS : Tok} {a_PowerError : Addr} {a_BadPrime : Addr} {a_BadRow : Addr} {a_BadCount : Addr} {a_BadRule : Addr} {a_BadPlaces : Addr} {a_BadTerms : Addr} {a_NoPart : Addr} {a_NoInside : Addr} {a_NoRoot : Addr} {a_Answer : Addr} {a_Alike : Addr} {a_Unlike : Addr} {a_Ruled : Addr} {a_Barred : Addr} (B : Blt K mg a_PRIMES t_MOST_CUT t_MOST_RULED t_MOST_PLACES t_MOST_TERMS a_PowerError a_BadPrime a_BadRow a_BadCount a_BadRule a_BadPlaces a_BadTerms a_NoPart a_NoInside a_NoRoot a_Answer a_Alike a_Unlike a_Ruled a_Barred) (C_is_rest : Cal P w K mg base CX0 "is_rest" 3 ["prime", "thing"] spIsRest) : Cal P w K mg base CX0 "are_rests" 4 ["prime", "thing", "least", "most"] spAreRestsOk := by
  refine D.cal (D.F.ok sc_are_rests (fun vs H Q E h => ?_) (fun cdv A outer s H vs Q E hr h => ?_))
  · obtain ⟨p, lo, hi, a, xs, rfl, _⟩ := h
    rfl
  · obtain ⟨p, lo, hi, a, xs, rfl, ha, hl, hx, q⟩ := h
    refine ⟨_, (pss_cons (ps_if (PW.pt (pw_or (pt_not (pt_val (pe_callB (r := rIsi K) call_isi (by rfl) B.isinstance (by decide +kernel) (pa_cons (pv 1) (pa_cons (pe_bltn (v := .ty "list") (by rfl) B.list (by decide +kernel) rfl) pa_nil))))) (pw_or1 (pt_not (pt_chain op_le op_le (pv 2) (pe_callB (r := rLenS K) call_len_seq (by rfl) B.len PySem.boot_len (pa_cons (pv 1) pa_nil)) (pv 3)))))) (pss_one (ps_ret pe_bl)) pss_nil)
    (pss_one (ps_ret (pe_callB (r := rAll K) (cr_all rfl) (by rfl) B.all (by decide +kernel) (pa_cons (pe_lc (own := [("rest", 4)]) (g := gName 4) (tt := tYes) (by rfl) sc_are_rests.nd (pi_list (pv 1)) (blkOk_by (N := nm_are_rests) (sc := defScope s_are_rests) (by decide +kernel)) (fun _ _ _ _ _ => pg_name (i := 4) sc_are_rests.nd rfl (Or.inl rfl)) (fun _ _ _ _ _ => pts_nil) (fun _ _ _ _ _ => (pe_c0 C_is_rest (hr.mono (by decide)) (pa_cons (pv 0) (pa_cons (pv 4) pa_nil))))) pa_nil))))), ?_⟩
    refine q_when (b := false) (et_or (a := false) (b := false) (et_not (a := true) (et_B (ev_cb (by walk_at "ev") (rc_isi_lst ha (by decide +kernel))))) fun _ => et_not (a := true) (et_test (ev_is (ev_chain (ev_var rfl) (ev_cb (by walk_at "ev") (rc_len (sq_of ha))) rv_I0 (fun _ => ev_var rfl) (fun _ => rv_I0)) ?_))) (fun z => Bool.noConfusion z) fun _ H1 e1 => ?_
    · rw [List.length_map, decide_eq_true (by omega), decide_eq_true (by omega)]
      rfl
    · refine s_ret (ev_cbL (el_mapL (ns := xs) (fun _ => V.bl true) (ev_var rfl) (sq_of (e1 a _ ha)) (by omega) (fun _ => rfl) fun i H2 e2 hi => ?_) fun p2 H2 h2 e2 => ?_) fun H3 e3 => q H3 (e1.trans e3)
      · have r := hx _ (sq_mem hi)
        refine ev_is (ev_call (by walk_at "ev") spv_is_rest) ?_
        rw [decide_eq_true r.1, decide_eq_true r.2]
        rfl
      · rw [map_map_bl (f := fun _ => true)] at h2
        have g := rc_all (K := K) (sq_of h2)
        rw [all_true] at g
        exact g
theorem spv_are_rests_ok {H : Hp} {p lo hi : Int} {a : Addr} {xs : List Int} (ha : H a = some (.lst (xs.map V.int))) (hl : lo ≤ xs.length ∧ (xs.length : Int) ≤ hi ∧ hi ≤ 1000) (hx : ∀ x ∈ xs, 0 ≤ x ∧ x < p) : SpV spAreRestsOk [.int p, .ref a, .int lo, .int hi] H (.bl true) := fun H1 e Q q E => ⟨p, lo, hi, a, xs, rfl, e a _ ha, hl, hx, q⟩

/-! ### need_prime, of a prime -/
def spNeedPrime : Sp := fun vs H Q _ => ∃ p : Int, vs = [.int p] ∧ Prm p ∧ RetV .non H Q
theorem prm_in {p : Int} (h : Prm p) : inV (.int p) (primes.map V.int) = true := by
  unfold inV
  rw [List.any_eq_true]
  refine ⟨.int p, List.mem_map.mpr ⟨p, h, rfl⟩, ?_⟩
  show (p == p) = true
  exact beq_self_eq_true p
theorem ok_need_prime {f : Addr} {fd : FuncData} (D : Dat K mg "need_prime" s_need_prime ["prime"] f fd) {a_PRIMES : Addr} {t_MOST_CUT : Tok} {t_MOST_RULED : Tok} {t_MOST_PLACES : Tok} {t_MOST_TERMS : Tok} {a_PowerError : Addr} {a_BadPrime : Addr} {a_BadRow : Addr} {a_BadCount : Addr} {a_BadRule : Addr} {a_BadPlaces : Addr} {a_BadTerms : Addr} {a_NoPart : Addr} {a_NoInside : Addr} {a_NoRoot : Addr} {a_Answer : Addr} {a_Alike : Addr} {a_Unlike : Addr} {a_Ruled : Addr} {a_Barred : Addr} (B : Blt K mg a_PRIMES t_MOST_CUT t_MOST_RULED t_MOST_PLACES t_MOST_TERMS a_PowerError a_BadPrime a_BadRow a_BadCount a_BadRule a_BadPlaces a_BadTerms a_NoPart a_NoInside a_NoRoot a_Answer a_Alike a_Unlike a_Ruled a_Barred) (C_is_number : Cal P w K mg base CX0 "is_number" 1 ["thing"] spIsNumber) : Cal P w K mg base CX0 "need_prime" 2 ["prime"] spNeedPrime := by
  refine D.cal (D.F.ok sc_need_prime (fun vs H Q E h => ?_) (fun cdv A outer s H vs Q E hr h => ?_))
  · obtain ⟨p, rfl, _⟩ := h
    rfl
  · obtain ⟨p, rfl, hp, q⟩ := h
    refine ⟨_, (pss_one (ps_if (PW.pt (pw_or (pt_not (pt_val (pe_c0 C_is_number (hr.mono (by decide)) (pa_cons (pv 0) pa_nil)))) (pw_or1 (pt_cmpR (r := rIn K true) op_notIn_seq (pv 0) (pe_glob (v := .ref a_PRIMES) rfl B.PRIMES rfl) rfl)))) (pss_one ps_never) pss_nil)), ?_⟩
    refine s_when (b := false) (et_or (a := false) (b := false) (et_not (a := true) (et_B (ev_call (by walk_at "ev") spv_is_number))) fun _ => et_test (ev_is (ev_op (ev_var rfl) ev_c (rv_niT (B.PRIMES_T H) rfl rfl)) ?_)) (fun z => Bool.noConfusion z) fun _ H1 e1 => q H1 e1
    show V.bl (!inV (.int p) (primes.map V.int)) = V.bl false
    rw [prm_in hp]
    rfl
theorem spv_need_prime {H : Hp} {p : Int} (hp : Prm p) : SpV spNeedPrime [.int p] H .non := fun H1 e Q q E => ⟨p, rfl, hp, q⟩

/-! ### need_row, of a row; need_prime_and_rows -/
def spNeedRow : Sp := fun vs H Q _ => ∃ (p : Int) (a : Addr) (xs : List Int), vs = [.int p, .ref a] ∧ H a = some (.lst (xs.map V.int)) ∧ Rowp p xs ∧ RetV .non H Q
theorem ok_need_row {f : Addr} {fd : FuncData} (D : Dat K mg "need_row" s_need_row ["prime", "row"] f fd) {a_PRIMES : Addr} {t_MOST_CUT : Tok} {t_MOST_RULED : Tok} {t_MOST_PLACES : Tok} {t_MOST_TERMS : Tok} {a_PowerError : Addr} {a_BadPrime : Addr} {a_BadRow : Addr} {a_BadCount : Addr} {a_BadRule : Addr} {a_BadPlaces : Addr} {a_BadTerms : Addr} {a_NoPart : Addr} {a_NoInside : Addr} {a_NoRoot : Addr} {a_Answer : Addr} {a_Alike : Addr} {a_Unlike : Addr} {a_Ruled : Addr} {a_Barred : Addr} (B : Blt K mg a_PRIMES t_MOST_CUT t_MOST_RULED t_MOST_PLACES t_MOST_TERMS a_PowerError a_BadPrime a_BadRow a_BadCount a_BadRule a_BadPlaces a_BadTerms a_NoPart a_NoInside a_NoRoot a_Answer a_Alike a_Unlike a_Ruled a_Barred) (C_are_rests : Cal P w K mg base CX0 "are_rests" 4 ["prime", "thing", "least", "most"] spAreRestsOk) : Cal P w K mg base CX0 "need_row" 5 ["prime", "row"] spNeedRow := by
  refine D.cal (D.F.ok sc_need_row (fun vs H Q E h => ?_) (fun cdv A outer s H vs Q E hr h => ?_))
  · obtain ⟨p, a, xs, rfl, _⟩ := h
    rfl
  · obtain ⟨p, a, xs, rfl, ha, R, q⟩ := h
    have l1 := R.lo
    have l2 := R.hi
    refine ⟨_, (pss_one (ps_if (pt_not (pt_val (pe_c0 C_are_rests (hr.mono (by decide)) (pa_cons (pv 0) (pa_cons (pv 1) (pa_cons pe_int (pa_cons (pe_glob (v := .int 20) rfl B.MOST_CUT ⟨_, rfl⟩) pa_nil))))))) (pss_one ps_never) pss_nil)), ?_⟩
    exact s_when (b := false) (et_not (a := true) (et_B (ev_call (by walk_at "ev") (spv_are_rests_ok (lo := 1) (hi := 20) ha (by omega) R.rest)))) (fun z => Bool.noConfusion z) fun _ H1 e1 => q H1 e1
theorem spv_need_row {H : Hp} {p : Int} {a : Addr} {xs : List Int} (ha : H a = some (.lst (xs.map V.int))) (R : Rowp p xs) : SpV spNeedRow [.int p, .ref a] H .non := fun H1 e Q q E => ⟨p, a, xs, rfl, e a _ ha, R, q⟩

/-! ### need_prime_and_rows -/
def spNeedBoth : Sp := fun vs H Q _ => ∃ (p : Int) (a b : Addr) (xs ys : List Int), vs = [.int p, .ref a, .ref b] ∧ Prm p ∧ H a = some (.lst (xs.map V.int)) ∧ H b = some (.lst (ys.map V.int)) ∧ Rowp p xs ∧ Rowp p ys ∧ RetV .non H Q
theorem ok_need_prime_and_rows {f : Addr} {fd : FuncData} (D : Dat K mg "need_prime_and_rows" s_need_prime_and_rows ["prime", "one", "other"] f fd) {a_PRIMES : Addr} {t_MOST_CUT : Tok} {t_MOST_RULED : Tok} {t_MOST_PLACES : Tok} {t_MOST_TERMS : Tok} {a_PowerError : Addr} {a_BadPrime : Addr} {a_BadRow : Addr} {a_BadCount : Addr} {a_BadRule : Addr} {a_BadPlaces : Addr} {a_BadTerms : Addr} {a_NoPart : Addr} {a_NoInside : Addr} {a_NoRoot : Addr} {a_Answer : Addr} {a_Alike : Addr} {a_Unlike : Addr} {a_Ruled : Addr} {a_Barred : Addr} (B : Blt K mg a_PRIMES t_MOST_CUT t_MOST_RULED t_MOST_PLACES t_MOST_TERMS a_PowerError a_BadPrime a_BadRow a_BadCount a_BadRule a_BadPlaces a_BadTerms a_NoPart a_NoInside a_NoRoot a_Answer a_Alike a_Unlike a_Ruled a_Barred) (C_need_prime : Cal P w K mg base CX0 "need_prime" 2 ["prime"] spNeedPrime) (C_need_row : Cal P w K mg base CX0 "need_row" 5 ["prime", "row"] spNeedRow) : Cal P w K mg base CX0 "need_prime_and_rows" 6 ["prime", "one", "other"] spNeedBoth := by
  refine D.cal (D.F.ok sc_need_prime_and_rows (fun vs H Q E h => ?_) (fun cdv A outer s H vs Q E hr h => ?_))
  · obtain ⟨p, a, b, xs, ys, rfl, _⟩ := h
    rfl
  · obtain ⟨p, a, b, xs, ys, rfl, hp, ha, hb, R1, R2, q⟩ := h
    refine ⟨_, (pss_cons (ps_expr (pe_c0 C_need_prime (hr.mono (by decide)) (pa_cons (pv 0) pa_nil)))
    (pss_cons (ps_expr (pe_c0 C_need_row (hr.mono (by decide)) (pa_cons (pv 0) (pa_cons (pv 1) pa_nil))))
    (pss_one (ps_expr (pe_c0 C_need_row (hr.mono (by decide)) (pa_cons (pv 0) (pa_cons (pv 2) pa_nil))))))), ?_⟩
    exact q_drop (ev_call (by walk_at "ev") (spv_need_prime hp)) fun H1 e1 => q_drop (ev_call (by walk_at "ev") (spv_need_row (e1 a _ ha) R1)) fun H2 e2 => s_drop (ev_call (by walk_at "ev") (spv_need_row ((e1.trans e2) b _ hb) R2)) fun H3 e3 => q H3 ((e1.trans e2).trans e3)
theorem spv_need_both {H : Hp} {p : Int} {a b : Addr} {xs ys : List Int} (hp : Prm p) (ha : H a = some (.lst (xs.map V.int))) (hb : H b = some (.lst (ys.map V.int))) (R1 : Rowp p xs) (R2 : Rowp p ys) : SpV spNeedBoth [.int p, .ref a, .ref b] H .non := fun H1 e Q q E => ⟨p, a, b, xs, ys, rfl, hp, e a _ ha, e b _ hb, R1, R2, q⟩

/-! ### where a rule stands -/
/-- a rule at r: its top at a, its bottom at b -/
structure RuleAt (H : Hp) (r a b : Addr) (xs ys : List Int) : Prop where
  r : H r = some (.tup [.ref a, .ref b])
  a : H a = some (.lst (xs.map V.int))
  b : H b = some (.lst (ys.map V.int))
theorem RuleAt.ex {H H' : Hp} {r a b : Addr} {xs ys : List Int} (e : Ex H H') (h : RuleAt H r a b xs ys) : RuleAt H' r a b xs ys := ⟨e _ _ h.r, e _ _ h.a, e _ _ h.b⟩

/-! ### is_rule, need_rule, of a rule -/
def spIsRule : Sp := fun vs H Q _ => ∃ (p : Int) (r a b : Addr) (xs ys : List Int), vs = [.int p, .ref r] ∧ RuleAt H r a b xs ys ∧ RuleOk p xs ys ∧ RetV (.bl true) H Q
theorem ok_is_rule {f : Addr} {fd : FuncData} (D : Dat K mg "is_rule" s_is_rule ["prime", "thing"] f fd) {a_PRIMES : Addr} {t_MOST_CUT : Tok} {t_MOST_RULED : Tok} {t_MOST_PLACES : Tok} {t_MOST_TERMS : Tok} {a_PowerError : Addr} {a_BadPrime : Addr} {a_BadRow : Addr} {a_BadCount : Addr} {a_BadRule : Addr} {a_BadPlaces : Addr} {a_BadTerms : Addr} {a_NoPart : Addr} {a_NoInside : Addr} {a_NoRoot : Addr} {a_Answer : Addr} {a_Alike : Addr} {a_Unlike : Addr} {a_Ruled : Addr} {a_Barred : Addr} (B : Blt K mg a_PRIMES t_MOST_CUT t_MOST_RULED t_MOST_PLACES t_MOST_TERMS a_PowerError a_BadPrime a_BadRow a_BadCount a_BadRule a_BadPlaces a_BadTerms a_NoPart a_NoInside a_NoRoot a_Answer a_Alike a_Unlike a_Ruled a_Barred) (C_are_rests : Cal P w K mg base CX0 "are_rests" 4 ["prime", "thing", "least", "most"] spAreRestsOk) : Cal P w K mg base CX0 "is_rule" 5 ["prime", "thing"] spIsRule := by
  refine D.cal (D.F.ok sc_is_rule (fun vs H Q E h => ?_) (fun cdv A outer s H vs Q E hr h => ?_))
  · obtain ⟨p, r, a, b, xs, ys, rfl, _⟩ := h
    rfl
  · obtain ⟨p, r, a, b, xs, ys, rfl, R, O, q⟩ := h
    have t8 := O.t8
    have b1 := O.b1
    have b8 := O.b8
    refine ⟨_, (pss_cons (ps_if (PW.pt (pw_or (pt_not (pt_val (pe_callB (r := rIsi K) call_isi (by rfl) B.isinstance (by decide +kernel) (pa_cons (pv 1) (pa_cons (pe_bltn (v := .ty "tuple") (by rfl) B.tuple (by decide +kernel) rfl) pa_nil))))) (pw_or1 (pt_cmpR op_ne (pe_callB (r := rLenS K) call_len_seq (by rfl) B.len PySem.boot_len (pa_cons (pv 1) pa_nil)) pe_int (nomark _))))) (pss_one (ps_ret pe_bl)) pss_nil)
    (pss_cons (ps_asg (pv 1) (pg_tup rfl (pgs_cons (pg_name (i := 2) sc_is_rule.nd rfl (Or.inl rfl)) (pgs_cons (pg_name (i := 3) sc_is_rule.nd rfl (Or.inl rfl)) pgs_nil))))
    (pss_cons (ps_if (PW.pt (pw_or (pt_not (pt_val (pe_c0 C_are_rests (hr.mono (by decide)) (pa_cons (pv 0) (pa_cons (pv 2) (pa_cons pe_int (pa_cons (pe_glob (v := .int 8) rfl B.MOST_RULED ⟨_, rfl⟩) pa_nil))))))) (pw_or1 (pt_not (pt_val (pe_c0 C_are_rests (hr.mono (by decide)) (pa_cons (pv 0) (pa_cons (pv 3) (pa_cons pe_int (pa_cons (pe_glob (v := .int 8) rfl B.MOST_RULED ⟨_, rfl⟩) pa_nil)))))))))) (pss_one (ps_ret pe_bl)) pss_nil)
    (pss_one (ps_ret (pe_cmpR op_eq (pe_ix (r := rIxL K) ix_list (pv 3) pe_int (fun _ _ => rfl)) pe_int (nomark _))))))), ?_⟩
    refine q_when (b := false) (et_or (a := false) (b := false) (et_not (a := true) (et_B (ev_cb (by walk_at "ev") (rc_isi_tup R.r (by decide +kernel))))) fun _ => et_neN (i := 2) (ev_cb (by walk_at "ev") (rc_lenT (st_of R.r))) ev_c) (fun z => Bool.noConfusion z) fun _ H1 e1 => ?_
    refine q_unp2 (ev_var rfl) (st_of (e1 _ _ R.r)) fun H2 e2 => ?_
    have R2 := R.ex (e1.trans e2)
    refine q_when (b := false) (et_or (a := false) (b := false) (et_not (a := true) (et_B (ev_call (by walk_at "ev") (spv_are_rests_ok (lo := 0) (hi := 8) R2.a (by omega) O.tr)))) fun _ => et_not (a := true) (et_B (ev_call (by walk_at "ev") (spv_are_rests_ok (lo := 1) (hi := 8) R2.b (by omega) O.br)))) (fun z => Bool.noConfusion z) fun _ H3 e3 => ?_
    refine s_ret (v := .bl true) (ev_is (ev_eqN (i := sq ys 0) (j := 1) (ev_op (ev_var rfl) ev_c (rv_at (sq_of (e3 _ _ R2.b)) (n := 0) rfl (by omega))) ev_c) ?_) fun H4 e4 => q H4 (((e1.trans e2).trans e3).trans e4)
    rw [O.b0]
    rfl
theorem spv_is_rule {H : Hp} {p : Int} {r a b : Addr} {xs ys : List Int} (R : RuleAt H r a b xs ys) (O : RuleOk p xs ys) : SpV spIsRule [.int p, .ref r] H (.bl true) := fun H1 e Q q E => ⟨p, r, a, b, xs, ys, rfl, R.ex e, O, q⟩
def spNeedRule : Sp := fun vs H Q _ => ∃ (p : Int) (r a b : Addr) (xs ys : List Int), vs = [.int p, .ref r] ∧ RuleAt H r a b xs ys ∧ RuleOk p xs ys ∧ RetV .non H Q
theorem ok_need_rule {f : Addr} {fd : FuncData} (D : Dat K mg "need_rule" s_need_rule ["prime", "rule"] f fd) {a_PRIMES : Addr} {t_MOST_CUT : Tok} {t_MOST_RULED : Tok} {t_MOST_PLACES : Tok} {t_MOST_TERMS : Tok} {a_PowerError : Addr} {a_BadPrime : Addr} {a_BadRow : Addr} {a_BadCount : Addr} {a_BadRule : Addr} {a_BadPlaces : Addr} {a_BadTerms : Addr} {a_NoPart : Addr} {a_NoInside : Addr} {a_NoRoot : Addr} {a_Answer : Addr} {a_Alike : Addr} {a_Unlike : Addr} {a_Ruled : Addr} {a_Barred : Addr} (B : Blt K mg a_PRIMES t_MOST_CUT t_MOST_RULED t_MOST_PLACES t_MOST_TERMS a_PowerError a_BadPrime a_BadRow a_BadCount a_BadRule a_BadPlaces a_BadTerms a_NoPart a_NoInside a_NoRoot a_Answer a_Alike a_Unlike a_Ruled a_Barred) (C_is_rule : Cal P w K mg base CX0 "is_rule" 5 ["prime", "thing"] spIsRule) : Cal P w K mg base CX0 "need_rule" 6 ["prime", "rule"] spNeedRule := by
  refine D.cal (D.F.ok sc_need_rule (fun vs H Q E h => ?_) (fun cdv A outer s H vs Q E hr h => ?_))
  · obtain ⟨p, r, a, b, xs, ys, rfl, _⟩ := h
    rfl
  · obtain ⟨p, r, a, b, xs, ys, rfl, R, O, q⟩ := h
    refine ⟨_, (pss_one (ps_if (pt_not (pt_val (pe_c0 C_is_rule (hr.mono (by decide)) (pa_cons (pv 0) (pa_cons (pv 1) pa_nil))))) (pss_one ps_never) pss_nil)), ?_⟩
    exact s_when (b := false) (et_not (a := true) (et_B (ev_call (by walk_at "ev") (spv_is_rule R O)))) (fun z => Bool.noConfusion z) fun _ H1 e1 => q H1 e1
theorem spv_need_rule {H : Hp} {p : Int} {r a b : Addr} {xs ys : List Int} (R : RuleAt H r a b xs ys) (O : RuleOk p xs ys) : SpV spNeedRule [.int p, .ref r] H .non := fun H1 e Q q E => ⟨p, r, a, b, xs, ys, rfl, R.ex e, O, q⟩

/-! ### is_term, are_terms, need_terms, of terms -/
/-- terms, told by the tuples at rs -/
def TmsR (H : Hp) (rs : List Addr) (ts : List Tm) : Prop := rs.length = ts.length ∧ ∀ (i : Nat) (t : Tm), ts[i]? = some t → ∃ r : Addr, rs[i]? = some r ∧ H r = some (.tup [.int t.r, .int (t.s : Int), .int (t.k : Int)])
theorem TmsR.ex {H H' : Hp} {rs : List Addr} {ts : List Tm} (e : Ex H H') (h : TmsR H rs ts) : TmsR H' rs ts := ⟨h.1, fun i t hi => by
  obtain ⟨r, h1, h2⟩ := h.2 i t hi
  exact ⟨r, h1, e _ _ h2⟩⟩
theorem TmsR.item {H : Hp} {rs : List Addr} {ts : List Tm} (h : TmsR H rs ts) {i : Nat} {x : V} (hx : (rs.map V.ref)[i]? = some x) : ∃ (r : Addr) (t : Tm), ts[i]? = some t ∧ x = .ref r ∧ H r = some (.tup [.int t.r, .int (t.s : Int), .int (t.k : Int)]) := by
  rw [List.getElem?_map] at hx
  have hi : i < ts.length := by
    rw [← h.1]
    by_cases c : i < rs.length
    · exact c
    · rw [List.getElem?_eq_none (by omega)] at hx
      cases hx
  obtain ⟨r, h1, h2⟩ := h.2 i ts[i] (List.getElem?_eq_getElem hi)
  rw [h1] at hx
  exact ⟨r, ts[i], List.getElem?_eq_getElem hi, (Option.some.inj hx).symm, h2⟩
def spIsTerm : Sp := fun vs H Q _ => ∃ (p : Int) (a : Addr) (t : Tm), vs = [.int p, .ref a] ∧ H a = some (.tup [.int t.r, .int (t.s : Int), .int (t.k : Int)]) ∧ TmOk p t ∧ RetV (.bl true) H Q
theorem ok_is_term {f : Addr} {fd : FuncData} (D : Dat K mg "is_term" s_is_term ["prime", "thing"] f fd) {a_PRIMES : Addr} {t_MOST_CUT : Tok} {t_MOST_RULED : Tok} {t_MOST_PLACES : Tok} {t_MOST_TERMS : Tok} {a_PowerError : Addr} {a_BadPrime : Addr} {a_BadRow : Addr} {a_BadCount : Addr} {a_BadRule : Addr} {a_BadPlaces : Addr} {a_BadTerms : Addr} {a_NoPart : Addr} {a_NoInside : Addr} {a_NoRoot : Addr} {a_Answer : Addr} {a_Alike : Addr} {a_Unlike : Addr} {a_Ruled : Addr} {a_Barred : Addr} (B : Blt K mg a_PRIMES t_MOST_CUT t_MOST_RULED t_MOST_PLACES t_MOST_TERMS a_PowerError a_BadPrime a_BadRow a_BadCount a_BadRule a_BadPlaces a_BadTerms a_NoPart a_NoInside a_NoRoot a_Answer a_Alike a_Unlike a_Ruled a_Barred) (C_is_within : Cal P w K mg base CX0 "is_within" 2 ["thing", "least", "most"] spIsWithin) (C_is_rest : Cal P w K mg base CX0 "is_rest" 3 ["prime", "thing"] spIsRest) : Cal P w K mg base CX0 "is_term" 4 ["prime", "thing"] spIsTerm := by
  refine D.cal (D.F.ok sc_is_term (fun vs H Q E h => ?_) (fun cdv A outer s H vs Q E hr h => ?_))
  · obtain ⟨p, a, t, rfl, _⟩ := h
    rfl
  · obtain ⟨p, a, t, rfl, ha, O, q⟩ := h
    have o1 := O.r
    have o2 := O.s
    have o3 := O.k
    refine ⟨_, (pss_cons (ps_if (PW.pt (pw_or (pt_not (pt_val (pe_callB (r := rIsi K) call_isi (by rfl) B.isinstance (by decide +kernel) (pa_cons (pv 1) (pa_cons (pe_bltn (v := .ty "tuple") (by rfl) B.tuple (by decide +kernel) rfl) pa_nil))))) (pw_or1 (pt_cmpR op_ne (pe_callB (r := rLenS K) call_len_seq (by rfl) B.len PySem.boot_len (pa_cons (pv 1) pa_nil)) pe_int (nomark _))))) (pss_one (ps_ret pe_bl)) pss_nil)
    (pss_cons (ps_asg (pv 1) (pg_tup rfl (pgs_cons (pg_name (i := 2) sc_is_term.nd rfl (Or.inl rfl)) (pgs_cons (pg_name (i := 3) sc_is_term.nd rfl (Or.inl rfl)) (pgs_cons (pg_name (i := 4) sc_is_term.nd rfl (Or.inl rfl)) pgs_nil)))))
    (pss_one (ps_ret (pe_and (pe_c0 C_is_rest (hr.mono (by decide)) (pa_cons (pv 0) (pa_cons (pv 2) pa_nil))) (pe_and (pe_c0 C_is_within (hr.mono (by decide)) (pa_cons (pv 3) (pa_cons pe_int (pa_cons pe_int pa_nil)))) (pe_one (pe_c0 C_is_within (hr.mono (by decide)) (pa_cons (pv 4) (pa_cons pe_int (pa_cons pe_int pa_nil))))))))))), ?_⟩
    refine q_when (b := false) (et_or (a := false) (b := false) (et_not (a := true) (et_B (ev_cb (by walk_at "ev") (rc_isi_tup ha (by decide +kernel))))) fun _ => et_test (ev_is (ev_op (ev_cb (by walk_at "ev") (rc_lenT (st_of ha))) ev_c (rv_ne rfl)) ?_)) (fun z => Bool.noConfusion z) fun _ H1 e1 => ?_
    · rw [decide_eq_true]
      · rfl
      · rfl
    · refine q_unp3 (ev_var rfl) (st_of (e1 a _ ha)) fun H2 e2 => ?_
      refine s_ret (v := .bl true) (ev_is (ev_andV (a := true) (ev_is (ev_call (by walk_at "ev") spv_is_rest) ?_) fun _ => ev_andV (a := true) (b := true) (ev_is (ev_call (by walk_at "ev") spv_is_within) ?_) fun _ => ev_is (ev_call (by walk_at "ev") spv_is_within) ?_) rfl) fun H3 e3 => q H3 ((e1.trans e2).trans e3)
      · rw [decide_eq_true o1.1, decide_eq_true o1.2]
        rfl
      · rw [decide_eq_true (by omega), decide_eq_true (by omega)]
        rfl
      · rw [decide_eq_true (by omega), decide_eq_true (by omega)]
        rfl
theorem spv_is_term {H : Hp} {p : Int} {a : Addr} {t : Tm} (ha : H a = some (.tup [.int t.r, .int (t.s : Int), .int (t.k : Int)])) (O : TmOk p t) : SpV spIsTerm [.int p, .ref a] H (.bl true) := fun H1 e Q q E => ⟨p, a, t, rfl, e _ _ ha, O, q⟩
def spAreTerms : Sp := fun vs H Q _ => ∃ (p : Int) (a : Addr) (rs : List Addr) (ts : List Tm), vs = [.int p, .ref a] ∧ H a = some (.lst (rs.map V.ref)) ∧ TmsR H rs ts ∧ (∀ t ∈ ts, TmOk p t) ∧ 1 ≤ ts.length ∧ ts.length ≤ 6 ∧ RetV (.bl true) H Q
theorem ok_are_terms {f : Addr} {fd : FuncData} (D : Dat K mg "are_terms" s_are_terms ["prime", "thing"] f fd) {a_PRIMES : Addr} {t_MOST_CUT : Tok} {t_MOST_RULED : Tok} {t_MOST_PLACES : Tok} {t_MOST_TERMS : Tok} {a_PowerError : Addr} {a_BadPrime : Addr} {a_BadRow : Addr} {a_BadCount : Addr} {a_BadRule : Addr} {a_BadPlaces : Addr} {a_BadTerms : Addr} {a_NoPart : Addr} {a_NoInside : Addr} {a_NoRoot : Addr} {a_Answer : Addr} {a_Alike : Addr} {a_Unlike : Addr} {a_Ruled : Addr} {a_Barred : Addr} (B : Blt K mg a_PRIMES t_MOST_CUT t_MOST_RULED t_MOST_PLACES t_MOST_TERMS a_PowerError a_BadPrime a_BadRow a_BadCount a_BadRule a_BadPlaces a_BadTerms a_NoPart a_NoInside a_NoRoot a_Answer a_Alike a_Unlike a_Ruled a_Barred) (C_is_term : Cal P w K mg base CX0 "is_term" 4 ["prime", "thing"] spIsTerm) : Cal P w K mg base CX0 "are_terms" 5 ["prime", "thing"] spAreTerms := by
  refine D.cal (D.F.ok sc_are_terms (fun vs H Q E h => ?_) (fun cdv A outer s H vs Q E hr h => ?_))
  · obtain ⟨p, a, rs, ts, rfl, _⟩ := h
    rfl
  · obtain ⟨p, a, rs, ts, rfl, ha, hT, hO, l1, l6, q⟩ := h
    have lr := hT.1
    refine ⟨_, (pss_cons (ps_if (PW.pt (pw_or (pt_not (pt_val (pe_callB (r := rIsi K) call_isi (by rfl) B.isinstance (by decide +kernel) (pa_cons (pv 1) (pa_cons (pe_bltn (v := .ty "list") (by rfl) B.list (by decide +kernel) rfl) pa_nil))))) (pw_or1 (pt_not (pt_chain op_le op_le pe_int (pe_callB (r := rLenS K) call_len_seq (by rfl) B.len PySem.boot_len (pa_cons (pv 1) pa_nil)) (pe_glob (v := .int 6) rfl B.MOST_TERMS ⟨_, rfl⟩)))))) (pss_one (ps_ret pe_bl)) pss_nil)
    (pss_one (ps_ret (pe_callB (r := rAll K) (cr_all rfl) (by rfl) B.all (by decide +kernel) (pa_cons (pe_lc (own := [("term", 2)]) (g := gName 2) (tt := tYes) (by rfl) sc_are_terms.nd (pi_list (pv 1)) (blkOk_by (N := nm_are_terms) (sc := defScope s_are_terms) (by decide +kernel)) (fun _ _ _ _ _ => pg_name (i := 2) sc_are_terms.nd rfl (Or.inl rfl)) (fun _ _ _ _ _ => pts_nil) (fun _ _ _ _ _ => (pe_c0 C_is_term (hr.mono (by decide)) (pa_cons (pv 0) (pa_cons (pv 2) pa_nil))))) pa_nil))))), ?_⟩
    refine q_when (b := false) (et_or (a := false) (b := false) (et_not (a := true) (et_B (ev_cb (by walk_at "ev") (rc_isi_lst ha (by decide +kernel))))) fun _ => et_not (a := true) (et_test (ev_is (ev_chain ev_c (ev_cb (by walk_at "ev") (rc_len (sq_of ha))) rv_I0 (fun _ => ev_c) (fun _ => rv_I0)) ?_))) (fun z => Bool.noConfusion z) fun _ H1 e1 => ?_
    · rw [List.length_map, decide_eq_true (by omega), decide_eq_true (by omega)]
      rfl
    · refine s_ret (ev_cbL (el_is (el_one (xs := rs.map V.ref) (fun _ => true) (fun _ => V.bl true) ((eg_list (ev_var rfl) (sq_of (e1 a _ ha))).i fun H2 e2 => sq_of (e2 _ _ (e1 a _ ha))) (by rw [List.length_map]; omega) (fun _ => rfl) fun m x hx => ?_) given_all) fun p2 H2 h2 e2 => ?_) fun H3 e3 => q H3 (e1.trans e3)
      · obtain ⟨r, t, ht, rfl, hr1⟩ := hT.item hx
        exact ⟨et_yes, fun _ => ev_call (by walk_at "ev") (spv_is_term (e1 _ _ hr1) (hO t (List.mem_of_getElem? ht)))⟩
      · rw [map_map_bl (f := fun _ => true)] at h2
        have g := rc_all (K := K) (sq_of h2)
        rw [all_true] at g
        exact g
theorem spv_are_terms {H : Hp} {p : Int} {a : Addr} {rs : List Addr} {ts : List Tm} (ha : H a = some (.lst (rs.map V.ref))) (hT : TmsR H rs ts) (hO : ∀ t ∈ ts, TmOk p t) (l1 : 1 ≤ ts.length) (l6 : ts.length ≤ 6) : SpV spAreTerms [.int p, .ref a] H (.bl true) := fun H1 e Q q E => ⟨p, a, rs, ts, rfl, e _ _ ha, hT.ex e, hO, l1, l6, q⟩
def spNeedTerms : Sp := fun vs H Q _ => ∃ (p : Int) (a : Addr) (rs : List Addr) (ts : List Tm), vs = [.int p, .ref a] ∧ H a = some (.lst (rs.map V.ref)) ∧ TmsR H rs ts ∧ (∀ t ∈ ts, TmOk p t) ∧ 1 ≤ ts.length ∧ ts.length ≤ 6 ∧ RetV .non H Q
theorem ok_need_terms {f : Addr} {fd : FuncData} (D : Dat K mg "need_terms" s_need_terms ["prime", "terms"] f fd) {a_PRIMES : Addr} {t_MOST_CUT : Tok} {t_MOST_RULED : Tok} {t_MOST_PLACES : Tok} {t_MOST_TERMS : Tok} {a_PowerError : Addr} {a_BadPrime : Addr} {a_BadRow : Addr} {a_BadCount : Addr} {a_BadRule : Addr} {a_BadPlaces : Addr} {a_BadTerms : Addr} {a_NoPart : Addr} {a_NoInside : Addr} {a_NoRoot : Addr} {a_Answer : Addr} {a_Alike : Addr} {a_Unlike : Addr} {a_Ruled : Addr} {a_Barred : Addr} (B : Blt K mg a_PRIMES t_MOST_CUT t_MOST_RULED t_MOST_PLACES t_MOST_TERMS a_PowerError a_BadPrime a_BadRow a_BadCount a_BadRule a_BadPlaces a_BadTerms a_NoPart a_NoInside a_NoRoot a_Answer a_Alike a_Unlike a_Ruled a_Barred) (C_are_terms : Cal P w K mg base CX0 "are_terms" 5 ["prime", "thing"] spAreTerms) : Cal P w K mg base CX0 "need_terms" 6 ["prime", "terms"] spNeedTerms := by
  refine D.cal (D.F.ok sc_need_terms (fun vs H Q E h => ?_) (fun cdv A outer s H vs Q E hr h => ?_))
  · obtain ⟨p, a, rs, ts, rfl, _⟩ := h
    rfl
  · obtain ⟨p, a, rs, ts, rfl, ha, hT, hO, l1, l6, q⟩ := h
    refine ⟨_, (pss_one (ps_if (pt_not (pt_val (pe_c0 C_are_terms (hr.mono (by decide)) (pa_cons (pv 0) (pa_cons (pv 1) pa_nil))))) (pss_one ps_never) pss_nil)), ?_⟩
    exact s_when (b := false) (et_not (a := true) (et_B (ev_call (by walk_at "ev") (spv_are_terms ha hT hO l1 l6)))) (fun z => Bool.noConfusion z) fun _ H1 e1 => q H1 e1
theorem spv_need_terms {H : Hp} {p : Int} {a : Addr} {rs : List Addr} {ts : List Tm} (ha : H a = some (.lst (rs.map V.ref))) (hT : TmsR H rs ts) (hO : ∀ t ∈ ts, TmOk p t) (l1 : 1 ≤ ts.length) (l6 : ts.length ≤ 6) : SpV spNeedTerms [.int p, .ref a] H .non := fun H1 e Q q E => ⟨p, a, rs, ts, rfl, e _ _ ha, hT.ex e, hO, l1, l6, q⟩

/-! ### need_count, of a count -/
def spNeedCount : Sp := fun vs H Q _ => ∃ m : Int, vs = [.int m] ∧ 0 ≤ m ∧ RetV .non H Q
theorem ok_need_count {f : Addr} {fd : FuncData} (D : Dat K mg "need_count" s_need_count ["many"] f fd) {a_PRIMES : Addr} {t_MOST_CUT : Tok} {t_MOST_RULED : Tok} {t_MOST_PLACES : Tok} {t_MOST_TERMS : Tok} {a_PowerError : Addr} {a_BadPrime : Addr} {a_BadRow : Addr} {a_BadCount : Addr} {a_BadRule : Addr} {a_BadPlaces : Addr} {a_BadTerms : Addr} {a_NoPart : Addr} {a_NoInside : Addr} {a_NoRoot : Addr} {a_Answer : Addr} {a_Alike : Addr} {a_Unlike : Addr} {a_Ruled : Addr} {a_Barred : Addr} (B : Blt K mg a_PRIMES t_MOST_CUT t_MOST_RULED t_MOST_PLACES t_MOST_TERMS a_PowerError a_BadPrime a_BadRow a_BadCount a_BadRule a_BadPlaces a_BadTerms a_NoPart a_NoInside a_NoRoot a_Answer a_Alike a_Unlike a_Ruled a_Barred) (C_is_number : Cal P w K mg base CX0 "is_number" 1 ["thing"] spIsNumber) : Cal P w K mg base CX0 "need_count" 2 ["many"] spNeedCount := by
  refine D.cal (D.F.ok sc_need_count (fun vs H Q E h => ?_) (fun cdv A outer s H vs Q E hr h => ?_))
  · obtain ⟨m, rfl, _⟩ := h
    rfl
  · obtain ⟨m, rfl, h0, q⟩ := h
    refine ⟨_, (pss_one (ps_if (PW.pt (pw_or (pt_not (pt_val (pe_c0 C_is_number (hr.mono (by decide)) (pa_cons (pv 0) pa_nil)))) (pw_or1 (pt_cmpR op_lt (pv 0) pe_int (nomark _))))) (pss_one ps_never) pss_nil)), ?_⟩
    refine s_when (b := false) (et_or (a := false) (b := false) (et_not (a := true) (et_B (ev_call (by walk_at "ev") spv_is_number))) fun _ => et_test (ev_is (ev_op (ev_var rfl) ev_c rv_I0) ?_)) (fun z => Bool.noConfusion z) fun _ H1 e1 => q H1 e1
    show V.bl (decide (m < 0)) = V.bl false
    rw [decide_eq_false (by omega)]
theorem spv_need_count {H : Hp} {m : Int} (h0 : 0 ≤ m) : SpV spNeedCount [.int m] H .non := fun H1 e Q q E => ⟨m, rfl, h0, q⟩

/-! ### need_count_within, of a count -/
def spNeedCountW : Sp := fun vs H Q _ => ∃ m lo hi : Int, vs = [.int m, .int lo, .int hi] ∧ lo ≤ m ∧ m ≤ hi ∧ RetV .non H Q
theorem ok_need_count_within {f : Addr} {fd : FuncData} (D : Dat K mg "need_count_within" s_need_count_within ["many", "least", "most"] f fd) {a_PRIMES : Addr} {t_MOST_CUT : Tok} {t_MOST_RULED : Tok} {t_MOST_PLACES : Tok} {t_MOST_TERMS : Tok} {a_PowerError : Addr} {a_BadPrime : Addr} {a_BadRow : Addr} {a_BadCount : Addr} {a_BadRule : Addr} {a_BadPlaces : Addr} {a_BadTerms : Addr} {a_NoPart : Addr} {a_NoInside : Addr} {a_NoRoot : Addr} {a_Answer : Addr} {a_Alike : Addr} {a_Unlike : Addr} {a_Ruled : Addr} {a_Barred : Addr} (B : Blt K mg a_PRIMES t_MOST_CUT t_MOST_RULED t_MOST_PLACES t_MOST_TERMS a_PowerError a_BadPrime a_BadRow a_BadCount a_BadRule a_BadPlaces a_BadTerms a_NoPart a_NoInside a_NoRoot a_Answer a_Alike a_Unlike a_Ruled a_Barred) (C_is_within : Cal P w K mg base CX0 "is_within" 2 ["thing", "least", "most"] spIsWithin) : Cal P w K mg base CX0 "need_count_within" 3 ["many", "least", "most"] spNeedCountW := by
  refine D.cal (D.F.ok sc_need_count_within (fun vs H Q E h => ?_) (fun cdv A outer s H vs Q E hr h => ?_))
  · obtain ⟨m, lo, hi, rfl, _⟩ := h
    rfl
  · obtain ⟨m, lo, hi, rfl, h0, h1, q⟩ := h
    refine ⟨_, (pss_one (ps_if (pt_not (pt_val (pe_c0 C_is_within (hr.mono (by decide)) (pa_cons (pv 0) (pa_cons (pv 1) (pa_cons (pv 2) pa_nil)))))) (pss_one ps_never) pss_nil)), ?_⟩
    refine s_when (b := false) (et_not (a := true) (et_B (ev_is (ev_call (by walk_at "ev") spv_is_within) ?_))) (fun z => Bool.noConfusion z) fun _ H1 e1 => q H1 e1
    rw [decide_eq_true h0, decide_eq_true h1]
    rfl
theorem spv_need_count_within {H : Hp} {m lo hi : Int} (h0 : lo ≤ m) (h1 : m ≤ hi) : SpV spNeedCountW [.int m, .int lo, .int hi] H .non := fun H1 e Q q E => ⟨m, lo, hi, rfl, h0, h1, q⟩

/-! ### need_places, of places -/
def spNeedPlaces : Sp := fun vs H Q _ => ∃ (p : Int) (a : Addr) (xs : List Int), vs = [.int p, .ref a] ∧ H a = some (.lst (xs.map V.int)) ∧ xs.length ≤ 24 ∧ (∀ x ∈ xs, 0 ≤ x ∧ x < p) ∧ RetV .non H Q
theorem ok_need_places {f : Addr} {fd : FuncData} (D : Dat K mg "need_places" s_need_places ["prime", "places"] f fd) {a_PRIMES : Addr} {t_MOST_CUT : Tok} {t_MOST_RULED : Tok} {t_MOST_PLACES : Tok} {t_MOST_TERMS : Tok} {a_PowerError : Addr} {a_BadPrime : Addr} {a_BadRow : Addr} {a_BadCount : Addr} {a_BadRule : Addr} {a_BadPlaces : Addr} {a_BadTerms : Addr} {a_NoPart : Addr} {a_NoInside : Addr} {a_NoRoot : Addr} {a_Answer : Addr} {a_Alike : Addr} {a_Unlike : Addr} {a_Ruled : Addr} {a_Barred : Addr} (B : Blt K mg a_PRIMES t_MOST_CUT t_MOST_RULED t_MOST_PLACES t_MOST_TERMS a_PowerError a_BadPrime a_BadRow a_BadCount a_BadRule a_BadPlaces a_BadTerms a_NoPart a_NoInside a_NoRoot a_Answer a_Alike a_Unlike a_Ruled a_Barred) (C_are_rests : Cal P w K mg base CX0 "are_rests" 4 ["prime", "thing", "least", "most"] spAreRestsOk) : Cal P w K mg base CX0 "need_places" 5 ["prime", "places"] spNeedPlaces := by
  refine D.cal (D.F.ok sc_need_places (fun vs H Q E h => ?_) (fun cdv A outer s H vs Q E hr h => ?_))
  · obtain ⟨p, a, xs, rfl, _⟩ := h
    rfl
  · obtain ⟨p, a, xs, rfl, ha, hl, hx, q⟩ := h
    refine ⟨_, (pss_one (ps_if (pt_not (pt_val (pe_c0 C_are_rests (hr.mono (by decide)) (pa_cons (pv 0) (pa_cons (pv 1) (pa_cons pe_int (pa_cons (pe_glob (v := .int 24) rfl B.MOST_PLACES ⟨_, rfl⟩) pa_nil))))))) (pss_one ps_never) pss_nil)), ?_⟩
    exact s_when (b := false) (et_not (a := true) (et_B (ev_call (by walk_at "ev") (spv_are_rests_ok (lo := 0) (hi := 24) ha (by omega) hx)))) (fun z => Bool.noConfusion z) fun _ H1 e1 => q H1 e1
theorem spv_need_places {H : Hp} {p : Int} {a : Addr} {xs : List Int} (ha : H a = some (.lst (xs.map V.int))) (hl : xs.length ≤ 24) (hx : ∀ x ∈ xs, 0 ≤ x ∧ x < p) : SpV spNeedPlaces [.int p, .ref a] H .non := fun H1 e Q q E => ⟨p, a, xs, rfl, e _ _ ha, hl, hx, q⟩

/-! ### inverse -/
def spInverse : Sp := fun vs H Q _ => ∃ (p r : Int), vs = [.int p, .int r] ∧ Prm p ∧ 0 ≤ r ∧ r < p ∧ RetV (.int (inv p r)) H Q
theorem powm_rest {p r : Int} (hp : 2 ≤ p) (n : Nat) : 0 ≤ powm p r n ∧ powm p r n < p := by
  cases n with
  | zero => exact ⟨by show (0 : Int) ≤ 1; decide, by show (1 : Int) < p; omega⟩
  | succ n => exact ⟨Int.emod_nonneg _ (by omega), Int.emod_lt_of_pos _ (by omega)⟩
theorem ok_inverse {f : Addr} {fd : FuncData} (D : Dat K mg "inverse" s_inverse ["prime", "rest"] f fd) {a_PRIMES : Addr} {t_MOST_CUT : Tok} {t_MOST_RULED : Tok} {t_MOST_PLACES : Tok} {t_MOST_TERMS : Tok} {a_PowerError : Addr} {a_BadPrime : Addr} {a_BadRow : Addr} {a_BadCount : Addr} {a_BadRule : Addr} {a_BadPlaces : Addr} {a_BadTerms : Addr} {a_NoPart : Addr} {a_NoInside : Addr} {a_NoRoot : Addr} {a_Answer : Addr} {a_Alike : Addr} {a_Unlike : Addr} {a_Ruled : Addr} {a_Barred : Addr} (B : Blt K mg a_PRIMES t_MOST_CUT t_MOST_RULED t_MOST_PLACES t_MOST_TERMS a_PowerError a_BadPrime a_BadRow a_BadCount a_BadRule a_BadPlaces a_BadTerms a_NoPart a_NoInside a_NoRoot a_Answer a_Alike a_Unlike a_Ruled a_Barred) : Cal P w K mg base CX0 "inverse" 1 ["prime", "rest"] spInverse := by
  refine D.cal (D.F.ok sc_inverse (fun vs H Q E h => ?_) (fun cdv A outer s H vs Q E hr h => ?_))
  · obtain ⟨p, r, rfl, _⟩ := h
    rfl
  · obtain ⟨p, r, rfl, hp, h0, h1, q⟩ := h
    have p2 := hp.pos
    refine ⟨_, (pss_cons (ps_set (i := 2) sc_inverse.nd rfl (Or.inl rfl) pe_int)
    (pss_cons (ps_for PassesOwn.never rfl (pi_range1 rfl B.range (pa_cons (pe_op op_sub (pv 0) pe_int) pa_nil)) (pg_name (i := 3) sc_inverse.nd rfl (Or.inl rfl)) (pss_one (ps_set (i := 2) sc_inverse.nd rfl (Or.inl rfl) (pe_op op_mod (pe_op op_mulV (pv 2) (pv 1)) (pv 0)))))
    (pss_one (ps_ret (pv 2))))), ?_⟩
    refine q_asg (v := .int 1) ev_c fun H1 e1 => ?_
    refine q_forR1 (n := p - 2) (by walk_at "ev") (by omega) (fun i σ' H' => ∃ z, σ' = [some (.int p), some (.int r), some (.int (powm p r i)), z] ∧ Ex H H') (fun H2 e2 => ⟨none, rfl, e1.trans e2⟩) (fun i σ' H' hi hP => ?_) fun σ' H' hP => ?_
    · obtain ⟨z, rfl, e⟩ := hP
      have b := powm_rest (r := r) p2.1 i
      refine s_asg (v := .int (powm p r (i + 1))) (ev_op (ev_op (ev_var rfl) (ev_var rfl) (rv_I (mul_l (by omega)))) (ev_var rfl) (rv_I (by walk_at "cond"))) fun H3 e3 => ?_
      exact ⟨_, rfl, e.trans e3⟩
    · obtain ⟨z, rfl, e⟩ := hP
      exact s_ret (ev_var rfl) fun H3 e3 => q H3 (e.trans e3)
theorem spv_inverse {H : Hp} {p r : Int} (hp : Prm p) (h0 : 0 ≤ r) (h1 : r < p) : SpV spInverse [.int p, .int r] H (.int (inv p r)) := fun H1 e Q q E => ⟨p, r, rfl, hp, h0, h1, q⟩

/-! ### product_place, product -/
def spPlace (K : PySem.W.Frag) : Sp := fun vs H Q _ => ∃ (a b : Addr) (xs ys : List Int) (n : Nat), vs = [.ref a, .ref b, .int (n : Int)] ∧ SqL K H a (xs.map V.int) ∧ SqL K H b (ys.map V.int) ∧ Sml xs ∧ n < xs.length ∧ n < ys.length ∧ n ≤ 1000 ∧ RetV (.int (cv (sq xs) (sq ys) n)) H Q
theorem ok_product_place {f : Addr} {fd : FuncData} (D : Dat K mg "product_place" s_product_place ["one", "other", "place"] f fd) {a_PRIMES : Addr} {t_MOST_CUT : Tok} {t_MOST_RULED : Tok} {t_MOST_PLACES : Tok} {t_MOST_TERMS : Tok} {a_PowerError : Addr} {a_BadPrime : Addr} {a_BadRow : Addr} {a_BadCount : Addr} {a_BadRule : Addr} {a_BadPlaces : Addr} {a_BadTerms : Addr} {a_NoPart : Addr} {a_NoInside : Addr} {a_NoRoot : Addr} {a_Answer : Addr} {a_Alike : Addr} {a_Unlike : Addr} {a_Ruled : Addr} {a_Barred : Addr} (B : Blt K mg a_PRIMES t_MOST_CUT t_MOST_RULED t_MOST_PLACES t_MOST_TERMS a_PowerError a_BadPrime a_BadRow a_BadCount a_BadRule a_BadPlaces a_BadTerms a_NoPart a_NoInside a_NoRoot a_Answer a_Alike a_Unlike a_Ruled a_Barred) : Cal P w K mg base CX0 "product_place" 1 ["one", "other", "place"] (spPlace K) := by
  refine D.cal (D.F.ok sc_product_place (fun vs H Q E h => ?_) (fun cdv A outer s H vs Q E hr h => ?_))
  · obtain ⟨a, b, xs, ys, n, rfl, _⟩ := h
    rfl
  · obtain ⟨a, b, xs, ys, n, rfl, ha, hb, hs, hx, hy, hn, q⟩ := h
    refine ⟨_, (pss_one (ps_ret (pe_callB (r := rSum K) (cr_sum rfl) (by rfl) B.sum (by decide +kernel) (pa_cons (pe_lc (own := [("first", 3)]) (g := gName 3) (tt := tYes) (by rfl) sc_product_place.nd (pi_range1 rfl B.range (pa_cons (pe_op op_add (pv 2) pe_int) pa_nil)) (blkOk_by (N := nm_product_place) (sc := defScope s_product_place) (by decide +kernel)) (fun _ _ _ _ _ => pg_name (i := 3) sc_product_place.nd rfl (Or.inl rfl)) (fun _ _ _ _ _ => pts_nil) (fun _ _ _ _ _ => (pe_op op_mulV (pe_ix (r := rIxL K) ix_list (pv 0) (pv 3) (fun _ _ => rfl)) (pe_ix (r := rIxL K) ix_list (pv 1) (pe_op op_sub (pv 2) (pv 3)) (fun _ _ => rfl))))) pa_nil)))), ?_⟩
    refine s_ret (ev_cbL (el_int (el_mapR (n := ((n + 1 : Nat) : Int)) (fun i => V.int (sq xs i * sq ys (n - i))) (by walk_at "ev") (by omega) (fun _ => rfl) fun i H1 e1 hi => ?_)) fun p H2 h2 e2 => ?_) fun H3 e3 => q H3 e3
    · have ha1 := ex_l e1 ha
      have hb1 := ex_l e1 hb
      have hs1 := hs.at i
      exact ev_op (ev_op (ev_var rfl) (ev_var rfl) (rv_at ha1 rfl (by omega))) (ev_op (ev_var rfl) (by walk_at "ev") (rv_at hb1 (n := n - i) (by omega) (by omega))) (rv_I (by walk_at "cond"))
    · have g := rc_sum (K := K) (sq_of h2)
      rw [show ((n + 1 : Nat) : Int).toNat = n + 1 by omega, sum_cv] at g
      exact g
theorem spv_place {H : Hp} {a b : Addr} {xs ys : List Int} {n : Nat} (ha : SqL K H a (xs.map V.int)) (hb : SqL K H b (ys.map V.int)) (hs : Sml xs) (hx : n < xs.length) (hy : n < ys.length) (hn : n ≤ 1000) : SpV (spPlace K) [.ref a, .ref b, .int (n : Int)] H (.int (cv (sq xs) (sq ys) n)) :=
  fun H1 e Q q E => ⟨a, b, xs, ys, n, rfl, ex_l e ha, ex_l e hb, hs, hx, hy, hn, q⟩

/-! ### product -/
def spProduct (K : PySem.W.Frag) : Sp := fun vs H Q _ => ∃ (p : Int) (a b : Addr) (xs ys : List Int), vs = [.int p, .ref a, .ref b] ∧ 0 < p ∧ SqL K H a (xs.map V.int) ∧ SqL K H b (ys.map V.int) ∧ Sml xs ∧ xs.length ≤ 1000 ∧ RetL ((prodL p xs ys).map V.int) H Q
theorem ok_product {f : Addr} {fd : FuncData} (D : Dat K mg "product" s_product ["prime", "one", "other"] f fd) {a_PRIMES : Addr} {t_MOST_CUT : Tok} {t_MOST_RULED : Tok} {t_MOST_PLACES : Tok} {t_MOST_TERMS : Tok} {a_PowerError : Addr} {a_BadPrime : Addr} {a_BadRow : Addr} {a_BadCount : Addr} {a_BadRule : Addr} {a_BadPlaces : Addr} {a_BadTerms : Addr} {a_NoPart : Addr} {a_NoInside : Addr} {a_NoRoot : Addr} {a_Answer : Addr} {a_Alike : Addr} {a_Unlike : Addr} {a_Ruled : Addr} {a_Barred : Addr} (B : Blt K mg a_PRIMES t_MOST_CUT t_MOST_RULED t_MOST_PLACES t_MOST_TERMS a_PowerError a_BadPrime a_BadRow a_BadCount a_BadRule a_BadPlaces a_BadTerms a_NoPart a_NoInside a_NoRoot a_Answer a_Alike a_Unlike a_Ruled a_Barred) (C_product_place : Cal P w K mg base CX0 "product_place" 1 ["one", "other", "place"] (spPlace K)) : Cal P w K mg base CX0 "product" 2 ["prime", "one", "other"] (spProduct K) := by
  refine D.cal (D.F.ok sc_product (fun vs H Q E h => ?_) (fun cdv A outer s H vs Q E hr h => ?_))
  · obtain ⟨p, a, b, xs, ys, rfl, _⟩ := h
    rfl
  · obtain ⟨p, a, b, xs, ys, rfl, hp, ha, hb, hs, hx, q⟩ := h
    refine ⟨_, (pss_cons (ps_set (i := 3) sc_product.nd rfl (Or.inl rfl) (pe_callB (call_min2 rfl) (by rfl) B.min (by decide +kernel) (pa_cons (pe_callB (r := rLenS K) call_len_seq (by rfl) B.len PySem.boot_len (pa_cons (pv 1) pa_nil)) (pa_cons (pe_callB (r := rLenS K) call_len_seq (by rfl) B.len PySem.boot_len (pa_cons (pv 2) pa_nil)) pa_nil))))
    (pss_one (ps_ret (pe_lc (own := [("place", 4)]) (g := gName 4) (tt := tYes) (by rfl) sc_product.nd (pi_range1 rfl B.range (pa_cons (pv 3) pa_nil)) (blkOk_by (N := nm_product) (sc := defScope s_product) (by decide +kernel)) (fun _ _ _ _ _ => pg_name (i := 4) sc_product.nd rfl (Or.inl rfl)) (fun _ _ _ _ _ => pts_nil) (fun _ _ _ _ _ => (pe_op op_mod (pe_c0 C_product_place (hr.mono (by decide)) (pa_cons (pv 1) (pa_cons (pv 2) (pa_cons (pv 4) pa_nil)))) (pv 0))))))), ?_⟩
    refine q_asg (v := .int ((min xs.length ys.length : Nat) : Int)) (by walk_at "ev") fun H1 e1 => ?_
    refine s_retL (el_int (el_mapR (n := ((min xs.length ys.length : Nat) : Int)) (fun i => V.int (cv (sq xs) (sq ys) i % p)) (by walk_at "ev") (by omega) (fun _ => rfl) fun i H2 e2 hi => ?_)) fun p3 H3 h3 e3 h4 => ?_
    · exact ev_op (ev_call (by walk_at "ev") (spv_place (n := i) (xs := xs) (ys := ys) (ex_l (e1.trans e2) ha) (ex_l (e1.trans e2) hb) hs (by omega) (by omega) (by omega))) (ev_var rfl) (rv_I (by walk_at "cond"))
    · exact q.go e1 h3 e3 h4
theorem spl_product {H : Hp} {p : Int} {a b : Addr} {xs ys : List Int} (hp : 0 < p) (ha : SqL K H a (xs.map V.int)) (hb : SqL K H b (ys.map V.int)) (hs : Sml xs) (hx : xs.length ≤ 1000) : SpL (spProduct K) [.int p, .ref a, .ref b] H ((prodL p xs ys).map V.int) :=
  fun H1 e Q q E => ⟨p, a, b, xs, ys, rfl, hp, ex_l e ha, ex_l e hb, hs, hx, q⟩

/-! ### quotient -/
def spQuotient (K : PySem.W.Frag) : Sp := fun vs H Q _ => ∃ (p : Int) (a b : Addr) (xs ys : List Int), vs = [.int p, .ref a, .ref b] ∧ Prm p ∧ SqL K H a (xs.map V.int) ∧ SqL K H b (ys.map V.int) ∧ 1 ≤ ys.length ∧ 0 ≤ sq ys 0 ∧ sq ys 0 < p ∧ xs.length ≤ 1000 ∧ RetL ((quo p (inv p (sq ys 0)) (sq xs) (sq ys) (min xs.length ys.length)).map V.int) H Q
theorem quo_rest {p c : Int} {f g : Sq} (hp : 0 < p) (n : Nat) : ∀ x ∈ quo p c f g n, 0 ≤ x ∧ x < p := by
  induction n with
  | zero => exact fun x h => nomatch h
  | succ n ih =>
    intro x h
    rcases List.mem_append.mp h with h | h
    · exact ih x h
    · obtain rfl := List.mem_singleton.mp h
      exact ⟨Int.emod_nonneg _ (by omega), Int.emod_lt_of_pos _ hp⟩
theorem ok_quotient {f : Addr} {fd : FuncData} (D : Dat K mg "quotient" s_quotient ["prime", "one", "other"] f fd) {a_PRIMES : Addr} {t_MOST_CUT : Tok} {t_MOST_RULED : Tok} {t_MOST_PLACES : Tok} {t_MOST_TERMS : Tok} {a_PowerError : Addr} {a_BadPrime : Addr} {a_BadRow : Addr} {a_BadCount : Addr} {a_BadRule : Addr} {a_BadPlaces : Addr} {a_BadTerms : Addr} {a_NoPart : Addr} {a_NoInside : Addr} {a_NoRoot : Addr} {a_Answer : Addr} {a_Alike : Addr} {a_Unlike : Addr} {a_Ruled : Addr} {a_Barred : Addr} (B : Blt K mg a_PRIMES t_MOST_CUT t_MOST_RULED t_MOST_PLACES t_MOST_TERMS a_PowerError a_BadPrime a_BadRow a_BadCount a_BadRule a_BadPlaces a_BadTerms a_NoPart a_NoInside a_NoRoot a_Answer a_Alike a_Unlike a_Ruled a_Barred) (C_inverse : Cal P w K mg base CX0 "inverse" 1 ["prime", "rest"] spInverse) : Cal P w K mg base CX0 "quotient" 2 ["prime", "one", "other"] (spQuotient K) := by
  refine D.cal (D.F.ok sc_quotient (fun vs H Q E h => ?_) (fun cdv A outer s H vs Q E hr h => ?_))
  · obtain ⟨p, a, b, xs, ys, rfl, _⟩ := h
    rfl
  · obtain ⟨p, a, b, xs, ys, rfl, hp, ha, hb, l2, b0, b1, u1, q⟩ := h
    have p2 := hp.pos
    refine ⟨_, (pss_cons (ps_set (i := 3) sc_quotient.nd rfl (Or.inl rfl) (pe_c0 C_inverse (hr.mono (by decide)) (pa_cons (pv 0) (pa_cons (pe_ix (r := rIxL K) ix_list (pv 2) pe_int (fun _ _ => rfl)) pa_nil))))
    (pss_cons (ps_set (i := 4) sc_quotient.nd rfl (Or.inr rfl) (pe_lst pa_nil))
    (pss_cons (ps_for PassesOwn.never rfl (pi_range1 rfl B.range (pa_cons (pe_callB (call_min2 rfl) (by rfl) B.min (by decide +kernel) (pa_cons (pe_callB (r := rLenS K) call_len_seq (by rfl) B.len PySem.boot_len (pa_cons (pv 1) pa_nil)) (pa_cons (pe_callB (r := rLenS K) call_len_seq (by rfl) B.len PySem.boot_len (pa_cons (pv 2) pa_nil)) pa_nil))) pa_nil)) (pg_name (i := 5) sc_quotient.nd rfl (Or.inr rfl)) (pss_cons (ps_set (i := 6) sc_quotient.nd rfl (Or.inl rfl) (pe_callB (r := rSum K) (cr_sum rfl) (by rfl) B.sum (by decide +kernel) (pa_cons (pe_lc (own := [("first", 7)]) (g := gName 7) (tt := tYes) (by rfl) sc_quotient.nd (pi_range1 rfl B.range (pa_cons (pv 5) pa_nil)) (blkOk_by (N := nm_quotient) (sc := defScope s_quotient) (by decide +kernel)) (fun _ _ _ _ _ => pg_name (i := 7) sc_quotient.nd rfl (Or.inl rfl)) (fun _ _ _ _ _ => pts_nil) (fun _ _ _ _ _ => (pe_op op_mulV (pe_ix (r := rIxL K) ix_list (pv 4) (pv 7) (fun _ _ => rfl)) (pe_ix (r := rIxL K) ix_list (pv 2) (pe_op op_sub (pv 5) (pv 7)) (fun _ _ => rfl))))) pa_nil)))
    (pss_one (ps_expr (pe_bm PySem.F.plainAttrs_list PySem.F.slot_list_append PySem.F.type_list_append mt_append (pv 4) (pa_cons (pe_op op_mod (pe_op op_mulV (pe_op op_sub (pe_ix (r := rIxL K) ix_list (pv 1) (pv 5) (fun _ _ => rfl)) (pv 6)) (pv 3)) (pv 0)) pa_nil))))))
    (pss_one (ps_ret (pv 4)))))), ?_⟩
    refine q_asg (v := .int (inv p (sq ys 0))) (ev_call (ea_cons (ev_var rfl) (ea_cons (ev_op (ev_var rfl) ev_c (rv_at hb (n := 0) rfl (by omega))) ea_nil)) (spv_inverse hp b0 b1)) fun H1 e1 => ?_
    refine q_asgL (xs := []) (el_lst ea_nil (by decide)) fun l H2 nl e2 hl => ?_
    have e12 := e1.trans e2
    have nl0 : H l = none := fresh_back e1 nl
    generalize hc : inv p (sq ys 0) = c
    refine q_forR1 (n := ((min xs.length ys.length : Nat) : Int)) (by
        have ha := ex_l e12 ha
        have hb := ex_l e12 hb
        walk_at "ev") (by omega) (fun i σ' H' => ∃ z1 z2, σ' = [some (.int p), some (.ref a), some (.ref b), some (.int c), some (.ref l), z1, z2, none] ∧ Ex H H' ∧ H' l = some (.lst ((quo p c (sq xs) (sq ys) i).map V.int))) (fun H3 e3 => ⟨none, none, rfl, e12.trans e3, e3 l _ hl⟩) (fun i σ' H' hi hP => ?_) fun σ' H' hP => ?_
    · obtain ⟨z1, z2, rfl, e, hq⟩ := hP
      have hr0 := quo_rest (c := c) (f := sq xs) (g := sq ys) (show 0 < p by omega) i
      refine q_asg (v := .int (((List.range i).map fun j => sq (quo p c (sq xs) (sq ys) i) j * sq ys (i - j)).sum)) (ev_cbL (el_int (el_mapR (n := (i : Int)) (fun j => V.int (sq (quo p c (sq xs) (sq ys) i) j * sq ys (i - j))) (by walk_at "ev") (by omega) (fun _ => rfl) fun j H1 e1 hj => ?_)) fun p3 H3 h3 e3 => ?_) fun H3 e3 => ?_
      · have hj2 : j < (quo p c (sq xs) (sq ys) i).length := by
          rw [quo_len]
          omega
        have hjm := hr0 _ (sq_mem hj2)
        exact ev_op (ev_op (ev_var rfl) (ev_var rfl) (rv_at (sq_of (e1 l _ hq)) (n := j) rfl hj2)) (ev_op (ev_var rfl) (by walk_at "ev") (rv_at (ex_l (e.trans e1) hb) (n := i - j) (by omega) (by omega))) (rv_I (mul_l (by omega)))
      · exact rc_sum (sq_of h3)
      · refine s_app (e3 l _ hq) (ev_var rfl) (ev_op (ev_op (ev_op (ev_op (ev_var rfl) (ev_var rfl) (rv_at (ex_l (e.trans e3) ha) (n := i) rfl (by omega))) (ev_var rfl) rv_I0) (ev_var rfl) (rv_I ?_)) (ev_var rfl) (rv_I (by walk_at "cond"))) ?_ fun H4 e4 => ?_
        · have cb := powm_rest (r := sq ys 0) p2.1 (p - 2).toNat
          have cb2 : 0 ≤ c ∧ c < p := by
            rw [← hc]
            exact cb
          exact mul_r (by omega)
        · rw [List.length_map, quo_len]
          omega
        · refine ⟨_, _, rfl, Ex.mut ((e.trans e3).trans e4) nl0, ?_⟩
          rw [upd_same, show quo p c (sq xs) (sq ys) (i + 1) = quo p c (sq xs) (sq ys) i ++ [_] from rfl, List.map_append]
          rfl
    · obtain ⟨z1, z2, rfl, e, hq⟩ := hP
      rw [hc] at q
      exact s_ret (ev_var rfl) fun H3 e3 => q l H3 nl0 (e.trans e3) (e3 l _ hq)
theorem spl_quotient {H : Hp} {p : Int} {a b : Addr} {xs ys : List Int} (hp : Prm p) (ha : SqL K H a (xs.map V.int)) (hb : SqL K H b (ys.map V.int)) (l2 : 1 ≤ ys.length) (b0 : 0 ≤ sq ys 0) (b1 : sq ys 0 < p) (u1 : xs.length ≤ 1000) : SpL (spQuotient K) [.int p, .ref a, .ref b] H ((quo p (inv p (sq ys 0)) (sq xs) (sq ys) (min xs.length ys.length)).map V.int) :=
  fun H1 e Q q E => ⟨p, a, b, xs, ys, rfl, hp, ex_l e ha, ex_l e hb, l2, b0, b1, u1, q⟩

/-! ### parted, where there is no part -/
def spPartedX (C : Addr) : Sp := fun vs H Q E => ∃ (p : Int) (a b : Addr) (xs ys : List Int), vs = [.int p, .ref a, .ref b] ∧ Prm p ∧ H a = some (.lst (xs.map V.int)) ∧ H b = some (.lst (ys.map V.int)) ∧ Rowp p xs ∧ Rowp p ys ∧ sq ys 0 = 0 ∧ ∀ H1, Ex H H1 → E (.ref C) none H1
theorem ok_parted_x {f : Addr} {fd : FuncData} (D : Dat K mg "parted" s_parted ["prime", "one", "other"] f fd) {a_PRIMES : Addr} {t_MOST_CUT : Tok} {t_MOST_RULED : Tok} {t_MOST_PLACES : Tok} {t_MOST_TERMS : Tok} {a_PowerError : Addr} {a_BadPrime : Addr} {a_BadRow : Addr} {a_BadCount : Addr} {a_BadRule : Addr} {a_BadPlaces : Addr} {a_BadTerms : Addr} {a_NoPart : Addr} {a_NoInside : Addr} {a_NoRoot : Addr} {a_Answer : Addr} {a_Alike : Addr} {a_Unlike : Addr} {a_Ruled : Addr} {a_Barred : Addr} (B : Blt K mg a_PRIMES t_MOST_CUT t_MOST_RULED t_MOST_PLACES t_MOST_TERMS a_PowerError a_BadPrime a_BadRow a_BadCount a_BadRule a_BadPlaces a_BadTerms a_NoPart a_NoInside a_NoRoot a_Answer a_Alike a_Unlike a_Ruled a_Barred) (X_NoPart : ExcF K a_NoPart) (C_need_prime_and_rows : Cal P w K mg base CX0 "need_prime_and_rows" 6 ["prime", "one", "other"] spNeedBoth) : Cal P w K mg base (L2N.CX P w) "parted" 10 ["prime", "one", "other"] (spPartedX a_NoPart) := by
  refine D.cal (okN D.F sc_parted (fun vs H Q E h => ?_) (fun cdv A outer s H vs Q E hr h => ?_))
  · obtain ⟨p, a, b, xs, ys, rfl, _⟩ := h
    rfl
  · obtain ⟨p, a, b, xs, ys, rfl, hp, ha, hb, R1, R2, h0, q⟩ := h
    have l2 := R2.lo
    refine ⟨_, (pss_cons (ps_expr (pe_c0 C_need_prime_and_rows (hr.mono (by decide)) (pa_cons (pv 0) (pa_cons (pv 1) (pa_cons (pv 2) pa_nil)))))
    (pss_cons (ps_if (pt_cmpR op_eq (pe_ix (r := rIxL K) ix_list (pv 2) pe_int (fun _ _ => rfl)) pe_int (nomark _)) (pss_one (L2N.ps_raise rfl (L2N.takes_of rfl rfl rfl rfl) (L2N.pmk_own PySem.F.excBase_ValueError X_NoPart.exc B.NoPart B.NoPart_k (raises_own X_NoPart.sb X_NoPart.ty) rfl))) pss_nil)
    pss_never)), ?_⟩
    refine q_drop (ev_call (by walk_at "ev") (spv_need_both hp ha hb R1 R2)) fun H1 e1 => ?_
    refine q_when (b := true) (et_test (ev_is (ev_op (ev_op (ev_var rfl) ev_c (rv_at (ns := ys) (sq_of (e1 b _ hb)) (n := 0) rfl (by omega))) ev_c (rv_eq rfl)) ?_)) (fun _ H2 e2 => ?_) fun z => Bool.noConfusion z
    · rw [decide_eq_true]
      rw [h0]
    · exact q H2 (e1.trans e2)

/-! ### lesser_count, raised -/
def spLCount (K : PySem.W.Frag) : Sp := fun vs H Q _ => ∃ (p : Int) (a : Addr) (xs : List Int) (m : Int), vs = [.int p, .ref a, .int m] ∧ Prm p ∧ SqL K H a (xs.map V.int) ∧ Rowp p xs ∧ 0 ≤ m ∧ ∀ c : Int, 0 ≤ c → powL p xs m.toNat = powL p xs c.toNat → ∀ H1, Ex H H1 → Q (.int c) H1
theorem ok_lesser_count {f : Addr} {fd : FuncData} (D : Dat K mg "lesser_count" s_lesser_count ["prime", "row", "many"] f fd) {a_PRIMES : Addr} {t_MOST_CUT : Tok} {t_MOST_RULED : Tok} {t_MOST_PLACES : Tok} {t_MOST_TERMS : Tok} {a_PowerError : Addr} {a_BadPrime : Addr} {a_BadRow : Addr} {a_BadCount : Addr} {a_BadRule : Addr} {a_BadPlaces : Addr} {a_BadTerms : Addr} {a_NoPart : Addr} {a_NoInside : Addr} {a_NoRoot : Addr} {a_Answer : Addr} {a_Alike : Addr} {a_Unlike : Addr} {a_Ruled : Addr} {a_Barred : Addr} (B : Blt K mg a_PRIMES t_MOST_CUT t_MOST_RULED t_MOST_PLACES t_MOST_TERMS a_PowerError a_BadPrime a_BadRow a_BadCount a_BadRule a_BadPlaces a_BadTerms a_NoPart a_NoInside a_NoRoot a_Answer a_Alike a_Unlike a_Ruled a_Barred) : Cal P w K mg base CX0 "lesser_count" 1 ["prime", "row", "many"] (spLCount K) := by
  refine D.cal (D.F.ok sc_lesser_count (fun vs H Q E h => ?_) (fun cdv A outer s H vs Q E hr h => ?_))
  · obtain ⟨p, a, xs, m, rfl, _⟩ := h
    rfl
  · obtain ⟨p, a, xs, m, rfl, hp, ha, R, m0, q⟩ := h
    have p2 := hp.pos
    have lo := R.lo
    have hi := R.hi
    refine ⟨_, (pss_cons (ps_if (pt_cmpR op_eq (pe_ix (r := rIxL K) ix_list (pv 1) pe_int (fun _ _ => rfl)) pe_int (nomark _)) (pss_one (ps_ret (pe_callB (call_min2 rfl) (by rfl) B.min (by decide +kernel) (pa_cons (pv 2) (pa_cons (pe_callB (r := rLenS K) call_len_seq (by rfl) B.len PySem.boot_len (pa_cons (pv 1) pa_nil)) pa_nil))))) pss_nil)
    (pss_cons (ps_set (i := 3) sc_lesser_count.nd rfl (Or.inl rfl) pe_int)
    (pss_cons (ps_while PassesOwn.never (pt_cmpR op_lt (pv 3) (pe_callB (r := rLenS K) call_len_seq (by rfl) B.len PySem.boot_len (pa_cons (pv 1) pa_nil)) (nomark _)) (pss_one (ps_set (i := 3) sc_lesser_count.nd rfl (Or.inl rfl) (pe_op op_mulV (pv 3) (pv 0)))))
    (pss_one (ps_ret (pe_op op_mod (pv 2) (pe_op op_mulV (pv 3) (pe_op op_sub (pv 0) pe_int)))))))), ?_⟩
    refine q_when (b := decide (sq xs 0 = 0)) (et_test (ev_is (ev_op (ev_op (ev_var rfl) ev_c (rv_at ha (n := 0) rfl (by omega))) ev_c (rv_eq rfl)) (by rw [dec_int]; rfl))) (fun h0 H1 e1 => ?_) fun h0 H1 e1 => ?_
    · have h0 := of_decide_eq_true h0
      refine s_ret (ev_cb (ea_cons (ev_var rfl) (ea_cons (ev_cb (by walk_at "ev") (rc_lenI (ex_l e1 ha))) ea_nil)) rc_min) fun H2 e2 => q _ ?_ ?_ H2 (e1.trans e2)
      · split <;> omega
      · rw [powL_low h0]
        congr 1
        split <;> omega
    · have h0 := of_decide_eq_false h0
      have pt : ((p.toNat : Nat) : Int) = p := Int.toNat_of_nonneg (by omega)
      refine q_asg (v := .int 1) ev_c fun H2 e2 => ?_
      refine q_while (fun μ σ' H' => ∃ k : Nat, σ' = [some (.int p), some (.ref a), some (.int m), some (.int ((p.toNat ^ k : Nat) : Int))] ∧ Ex H H' ∧ μ = 4000 - p.toNat ^ k ∧ 1 ≤ p.toNat ^ k ∧ p.toNat ^ k ≤ 2000) (4000 - 1) ⟨0, rfl, e1.trans e2, rfl, Nat.le_refl _, by rw [Nat.pow_zero]; decide⟩ fun μ σ' H' hW => ?_
      obtain ⟨k, rfl, e, rfl, k1, k2⟩ := hW
      generalize hP : p.toNat ^ k = P at k1 k2
      refine ⟨decide ((P : Int) < (xs.length : Int)), et_test (ev_op (ev_var rfl) (ev_cb (by walk_at "ev") (rc_lenI (ex_l e ha))) rv_I0), fun hb H3 e3 => ?_, fun hb H3 e3 => ?_⟩
      · have hb := of_decide_eq_true hb
        have hk : p.toNat ^ (k + 1) = P * p.toNat := by rw [Nat.pow_succ, hP]
        have g1 : P * p.toNat ≤ 20 * 97 := Nat.mul_le_mul (by omega) (by omega)
        have g2 : P * 2 ≤ P * p.toNat := Nat.mul_le_mul_left P (by omega)
        refine ⟨fun σ2 H2 => ∃ k : Nat, σ2 = [some (.int p), some (.ref a), some (.int m), some (.int ((p.toNat ^ k : Nat) : Int))] ∧ Ex H H2 ∧ p.toNat ^ k = P * p.toNat, fun σ2 H2 hN => ?_, ?_⟩
        · obtain ⟨k', rfl, e', hk'⟩ := hN
          exact ⟨4000 - p.toNat ^ k', by omega, k', rfl, e', rfl, by omega, by omega⟩
        · refine s_asg (v := .int ((p.toNat ^ (k + 1) : Nat) : Int)) (ev_is (ev_op (ev_var rfl) (ev_var rfl) (rv_I (mul_r (by omega)))) ?_) fun H4 e4 => ⟨k + 1, rfl, (e.trans e3).trans e4, hk⟩
          show V.int ((P : Int) * p) = V.int ((p.toNat ^ (k + 1) : Nat) : Int)
          rw [hk, Int.natCast_mul, pt]
      · have hb := of_decide_eq_false hb
        have q1 : (1 : Int) ≤ (P : Int) * (p - 1) := Int.le_trans (by omega) (Int.mul_le_mul (show (1 : Int) ≤ P by omega) (show (1 : Int) ≤ p - 1 by omega) (by decide) (by omega))
        refine s_ret (ev_op (ev_var rfl) (ev_op (ev_var rfl) (ev_op (ev_var rfl) ev_c rv_I0) (rv_I (mul_r (by omega)))) (rv_I (by show (0 : Int) < (P : Int) * (p - 1); omega))) fun H4 e4 => q _ (Int.emod_nonneg _ (by show (P : Int) * (p - 1) ≠ 0; omega)) ?_ H4 ((e.trans e3).trans e4)
        have r0 := R.em (n := 0) (by omega)
        rw [powL_turn hp (by rw [r0]; exact h0) k m.toNat (by omega), hP]
        congr 1
        have em : ((m.toNat : Nat) : Int) = m := Int.toNat_of_nonneg m0
        have ep : (((p - 1).toNat : Nat) : Int) = p - 1 := Int.toNat_of_nonneg (by omega)
        have : ((m.toNat % (P * (p - 1).toNat) : Nat) : Int) = m % ((P : Int) * (p - 1)) := by rw [Int.natCast_emod, Int.natCast_mul, em, ep]
        rw [← this, Int.toNat_natCast]
def spRaised : Sp := fun vs H Q _ => ∃ (p : Int) (a : Addr) (xs : List Int) (m : Int), vs = [.int p, .ref a, .int m] ∧ Prm p ∧ H a = some (.lst (xs.map V.int)) ∧ Rowp p xs ∧ 0 ≤ m ∧ RetL ((powL p xs m.toNat).map V.int) H Q
theorem ok_raised {f : Addr} {fd : FuncData} (D : Dat K mg "raised" s_raised ["prime", "row", "many"] f fd) {a_PRIMES : Addr} {t_MOST_CUT : Tok} {t_MOST_RULED : Tok} {t_MOST_PLACES : Tok} {t_MOST_TERMS : Tok} {a_PowerError : Addr} {a_BadPrime : Addr} {a_BadRow : Addr} {a_BadCount : Addr} {a_BadRule : Addr} {a_BadPlaces : Addr} {a_BadTerms : Addr} {a_NoPart : Addr} {a_NoInside : Addr} {a_NoRoot : Addr} {a_Answer : Addr} {a_Alike : Addr} {a_Unlike : Addr} {a_Ruled : Addr} {a_Barred : Addr} (B : Blt K mg a_PRIMES t_MOST_CUT t_MOST_RULED t_MOST_PLACES t_MOST_TERMS a_PowerError a_BadPrime a_BadRow a_BadCount a_BadRule a_BadPlaces a_BadTerms a_NoPart a_NoInside a_NoRoot a_Answer a_Alike a_Unlike a_Ruled a_Barred) (C_need_prime : Cal P w K mg base CX0 "need_prime" 2 ["prime"] spNeedPrime) (C_need_row : Cal P w K mg base CX0 "need_row" 5 ["prime", "row"] spNeedRow) (C_need_count : Cal P w K mg base CX0 "need_count" 2 ["many"] spNeedCount)
    (C_lesser_count : Cal P w K mg base CX0 "lesser_count" 1 ["prime", "row", "many"] (spLCount K)) (C_product : Cal P w K mg base CX0 "product" 2 ["prime", "one", "other"] (spProduct K)) : Cal P w K mg base CX0 "raised" 10 ["prime", "row", "many"] spRaised := by
  refine D.cal (D.F.ok sc_raised (fun vs H Q E h => ?_) (fun cdv A outer s H vs Q E hr h => ?_))
  · obtain ⟨p, a, xs, m, rfl, _⟩ := h
    rfl
  · obtain ⟨p, a, xs, m, rfl, hp, ha, R, m0, q⟩ := h
    have p2 := hp.pos
    have lo := R.lo
    have hi := R.hi
    refine ⟨_, (pss_cons (ps_expr (pe_c0 C_need_prime (hr.mono (by decide)) (pa_cons (pv 0) pa_nil)))
    (pss_cons (ps_expr (pe_c0 C_need_row (hr.mono (by decide)) (pa_cons (pv 0) (pa_cons (pv 1) pa_nil))))
    (pss_cons (ps_expr (pe_c0 C_need_count (hr.mono (by decide)) (pa_cons (pv 2) pa_nil)))
    (pss_cons (ps_set (i := 3) sc_raised.nd rfl (Or.inl rfl) (pe_c0 C_lesser_count (hr.mono (by decide)) (pa_cons (pv 0) (pa_cons (pv 1) (pa_cons (pv 2) pa_nil)))))
    (pss_cons (ps_set (i := 4) sc_raised.nd rfl (Or.inl rfl) (pe_op op_cat (pe_lst (pa_cons pe_int pa_nil)) (pe_op op_rep (pe_lst (pa_cons pe_int pa_nil)) (pe_op op_sub (pe_callB (r := rLenS K) call_len_seq (by rfl) B.len PySem.boot_len (pa_cons (pv 1) pa_nil)) pe_int))))
    (pss_cons (ps_set (i := 5) sc_raised.nd rfl (Or.inl rfl) (pv 1))
    (pss_cons (ps_while PassesOwn.never (pt_cmpR op_gt (pv 3) pe_int (nomark _)) (pss_cons (ps_if (pt_cmpR op_eq (pe_op op_mod (pv 3) pe_int) pe_int (nomark _)) (pss_one (ps_set (i := 4) sc_raised.nd rfl (Or.inl rfl) (pe_c0 C_product (hr.mono (by decide)) (pa_cons (pv 0) (pa_cons (pv 4) (pa_cons (pv 5) pa_nil)))))) pss_nil)
    (pss_cons (ps_set (i := 5) sc_raised.nd rfl (Or.inl rfl) (pe_c0 C_product (hr.mono (by decide)) (pa_cons (pv 0) (pa_cons (pv 5) (pa_cons (pv 5) pa_nil)))))
    (pss_one (ps_set (i := 3) sc_raised.nd rfl (Or.inl rfl) (pe_op op_fdiv (pv 3) pe_int))))))
    (pss_one (ps_ret (pv 4)))))))))), ?_⟩
    refine q_drop (ev_call (by walk_at "ev") (spv_need_prime hp)) fun H1 e1 => q_drop (ev_call (by walk_at "ev") (spv_need_row (e1 a _ ha) R)) fun H2 e2 => q_drop (ev_call (by walk_at "ev") (spv_need_count m0)) fun H3 e3 => ?_
    have e13 := (e1.trans e2).trans e3
    refine q_asgC (vs := [.int p, .ref a, .int m]) (by walk_at "ev") fun H4 e4 => ⟨p, a, xs, m, rfl, hp, sq_of (e4 a _ (e13 a _ ha)), R, m0, fun c c0 hc H5 e5 => ?_⟩
    have e15 := (e13.trans e4).trans e5
    have ha5 := e15 a _ ha
    rw [hc] at q
    have PR : ∀ k, Rowp p (powL p xs k) := fun k => powL_rowp (by omega) R k
    have PS : ∀ k, Sml (powL p xs k) := fun k => (PR k).sml (by omega)
    refine q_asgL (xs := (powL p xs 0).map V.int) (el_is (el_catLL (el_lst (ea_cons ev_c ea_nil) (by decide)) (el_rep (n := ((xs.length - 1 : Nat) : Int)) (el_lst (ea_cons ev_c ea_nil) (by decide)) (ev_is (ev_op (ev_cb (by walk_at "ev") (rc_lenI (sq_of ha5))) ev_c rv_I0) (by show V.int _ = V.int _; congr 1; omega)) (by omega) rfl) ?_) ?_) fun t H6 nt e6 ht => ?_
    · rw [Int.toNat_natCast, rep_one, List.length_replicate]
      show 1 + (xs.length - 1) ≤ 100000
      omega
    · rw [Int.toNat_natCast, rep_one, powL_zero (by omega) lo, List.map_cons, List.map_replicate]
      rfl
    have nt0 : H t = none := fresh_back e15 nt
    refine q_asg (v := .ref a) (ev_var rfl) fun H7 e7 => ?_
    refine q_while (fun μ σ' H' => ∃ (l : Nat) (t s : Addr) (i j : Nat), μ = l ∧ σ' = [some (.int p), some (.ref a), some (.int m), some (.int (l : Int)), some (.ref t), some (.ref s)] ∧ Ex H H' ∧ H t = none ∧ H' t = some (.lst ((powL p xs i).map V.int)) ∧ H' s = some (.lst ((powL p xs j).map V.int)) ∧ i + j * l = c.toNat) c.toNat
      ⟨c.toNat, t, a, 0, 1, rfl, ?_, (e15.trans e6).trans e7, nt0, e7 t _ ht, ?_, by omega⟩ fun μ σ' H' hW => ?_
    · rw [Int.toNat_of_nonneg c0]
      rfl
    · rw [powL_one R]
      exact e7 a _ (e6 a _ ha5)
    · obtain ⟨l, t, s, i, j, el, rfl, e, nt, ht, hs, hij⟩ := hW
      have el := el.symm
      subst el
      refine ⟨decide ((0 : Int) < (l : Int)), et_test (ev_op (ev_var rfl) ev_c rv_I0), fun hb H8 e8 => ?_, fun hb H8 e8 => ?_⟩
      · have hb := of_decide_eq_true hb
        have ht8 := e8 t _ ht
        have hs8 := e8 s _ hs
        -- whatever told becomes
        have step : ∀ (t' : Addr) (i' : Nat) (H9 : Hp), Ex H8 H9 → H t' = none → H9 t' = some (.lst ((powL p xs i').map V.int)) → i' + j * (l / 2 * 2) = c.toNat →
            tSeq (tAsg (tCall (spProduct K) [] E0 (tCons (tVar 0) (tCons (tVar 5) (tCons (tVar 5) tNil)))) (gName 5)) (tAsg (tOp (rI CDiv fun i j => V.int (i / j)) (tVar 3) (tC (.int 2))) (gName 3))
              { nx := fun σ2 H2 => ∃ (l2 : Nat) (t s : Addr) (i j : Nat), l2 < l ∧ σ2 = [some (.int p), some (.ref a), some (.int m), some (.int (l2 : Int)), some (.ref t), some (.ref s)] ∧ Ex H H2 ∧ H t = none ∧ H2 t = some (.lst ((powL p xs i).map V.int)) ∧ H2 s = some (.lst ((powL p xs j).map V.int)) ∧ i + j * l2 = c.toNat, rt := Q,
                ct := fun σ2 H2 => ∃ (l2 : Nat) (t s : Addr) (i j : Nat), l2 < l ∧ σ2 = [some (.int p), some (.ref a), some (.int m), some (.int (l2 : Int)), some (.ref t), some (.ref s)] ∧ Ex H H2 ∧ H t = none ∧ H2 t = some (.lst ((powL p xs i).map V.int)) ∧ H2 s = some (.lst ((powL p xs j).map V.int)) ∧ i + j * l2 = c.toNat,
                bk := fun σ' H' => tRet (tVar 4) { nx := fun _ H' => Q .non H', rt := Q } σ' H' }
              [some (.int p), some (.ref a), some (.int m), some (.int (l : Int)), some (.ref t'), some (.ref s)] H9 := fun t' i' H9 e9 nt' ht' hij' => by
          refine q_asgL (xs := (powL p xs (j + j)).map V.int) (el_call (by walk_at "ev") ?_) fun s2 H10 n10 e10 hs2 => ?_
          · have g := spl_product (K := K) (p := p) (xs := powL p xs j) (ys := powL p xs j) (by omega) (sq_of (e9 s _ hs8)) (sq_of (e9 s _ hs8)) (PS j) (by rw [powL_len]; omega)
            rw [powL_mul] at g
            exact g
          · refine s_asg (v := .int ((l / 2 : Nat) : Int)) (ev_is (ev_op (ev_var rfl) ev_c (rv_I (by walk_at "cond"))) (by show V.int _ = V.int _; congr 1)) fun H11 e11 => ?_
            refine ⟨l / 2, t', s2, i', j + j, by omega, rfl, (((e.trans e8).trans e9).trans e10).trans e11, nt', e11 t' _ (e10 t' _ ht'), e11 s2 _ hs2, ?_⟩
            rw [← hij', ← Nat.two_mul, Nat.mul_comm (l / 2) 2, ← Nat.mul_assoc, Nat.mul_comm 2 j]
        refine ⟨fun σ2 H2 => ∃ (l2 : Nat) (t s : Addr) (i j : Nat), l2 < l ∧ σ2 = [some (.int p), some (.ref a), some (.int m), some (.int (l2 : Int)), some (.ref t), some (.ref s)] ∧ Ex H H2 ∧ H t = none ∧ H2 t = some (.lst ((powL p xs i).map V.int)) ∧ H2 s = some (.lst ((powL p xs j).map V.int)) ∧ i + j * l2 = c.toNat, fun σ2 H2 hN => ?_, ?_⟩
        · obtain ⟨l2, t, s, i, j, hl, h1, h2, h3, h4, h5, h6⟩ := hN
          exact ⟨l2, hl, l2, t, s, i, j, rfl, h1, h2, h3, h4, h5, h6⟩
        · refine q_when (b := decide (l % 2 = 1)) (et_test (ev_is (ev_op (x := .int ((l % 2 : Nat) : Int)) (ev_is (ev_op (ev_var rfl) ev_c (rv_I (by walk_at "cond"))) (by show V.int _ = V.int _; congr 1)) ev_c (rv_eq rfl)) ?_)) (fun ho H9 e9 => ?_) fun ho H9 e9 => ?_
          · rw [dec_int]
            congr 1
            by_cases o : l % 2 = 1
            · rw [decide_eq_true o, o]
              rfl
            · rw [decide_eq_false o, beq_eq_false_iff_ne]
              omega
          · have ho := of_decide_eq_true ho
            refine s_asgL (xs := (powL p xs (i + j)).map V.int) (el_call (by walk_at "ev") ?_) fun t2 H10 n10 e10 ht2 => ?_
            · have g := spl_product (K := K) (p := p) (xs := powL p xs i) (ys := powL p xs j) (by omega) (sq_of (e9 t _ ht8)) (sq_of (e9 s _ hs8)) (PS i) (by rw [powL_len]; omega)
              rw [powL_mul] at g
              exact g
            · refine step t2 (i + j) H10 (e9.trans e10) (fresh_back ((e.trans e8).trans e9) n10) ht2 ?_
              have : l = l / 2 * 2 + 1 := by omega
              rw [← hij]
              conv => rhs; rw [this, Nat.mul_add, Nat.mul_one]
              omega
          · have ho := of_decide_eq_false ho
            refine step t i H9 e9 nt (e9 t _ ht8) ?_
            have : l = l / 2 * 2 := by omega
            rw [← this]
            exact hij
      · have hb := of_decide_eq_false hb
        have l0 : l = 0 := by omega
        subst l0
        rw [Nat.mul_zero, Nat.add_zero] at hij
        rw [hij] at ht
        exact s_ret (ev_var rfl) fun H9 e9 => q t H9 nt ((e.trans e8).trans e9) (e9 t _ (e8 t _ ht))
theorem spl_raised {H : Hp} {p : Int} {a : Addr} {xs : List Int} {m : Int} (hp : Prm p) (ha : H a = some (.lst (xs.map V.int))) (R : Rowp p xs) (m0 : 0 ≤ m) : SpL spRaised [.int p, .ref a, .int m] H ((powL p xs m.toNat).map V.int) :=
  fun H1 e Q q E => ⟨p, a, xs, m, rfl, hp, e a _ ha, R, m0, q⟩

/-! ### lesser_root, root -/
def spLRoot : Sp := fun vs H Q _ => ∃ (p r : Int), vs = [.int p, .int r] ∧ 2 ≤ p ∧ p ≤ 97 ∧ RetV (.int (lroot p r)) H Q
theorem ok_lesser_root {f : Addr} {fd : FuncData} (D : Dat K mg "lesser_root" s_lesser_root ["prime", "rest"] f fd) {a_PRIMES : Addr} {t_MOST_CUT : Tok} {t_MOST_RULED : Tok} {t_MOST_PLACES : Tok} {t_MOST_TERMS : Tok} {a_PowerError : Addr} {a_BadPrime : Addr} {a_BadRow : Addr} {a_BadCount : Addr} {a_BadRule : Addr} {a_BadPlaces : Addr} {a_BadTerms : Addr} {a_NoPart : Addr} {a_NoInside : Addr} {a_NoRoot : Addr} {a_Answer : Addr} {a_Alike : Addr} {a_Unlike : Addr} {a_Ruled : Addr} {a_Barred : Addr} (B : Blt K mg a_PRIMES t_MOST_CUT t_MOST_RULED t_MOST_PLACES t_MOST_TERMS a_PowerError a_BadPrime a_BadRow a_BadCount a_BadRule a_BadPlaces a_BadTerms a_NoPart a_NoInside a_NoRoot a_Answer a_Alike a_Unlike a_Ruled a_Barred) : Cal P w K mg base CX0 "lesser_root" 1 ["prime", "rest"] spLRoot := by
  refine D.cal (D.F.ok sc_lesser_root (fun vs H Q E h => ?_) (fun cdv A outer s H vs Q E hr h => ?_))
  · obtain ⟨p, r, rfl, _⟩ := h
    rfl
  · obtain ⟨p, r, rfl, p2, p97, q⟩ := h
    refine ⟨_, (pss_cons (ps_for PassesOwn.never rfl (pi_range2 rfl B.range (pa_cons pe_int (pa_cons (pe_op op_add (pe_op op_fdiv (pv 0) pe_int) pe_int) pa_nil))) (pg_name (i := 2) sc_lesser_root.nd rfl (Or.inl rfl)) (pss_one (ps_if (pt_cmpR op_eq (pe_op op_mod (pe_op op_mulV (pv 2) (pv 2)) (pv 0)) (pv 1) (nomark _)) (pss_one (ps_ret (pv 2))) pss_nil)))
    (pss_one (ps_ret pe_int))), ?_⟩
    refine q_forR2 (lo := 1) (n := p / 2 + 1) (by walk_at "ev") (by omega) (fun i σ' H' => ∃ z, σ' = [some (.int p), some (.int r), z] ∧ Ex H H' ∧ ∀ j : Nat, j < i → ((fun l : Int => l * l % p == r) ((j : Int) + 1)) = false) (fun H1 e1 => ⟨_, rfl, e1, fun j hj => absurd hj (Nat.not_lt_zero _)⟩) (fun i σ' H' hi hP => ?_) fun σ' H' hP => ?_
    · obtain ⟨z, rfl, e, hj⟩ := hP
      refine s_when (b := ((fun l : Int => l * l % p == r) ((i : Int) + 1))) (et_test (ev_is (ev_op (ev_op (ev_op (ev_var rfl) (ev_var rfl) (rv_I (mul_l (by omega)))) (ev_var rfl) (rv_I (by walk_at "cond"))) (ev_var rfl) (rv_eq rfl)) ?_)) (fun hb H1 e1 => ?_) fun hb H1 e1 => ?_
      · rw [dec_int, Int.add_comm 1]
      · refine s_ret (v := .int (lroot p r)) (ev_is (ev_var rfl) ?_) fun H2 e2 => q H2 ((e.trans e1).trans e2)
        show V.int (1 + (i : Int)) = V.int (lroot p r)
        unfold lroot
        rw [find_range (i := i) (f := fun (i : Nat) => (i : Int) + 1) (by omega) hj hb, Int.add_comm 1]
        rfl
      · refine ⟨_, rfl, e.trans e1, fun j hj2 => ?_⟩
        by_cases c : j = i
        · rw [c]
          exact hb
        · exact hj j (by omega)
    · obtain ⟨z, rfl, e, hj⟩ := hP
      refine s_ret (v := .int (lroot p r)) (ev_is ev_c ?_) fun H2 e2 => q H2 (e.trans e2)
      unfold lroot
      rw [find_none (f := fun (i : Nat) => (i : Int) + 1) fun j h => hj j (by omega)]
      rfl
theorem spv_lesser_root {H : Hp} {p r : Int} (p2 : 2 ≤ p) (p97 : p ≤ 97) : SpV spLRoot [.int p, .int r] H (.int (lroot p r)) := fun H1 e Q q E => ⟨p, r, rfl, p2, p97, q⟩
def spRoot : Sp := fun vs H Q _ => ∃ (p : Int) (a : Addr) (xs : List Int), vs = [.int p, .ref a] ∧ Prm p ∧ H a = some (.lst (xs.map V.int)) ∧ Rowp p xs ∧ p ≠ 2 ∧ lroot p (sq xs 0) ≠ 0 ∧ RetL ((rootL p xs).map V.int) H Q
theorem ok_root {f : Addr} {fd : FuncData} (D : Dat K mg "root" s_root ["prime", "row"] f fd) {a_PRIMES : Addr} {t_MOST_CUT : Tok} {t_MOST_RULED : Tok} {t_MOST_PLACES : Tok} {t_MOST_TERMS : Tok} {a_PowerError : Addr} {a_BadPrime : Addr} {a_BadRow : Addr} {a_BadCount : Addr} {a_BadRule : Addr} {a_BadPlaces : Addr} {a_BadTerms : Addr} {a_NoPart : Addr} {a_NoInside : Addr} {a_NoRoot : Addr} {a_Answer : Addr} {a_Alike : Addr} {a_Unlike : Addr} {a_Ruled : Addr} {a_Barred : Addr} (B : Blt K mg a_PRIMES t_MOST_CUT t_MOST_RULED t_MOST_PLACES t_MOST_TERMS a_PowerError a_BadPrime a_BadRow a_BadCount a_BadRule a_BadPlaces a_BadTerms a_NoPart a_NoInside a_NoRoot a_Answer a_Alike a_Unlike a_Ruled a_Barred) (C_need_prime : Cal P w K mg base CX0 "need_prime" 2 ["prime"] spNeedPrime) (C_need_row : Cal P w K mg base CX0 "need_row" 5 ["prime", "row"] spNeedRow)
    (C_lesser_root : Cal P w K mg base CX0 "lesser_root" 1 ["prime", "rest"] spLRoot) (C_inverse : Cal P w K mg base CX0 "inverse" 1 ["prime", "rest"] spInverse) : Cal P w K mg base CX0 "root" 10 ["prime", "row"] spRoot := by
  refine D.cal (D.F.ok sc_root (fun vs H Q E h => ?_) (fun cdv A outer s H vs Q E hr h => ?_))
  · obtain ⟨p, a, xs, rfl, _⟩ := h
    rfl
  · obtain ⟨p, a, xs, rfl, hp, ha, R, hp2, hl, q⟩ := h
    have p2 := hp.pos
    have po := odd_half hp hp2
    have lo := R.lo
    have hi := R.hi
    have ls := lroot_some hl
    refine ⟨_, (pss_cons (ps_expr (pe_c0 C_need_prime (hr.mono (by decide)) (pa_cons (pv 0) pa_nil)))
    (pss_cons (ps_expr (pe_c0 C_need_row (hr.mono (by decide)) (pa_cons (pv 0) (pa_cons (pv 1) pa_nil))))
    (pss_cons (ps_if (pt_cmpR op_eq (pv 0) pe_int (nomark _)) (pss_one ps_never) pss_nil)
    (pss_cons (ps_set (i := 2) sc_root.nd rfl (Or.inl rfl) (pe_c0 C_lesser_root (hr.mono (by decide)) (pa_cons (pv 0) (pa_cons (pe_ix (r := rIxL K) ix_list (pv 1) pe_int (fun _ _ => rfl)) pa_nil))))
    (pss_cons (ps_if (pt_cmpR op_eq (pv 2) pe_int (nomark _)) (pss_one ps_never) pss_nil)
    (pss_cons (ps_set (i := 3) sc_root.nd rfl (Or.inl rfl) (pe_c0 C_inverse (hr.mono (by decide)) (pa_cons (pv 0) (pa_cons (pe_op op_mulV pe_int (pv 2)) pa_nil))))
    (pss_cons (ps_set (i := 4) sc_root.nd rfl (Or.inr rfl) (pe_lst (pa_cons (pv 2) pa_nil)))
    (pss_cons (ps_for PassesOwn.never rfl (pi_range2 rfl B.range (pa_cons pe_int (pa_cons (pe_callB (r := rLenS K) call_len_seq (by rfl) B.len PySem.boot_len (pa_cons (pv 1) pa_nil)) pa_nil))) (pg_name (i := 5) sc_root.nd rfl (Or.inr rfl)) (pss_cons (ps_set (i := 6) sc_root.nd rfl (Or.inl rfl) (pe_callB (r := rSum K) (cr_sum rfl) (by rfl) B.sum (by decide +kernel) (pa_cons (pe_lc (own := [("at", 7)]) (g := gName 7) (tt := tYes) (by rfl) sc_root.nd (pi_range2 rfl B.range (pa_cons pe_int (pa_cons (pv 5) pa_nil))) (blkOk_by (N := nm_root) (sc := defScope s_root) (by decide +kernel)) (fun _ _ _ _ _ => pg_name (i := 7) sc_root.nd rfl (Or.inl rfl)) (fun _ _ _ _ _ => pts_nil) (fun _ _ _ _ _ => (pe_op op_mulV (pe_ix (r := rIxL K) ix_list (pv 4) (pv 7) (fun _ _ => rfl)) (pe_ix (r := rIxL K) ix_list (pv 4) (pe_op op_sub (pv 5) (pv 7)) (fun _ _ => rfl))))) pa_nil)))
    (pss_one (ps_expr (pe_bm PySem.F.plainAttrs_list PySem.F.slot_list_append PySem.F.type_list_append mt_append (pv 4) (pa_cons (pe_op op_mod (pe_op op_mulV (pe_op op_sub (pe_ix (r := rIxL K) ix_list (pv 1) (pv 5) (fun _ _ => rfl)) (pv 6)) (pv 3)) (pv 0)) pa_nil))))))
    (pss_one (ps_ret (pv 4))))))))))), ?_⟩
    refine q_drop (ev_call (by walk_at "ev") (spv_need_prime hp)) fun H1 e1 => q_drop (ev_call (by walk_at "ev") (spv_need_row (e1 a _ ha) R)) fun H2 e2 => ?_
    refine q_when (b := false) (et_test (ev_is (ev_op (ev_var rfl) ev_c (rv_eq rfl)) ?_)) (fun z => Bool.noConfusion z) fun _ H3 e3 => ?_
    · rw [decide_eq_false]
      exact fun z => hp2 (V.int.inj z)
    have e13 := (e1.trans e2).trans e3
    refine q_asg (v := .int (lroot p (sq xs 0))) (ev_call (ea_cons (ev_var rfl) (ea_cons (ev_op (ev_var rfl) ev_c (rv_at (sq_of (e13 a _ ha)) (n := 0) rfl (by omega))) ea_nil)) (spv_lesser_root p2.1 p2.2)) fun H4 e4 => ?_
    refine q_when (b := false) (et_test (ev_is (ev_op (ev_var rfl) ev_c (rv_eq rfl)) ?_)) (fun z => Bool.noConfusion z) fun _ H5 e5 => ?_
    · rw [decide_eq_false]
      exact fun z => hl (V.int.inj z)
    have e15 := (e13.trans e4).trans e5
    generalize hF : lroot p (sq xs 0) = F at ls
    refine q_asg (v := .int (inv p (2 * F))) (ev_call (ea_cons (ev_var rfl) (ea_cons (ev_op ev_c (ev_var rfl) (rv_I (mul_l (by decide)))) ea_nil)) (spv_inverse hp (by omega) (by omega))) fun H6 e6 => ?_
    generalize hG : inv p (2 * F) = G
    have gb : 0 ≤ G ∧ G < p := by
      rw [← hG]
      exact powm_rest p2.1 _
    refine q_asgL (xs := [.int F]) (el_lst (ea_cons (ev_var rfl) ea_nil) (by show (1 : Nat) ≤ 100000; decide)) fun t H7 nt e7 ht => ?_
    have e17 := (e15.trans e6).trans e7
    have nt0 : H t = none := fresh_back (e15.trans e6) nt
    have ha7 := e17 a _ ha
    refine q_forR2 (lo := 1) (n := (xs.length : Int)) (ea_cons ev_c (ea_cons (ev_cb (by walk_at "ev") (rc_lenI (sq_of ha7))) ea_nil)) (by omega) (fun i σ' H' => ∃ z1 z2, σ' = [some (.int p), some (.ref a), some (.int F), some (.int G), some (.ref t), z1, z2, none] ∧ Ex H H' ∧ H' t = some (.lst ((rtL p G F (sq xs) i).map V.int)))
      (fun H8 e8 => ⟨_, _, rfl, e17.trans e8, e8 t _ ht⟩) (fun i σ' H' hi2 hP => ?_) fun σ' H' hP => ?_
    · obtain ⟨z1, z2, rfl, e, ht'⟩ := hP
      have hrest := rtL_rest (half := G) (f := sq xs) (show 0 < p by omega) (show 0 ≤ F ∧ F < p by omega) i
      have hlen := rtL_len p G F (sq xs) i
      refine q_asg (v := .int (((List.range i).map fun j => sq (rtL p G F (sq xs) i) (j + 1) * sq (rtL p G F (sq xs) i) (i - j)).sum)) (ev_cbL (el_int (n := i) (f := fun j => sq (rtL p G F (sq xs) i) (j + 1) * sq (rtL p G F (sq xs) i) (i - j)) (el_is (el_mapR2 (lo := 1) (n := 1 + (i : Int)) (fun j => V.int (sq (rtL p G F (sq xs) i) (j + 1) * sq (rtL p G F (sq xs) i) (i - j))) (by walk_at "ev") (by omega) (fun _ => rfl) fun j H8 e8 hj => ?_) ?_)) fun p3 H8 h8 e8 => ?_) fun H8 e8 => ?_
      · have m1 := hrest _ (sq_mem (n := j + 1) (by rw [hlen]; omega))
        exact ev_op (ev_op (ev_var rfl) (ev_var rfl) (rv_at (sq_of (e8 t _ ht')) (n := j + 1) (by omega) (by rw [hlen]; omega))) (ev_op (ev_var rfl) (by walk_at "ev") (rv_at (sq_of (e8 t _ ht')) (n := i - j) (by omega) (by rw [hlen]; omega))) (rv_I (mul_l (by omega)))
      · rw [show (1 + (i : Int) - 1).toNat = i by omega]
      · exact rc_sum (sq_of h8)
      · refine s_app (e8 t _ ht') (ev_var rfl) (ev_op (ev_op (ev_op (ev_op (ev_var rfl) (ev_var rfl) (rv_at (sq_of (e8 a _ (e a _ ha))) (n := i + 1) (by omega) (by omega))) (ev_var rfl) rv_I0) (ev_var rfl) (rv_I (mul_r (by omega)))) (ev_var rfl) (rv_I (by walk_at "cond"))) ?_ fun H9 e9 => ?_
        · rw [List.length_map, hlen]
          omega
        · refine ⟨_, _, rfl, Ex.mut ((e.trans e8).trans e9) nt0, ?_⟩
          rw [upd_same, show rtL p G F (sq xs) (i + 1) = rtL p G F (sq xs) i ++ [_] from rfl, List.map_append]
          rfl
    · obtain ⟨z1, z2, rfl, e, ht'⟩ := hP
      rw [show ((xs.length : Int) - 1).toNat = xs.length - 1 by omega] at ht'
      have er : rootL p xs = rtL p G F (sq xs) (xs.length - 1) := by
        unfold rootL
        rw [hF, hG]
      rw [← er] at ht'
      exact s_ret (ev_var rfl) fun H9 e9 => q t H9 nt0 (e.trans e9) (e9 t _ ht')
theorem spl_root {H : Hp} {p : Int} {a : Addr} {xs : List Int} (hp : Prm p) (ha : H a = some (.lst (xs.map V.int))) (R : Rowp p xs) (h2 : p ≠ 2) (hl : lroot p (sq xs 0) ≠ 0) : SpL spRoot [.int p, .ref a] H ((rootL p xs).map V.int) :=
  fun H1 e Q q E => ⟨p, a, xs, rfl, hp, e a _ ha, R, h2, hl, q⟩
/-! ### root, where there is none -/
def spRootX (C : Addr) : Sp := fun vs H Q E => ∃ (p : Int) (a : Addr) (xs : List Int), vs = [.int p, .ref a] ∧ Prm p ∧ H a = some (.lst (xs.map V.int)) ∧ Rowp p xs ∧ (p = 2 ∨ lroot p (sq xs 0) = 0) ∧ ∀ H1, Ex H H1 → E (.ref C) none H1
theorem ok_root_x {f : Addr} {fd : FuncData} (D : Dat K mg "root" s_root ["prime", "row"] f fd) {a_PRIMES : Addr} {t_MOST_CUT : Tok} {t_MOST_RULED : Tok} {t_MOST_PLACES : Tok} {t_MOST_TERMS : Tok} {a_PowerError : Addr} {a_BadPrime : Addr} {a_BadRow : Addr} {a_BadCount : Addr} {a_BadRule : Addr} {a_BadPlaces : Addr} {a_BadTerms : Addr} {a_NoPart : Addr} {a_NoInside : Addr} {a_NoRoot : Addr} {a_Answer : Addr} {a_Alike : Addr} {a_Unlike : Addr} {a_Ruled : Addr} {a_Barred : Addr} (B : Blt K mg a_PRIMES t_MOST_CUT t_MOST_RULED t_MOST_PLACES t_MOST_TERMS a_PowerError a_BadPrime a_BadRow a_BadCount a_BadRule a_BadPlaces a_BadTerms a_NoPart a_NoInside a_NoRoot a_Answer a_Alike a_Unlike a_Ruled a_Barred) (X_NoRoot : ExcF K a_NoRoot) (C_need_prime : Cal P w K mg base CX0 "need_prime" 2 ["prime"] spNeedPrime) (C_need_row : Cal P w K mg base CX0 "need_row" 5 ["prime", "row"] spNeedRow)
    (C_lesser_root : Cal P w K mg base CX0 "lesser_root" 1 ["prime", "rest"] spLRoot) : Cal P w K mg base (L2N.CX P w) "root" 10 ["prime", "row"] (spRootX a_NoRoot) := by
  refine D.cal (okN D.F sc_root (fun vs H Q E h => ?_) (fun cdv A outer s H vs Q E hr h => ?_))
  · obtain ⟨p, a, xs, rfl, _⟩ := h
    rfl
  · obtain ⟨p, a, xs, rfl, hp, ha, R, hc, q⟩ := h
    have p2 := hp.pos
    have lo := R.lo
    by_cases h2 : p = 2
    · refine ⟨_, (pss_cons (ps_expr (pe_c0 C_need_prime (hr.mono (by decide)) (pa_cons (pv 0) pa_nil)))
    (pss_cons (ps_expr (pe_c0 C_need_row (hr.mono (by decide)) (pa_cons (pv 0) (pa_cons (pv 1) pa_nil))))
    (pss_cons (ps_if (pt_cmpR op_eq (pv 0) pe_int (nomark _)) (pss_one (L2N.ps_raise rfl (L2N.takes_of rfl rfl rfl rfl) (L2N.pmk_own PySem.F.excBase_ValueError X_NoRoot.exc B.NoRoot B.NoRoot_k (raises_own X_NoRoot.sb X_NoRoot.ty) rfl))) pss_nil)
    pss_never))), ?_⟩
      refine q_drop (ev_call (by walk_at "ev") (spv_need_prime hp)) fun H1 e1 => q_drop (ev_call (by walk_at "ev") (spv_need_row (e1 a _ ha) R)) fun H2 e2 => ?_
      refine q_when (b := true) (et_test (ev_is (ev_op (ev_var rfl) ev_c (rv_eq rfl)) ?_)) (fun _ H3 e3 => ?_) fun z => Bool.noConfusion z
      · rw [decide_eq_true]
        rw [h2]
      · exact q H3 ((e1.trans e2).trans e3)
    · have hl : lroot p (sq xs 0) = 0 := hc.resolve_left h2
      refine ⟨_, (pss_cons (ps_expr (pe_c0 C_need_prime (hr.mono (by decide)) (pa_cons (pv 0) pa_nil)))
    (pss_cons (ps_expr (pe_c0 C_need_row (hr.mono (by decide)) (pa_cons (pv 0) (pa_cons (pv 1) pa_nil))))
    (pss_cons (ps_if (pt_cmpR op_eq (pv 0) pe_int (nomark _)) (pss_one ps_never) pss_nil)
    (pss_cons (ps_set (i := 2) sc_root.nd rfl (Or.inl rfl) (pe_c0 C_lesser_root (hr.mono (by decide)) (pa_cons (pv 0) (pa_cons (pe_ix (r := rIxL K) ix_list (pv 1) pe_int (fun _ _ => rfl)) pa_nil))))
    (pss_cons (ps_if (pt_cmpR op_eq (pv 2) pe_int (nomark _)) (pss_one (L2N.ps_raise rfl (L2N.takes_of rfl rfl rfl rfl) (L2N.pmk_own PySem.F.excBase_ValueError X_NoRoot.exc B.NoRoot B.NoRoot_k (raises_own X_NoRoot.sb X_NoRoot.ty) rfl))) pss_nil)
    pss_never))))), ?_⟩
      refine q_drop (ev_call (by walk_at "ev") (spv_need_prime hp)) fun H1 e1 => q_drop (ev_call (by walk_at "ev") (spv_need_row (e1 a _ ha) R)) fun H2 e2 => ?_
      refine q_when (b := false) (et_test (ev_is (ev_op (ev_var rfl) ev_c (rv_eq rfl)) ?_)) (fun z => Bool.noConfusion z) fun _ H3 e3 => ?_
      · rw [decide_eq_false]
        exact fun z => h2 (V.int.inj z)
      have e13 := (e1.trans e2).trans e3
      refine q_asg (v := .int (lroot p (sq xs 0))) (ev_call (ea_cons (ev_var rfl) (ea_cons (ev_op (ev_var rfl) ev_c (rv_at (sq_of (e13 a _ ha)) (n := 0) rfl (by omega))) ea_nil)) (spv_lesser_root p2.1 p2.2)) fun H4 e4 => ?_
      refine q_when (b := true) (et_test (ev_is (ev_op (ev_var rfl) ev_c (rv_eq rfl)) ?_)) (fun _ H5 e5 => ?_) fun z => Bool.noConfusion z
      · rw [decide_eq_true]
        rw [hl]
      · exact q H5 ((e13.trans e4).trans e5)

/-! ### put_in -/
def spPutIn : Sp := fun vs H Q _ => ∃ (p : Int) (a b : Addr) (xs ys : List Int), vs = [.int p, .ref a, .ref b] ∧ Prm p ∧ H a = some (.lst (xs.map V.int)) ∧ H b = some (.lst (ys.map V.int)) ∧ Rowp p xs ∧ Rowp p ys ∧ sq ys 0 = 0 ∧ RetL ((putL p xs ys).map V.int) H Q
theorem ok_put_in {f : Addr} {fd : FuncData} (D : Dat K mg "put_in" s_put_in ["prime", "outer", "inner"] f fd) {a_PRIMES : Addr} {t_MOST_CUT : Tok} {t_MOST_RULED : Tok} {t_MOST_PLACES : Tok} {t_MOST_TERMS : Tok} {a_PowerError : Addr} {a_BadPrime : Addr} {a_BadRow : Addr} {a_BadCount : Addr} {a_BadRule : Addr} {a_BadPlaces : Addr} {a_BadTerms : Addr} {a_NoPart : Addr} {a_NoInside : Addr} {a_NoRoot : Addr} {a_Answer : Addr} {a_Alike : Addr} {a_Unlike : Addr} {a_Ruled : Addr} {a_Barred : Addr} (B : Blt K mg a_PRIMES t_MOST_CUT t_MOST_RULED t_MOST_PLACES t_MOST_TERMS a_PowerError a_BadPrime a_BadRow a_BadCount a_BadRule a_BadPlaces a_BadTerms a_NoPart a_NoInside a_NoRoot a_Answer a_Alike a_Unlike a_Ruled a_Barred) (C_need_prime_and_rows : Cal P w K mg base CX0 "need_prime_and_rows" 6 ["prime", "one", "other"] spNeedBoth) (C_product : Cal P w K mg base CX0 "product" 2 ["prime", "one", "other"] (spProduct K)) : Cal P w K mg base CX0 "put_in" 10 ["prime", "outer", "inner"] spPutIn := by
  refine D.cal (D.F.ok sc_put_in (fun vs H Q E h => ?_) (fun cdv A outer s H vs Q E hr h => ?_))
  · obtain ⟨p, a, b, xs, ys, rfl, _⟩ := h
    rfl
  · obtain ⟨p, a, b, xs, ys, rfl, hp, ha, hb, R1, R2, h0, q⟩ := h
    have p2 := hp.pos
    have l1 := R1.lo
    have l2 := R2.lo
    have u1 := R1.hi
    refine ⟨_, (pss_cons (ps_expr (pe_c0 C_need_prime_and_rows (hr.mono (by decide)) (pa_cons (pv 0) (pa_cons (pv 1) (pa_cons (pv 2) pa_nil)))))
    (pss_cons (ps_if (pt_cmpR op_ne (pe_ix (r := rIxL K) ix_list (pv 2) pe_int (fun _ _ => rfl)) pe_int (nomark _)) (pss_one ps_never) pss_nil)
    (pss_cons (ps_set (i := 3) sc_put_in.nd rfl (Or.inl rfl) (pe_callB (call_min2 rfl) (by rfl) B.min (by decide +kernel) (pa_cons (pe_callB (r := rLenS K) call_len_seq (by rfl) B.len PySem.boot_len (pa_cons (pv 1) pa_nil)) (pa_cons (pe_callB (r := rLenS K) call_len_seq (by rfl) B.len PySem.boot_len (pa_cons (pv 2) pa_nil)) pa_nil))))
    (pss_cons (ps_set (i := 4) sc_put_in.nd rfl (Or.inl rfl) (pe_op op_rep (pe_lst (pa_cons pe_int pa_nil)) (pv 3)))
    (pss_cons (ps_for PassesOwn.never rfl (pi_revR (by rfl) B.reversed (prg_1 (by rfl) B.range (pv 3))) (pg_name (i := 5) sc_put_in.nd rfl (Or.inl rfl)) (pss_cons (ps_set (i := 4) sc_put_in.nd rfl (Or.inl rfl) (pe_c0 C_product (hr.mono (by decide)) (pa_cons (pv 0) (pa_cons (pv 4) (pa_cons (pv 2) pa_nil)))))
    (pss_one (ps_asg (pe_op op_mod (pe_op op_add (pe_ix (r := rIxL K) ix_list (pv 4) pe_int (fun _ _ => rfl)) (pe_ix (r := rIxL K) ix_list (pv 1) (pv 5) (fun _ _ => rfl))) (pv 0)) (pg_sub (pv 4) pe_int set_list)))))
    (pss_one (ps_ret (pv 4)))))))), ?_⟩
    refine q_drop (ev_call (by walk_at "ev") (spv_need_both hp ha hb R1 R2)) fun H1 e1 => ?_
    refine q_when (b := false) (et_test (ev_is (ev_op (ev_op (ev_var rfl) ev_c (rv_at (ns := ys) (sq_of (e1 b _ hb)) (n := 0) rfl (by omega))) ev_c (rv_ne rfl)) ?_)) (fun z => Bool.noConfusion z) fun _ H2 e2 => ?_
    · rw [h0, decide_eq_true rfl]
      rfl
    have e12 := e1.trans e2
    generalize hN : min xs.length ys.length = N
    refine q_asg (v := .int (N : Int)) (by
      rw [← hN]
      exact ev_cb (ea_cons (ev_cb (by walk_at "ev") (rc_lenI (sq_of (e12 a _ ha)))) (ea_cons (ev_cb (by walk_at "ev") (rc_lenI (sq_of (e12 b _ hb)))) ea_nil)) rc_minN) fun H3 e3 => ?_
    refine q_asgL (xs := (hornL p (sq xs) (sq ys) N 0).map V.int) (el_is (el_rep (n := (N : Int)) (el_lst (ea_cons ev_c ea_nil) (by decide)) (ev_var rfl) (by omega) rfl) ?_) fun t H4 nt e4 ht => ?_
    · rw [Int.toNat_natCast, rep_one, horn_zero, List.map_replicate]
    have e14 := (e12.trans e3).trans e4
    have nt0 : H t = none := fresh_back (e12.trans e3) nt
    have hl : ∀ m, (hornL p (sq xs) (sq ys) N m).length = N := fun m => by
      unfold hornL
      rw [List.length_map, List.length_range]
    have hs : ∀ m, Sml (hornL p (sq xs) (sq ys) N m) := fun m x hx => by
      unfold hornL at hx
      obtain ⟨i, _, rfl⟩ := List.mem_map.mp hx
      have r1 := Int.emod_nonneg (com m (shn (sq xs) (N - m)) (sq ys) i) (show p ≠ 0 by omega)
      have r2 := Int.emod_lt_of_pos (com m (shn (sq xs) (N - m)) (sq ys) i) (show 0 < p by omega)
      omega
    refine q_forRev (n := N) (ev_var rfl) (by omega) (fun m σ' H' => ∃ t z, σ' = [some (.int p), some (.ref a), some (.ref b), some (.int (N : Int)), some (.ref t), z] ∧ Ex H H' ∧ H t = none ∧ H' t = some (.lst ((hornL p (sq xs) (sq ys) N m).map V.int)))
      (fun H5 e5 => ⟨t, _, rfl, e14.trans e5, nt0, e5 t _ ht⟩) (fun m σ' H' hm hP => ?_) fun σ' H' hP => ?_
    · obtain ⟨t, z, rfl, e, nt0, ht⟩ := hP
      refine q_asgL (xs := (prodL p (hornL p (sq xs) (sq ys) N m) ys).map V.int) (el_call (by walk_at "ev") (spl_product (p := p) (xs := hornL p (sq xs) (sq ys) N m) (ys := ys) (by omega) (sq_of ht) (sq_of (e b _ hb)) (hs m) (by rw [hl]; omega))) fun t2 H5 n5 e5 h5 => ?_
      have l5 : (prodL p (hornL p (sq xs) (sq ys) N m) ys).length = N := by
        rw [prodL_len, hl]
        omega
      refine s_setL (j := 0) (v := .int ((sq (prodL p (hornL p (sq xs) (sq ys) N m) ys) 0 + sq xs (N - (m + 1))) % p)) h5 (ev_op (ev_op (ev_op (ev_var rfl) ev_c (rv_at (sq_of h5) (n := 0) rfl (by omega))) (ev_op (ev_var rfl) (ev_var rfl) (rv_at (sq_of (e5 a _ (e a _ ha))) (n := N - (m + 1)) (by omega) (by omega))) rv_I0) (ev_var rfl) (rv_I (by walk_at "cond"))) (ev_var rfl) ev_c (by rw [List.length_map, l5]; omega) fun H6 e6 => ?_
      refine ⟨t2, _, rfl, Ex.mut ((e.trans e5).trans e6) (fresh_back e n5), fresh_back e n5, ?_⟩
      rw [upd_same, ← horn_step (p := p) (f := sq xs) (ys := ys) hm (by omega)]
      congr 2
      exact (List.map_set ..).symm
    · obtain ⟨t, z, rfl, e, nt0, ht⟩ := hP
      rw [← hN, horn_end h0] at ht
      exact s_ret (ev_var rfl) fun H5 e5 => q t H5 nt0 (e.trans e5) (e5 t _ ht)
theorem spl_put_in {H : Hp} {p : Int} {a b : Addr} {xs ys : List Int} (hp : Prm p) (ha : H a = some (.lst (xs.map V.int))) (hb : H b = some (.lst (ys.map V.int))) (R1 : Rowp p xs) (R2 : Rowp p ys) (h0 : sq ys 0 = 0) : SpL spPutIn [.int p, .ref a, .ref b] H ((putL p xs ys).map V.int) :=
  fun H1 e Q q E => ⟨p, a, b, xs, ys, rfl, hp, e a _ ha, e b _ hb, R1, R2, h0, q⟩
/-! ### put_in, where it can't be -/
def spPutInX (C : Addr) : Sp := fun vs H Q E => ∃ (p : Int) (a b : Addr) (xs ys : List Int), vs = [.int p, .ref a, .ref b] ∧ Prm p ∧ H a = some (.lst (xs.map V.int)) ∧ H b = some (.lst (ys.map V.int)) ∧ Rowp p xs ∧ Rowp p ys ∧ sq ys 0 ≠ 0 ∧ ∀ H1, Ex H H1 → E (.ref C) none H1
theorem ok_put_in_x {f : Addr} {fd : FuncData} (D : Dat K mg "put_in" s_put_in ["prime", "outer", "inner"] f fd) {a_PRIMES : Addr} {t_MOST_CUT : Tok} {t_MOST_RULED : Tok} {t_MOST_PLACES : Tok} {t_MOST_TERMS : Tok} {a_PowerError : Addr} {a_BadPrime : Addr} {a_BadRow : Addr} {a_BadCount : Addr} {a_BadRule : Addr} {a_BadPlaces : Addr} {a_BadTerms : Addr} {a_NoPart : Addr} {a_NoInside : Addr} {a_NoRoot : Addr} {a_Answer : Addr} {a_Alike : Addr} {a_Unlike : Addr} {a_Ruled : Addr} {a_Barred : Addr} (B : Blt K mg a_PRIMES t_MOST_CUT t_MOST_RULED t_MOST_PLACES t_MOST_TERMS a_PowerError a_BadPrime a_BadRow a_BadCount a_BadRule a_BadPlaces a_BadTerms a_NoPart a_NoInside a_NoRoot a_Answer a_Alike a_Unlike a_Ruled a_Barred) (X_NoInside : ExcF K a_NoInside) (C_need_prime_and_rows : Cal P w K mg base CX0 "need_prime_and_rows" 6 ["prime", "one", "other"] spNeedBoth) : Cal P w K mg base (L2N.CX P w) "put_in" 10 ["prime", "outer", "inner"] (spPutInX a_NoInside) := by
  refine D.cal (okN D.F sc_put_in (fun vs H Q E h => ?_) (fun cdv A outer s H vs Q E hr h => ?_))
  · obtain ⟨p, a, b, xs, ys, rfl, _⟩ := h
    rfl
  · obtain ⟨p, a, b, xs, ys, rfl, hp, ha, hb, R1, R2, h0, q⟩ := h
    have l2 := R2.lo
    refine ⟨_, (pss_cons (ps_expr (pe_c0 C_need_prime_and_rows (hr.mono (by decide)) (pa_cons (pv 0) (pa_cons (pv 1) (pa_cons (pv 2) pa_nil)))))
    (pss_cons (ps_if (pt_cmpR op_ne (pe_ix (r := rIxL K) ix_list (pv 2) pe_int (fun _ _ => rfl)) pe_int (nomark _)) (pss_one (L2N.ps_raise rfl (L2N.takes_of rfl rfl rfl rfl) (L2N.pmk_own PySem.F.excBase_ValueError X_NoInside.exc B.NoInside B.NoInside_k (raises_own X_NoInside.sb X_NoInside.ty) rfl))) pss_nil)
    pss_never)), ?_⟩
    refine q_drop (ev_call (by walk_at "ev") (spv_need_both hp ha hb R1 R2)) fun H1 e1 => ?_
    refine q_when (b := true) (et_test (ev_is (ev_op (ev_op (ev_var rfl) ev_c (rv_at (ns := ys) (sq_of (e1 b _ hb)) (n := 0) rfl (by omega))) ev_c (rv_ne rfl)) ?_)) (fun _ H2 e2 => ?_) fun z => Bool.noConfusion z
    · rw [decide_eq_false]
      · rfl
      · exact fun z => h0 (V.int.inj z)
    · exact q H2 (e1.trans e2)

/-! ### solved, turned_out -/
def spSolved : Sp := fun vs H Q _ => ∃ (p : Int) (a : Addr) (xs : List Int), vs = [.int p, .ref a] ∧ Prm p ∧ H a = some (.lst (xs.map V.int)) ∧ Rowp p xs ∧ 2 ≤ xs.length ∧ sq xs 0 = 0 ∧ sq xs 1 ≠ 0 ∧ RetL ((outL p xs).map V.int) H Q
theorem missL_sml {p : Int} (h0 : 0 < p) (h1 : p ≤ 1000) (xs ts : List Int) (k : Nat) : Sml (missL p xs ts k) := fun x hx => by
  unfold missL at hx
  obtain ⟨i, _, rfl⟩ := List.mem_map.mp hx
  have r1 := Int.emod_nonneg (xs1 i - com k (sq ts) (sq xs) i) (show p ≠ 0 by omega)
  have r2 := Int.emod_lt_of_pos (xs1 i - com k (sq ts) (sq xs) i) h0
  omega
theorem miss_next {p : Int} (xs : List Int) (i : Nat) : (List.range (min (missL p xs (turnL p xs (i + 1)) (i + 1)).length (powL p xs (i + 1)).length)).map (fun n => (sq (missL p xs (turnL p xs (i + 1)) (i + 1)) n - shareOf p xs (turnL p xs (i + 1)) (i + 1) * sq (powL p xs (i + 1)) n) % p) = missL p xs (turnL p xs (i + 2)) (i + 2) := by
  rw [missL_len, powL_len, Nat.min_self]
  refine ext_sq (by rw [List.length_map, List.length_range, missL_len]) fun n hn => ?_
  rw [List.length_map, List.length_range] at hn
  rw [sq_map_range hn, miss_step xs i n hn]
theorem ok_solved {f : Addr} {fd : FuncData} (D : Dat K mg "solved" s_solved ["prime", "row"] f fd) {a_PRIMES : Addr} {t_MOST_CUT : Tok} {t_MOST_RULED : Tok} {t_MOST_PLACES : Tok} {t_MOST_TERMS : Tok} {a_PowerError : Addr} {a_BadPrime : Addr} {a_BadRow : Addr} {a_BadCount : Addr} {a_BadRule : Addr} {a_BadPlaces : Addr} {a_BadTerms : Addr} {a_NoPart : Addr} {a_NoInside : Addr} {a_NoRoot : Addr} {a_Answer : Addr} {a_Alike : Addr} {a_Unlike : Addr} {a_Ruled : Addr} {a_Barred : Addr} (B : Blt K mg a_PRIMES t_MOST_CUT t_MOST_RULED t_MOST_PLACES t_MOST_TERMS a_PowerError a_BadPrime a_BadRow a_BadCount a_BadRule a_BadPlaces a_BadTerms a_NoPart a_NoInside a_NoRoot a_Answer a_Alike a_Unlike a_Ruled a_Barred) (C_inverse : Cal P w K mg base CX0 "inverse" 1 ["prime", "rest"] spInverse) (C_product : Cal P w K mg base CX0 "product" 2 ["prime", "one", "other"] (spProduct K)) : Cal P w K mg base CX0 "solved" 3 ["prime", "row"] spSolved := by
  refine D.cal (D.F.ok sc_solved (fun vs H Q E h => ?_) (fun cdv A outer s H vs Q E hr h => ?_))
  · obtain ⟨p, a, xs, rfl, _⟩ := h
    rfl
  · obtain ⟨p, a, xs, rfl, hp, ha, R, l2, x0, x1, q⟩ := h
    have p2 := hp.pos
    have hi := R.hi
    have bx := R.at (n := 1) (by omega)
    refine ⟨_, (pss_cons (ps_set (i := 2) sc_solved.nd rfl (Or.inl rfl) (pe_op op_cat (pe_lst (pa_cons pe_int (pa_cons pe_int pa_nil))) (pe_op op_rep (pe_lst (pa_cons pe_int pa_nil)) (pe_op op_sub (pe_callB (r := rLenS K) call_len_seq (by rfl) B.len PySem.boot_len (pa_cons (pv 1) pa_nil)) pe_int))))
    (pss_cons (ps_set (i := 3) sc_solved.nd rfl (Or.inl rfl) (pv 1))
    (pss_cons (ps_set (i := 4) sc_solved.nd rfl (Or.inl rfl) (pe_lst (pa_cons pe_int pa_nil)))
    (pss_cons (ps_for PassesOwn.never rfl (pi_range2 rfl B.range (pa_cons pe_int (pa_cons (pe_callB (r := rLenS K) call_len_seq (by rfl) B.len PySem.boot_len (pa_cons (pv 1) pa_nil)) pa_nil))) (pg_name (i := 5) sc_solved.nd rfl (Or.inl rfl)) (pss_cons (ps_set (i := 6) sc_solved.nd rfl (Or.inr rfl) (pe_op op_mod (pe_op op_mulV (pe_ix (r := rIxL K) ix_list (pv 2) (pv 5) (fun _ _ => rfl)) (pe_c0 C_inverse (hr.mono (by decide)) (pa_cons (pv 0) (pa_cons (pe_ix (r := rIxL K) ix_list (pv 3) (pv 5) (fun _ _ => rfl)) pa_nil)))) (pv 0)))
    (pss_cons (ps_setLc (i := 2) (own := [("lack", 7), ("rest", 8)]) (g := gTup K 2 (gCons (gName 7) (gCons (gName 8) (gNil)))) (tt := tYes) rfl sc_solved.nd rfl rfl (sw_true rfl rfl rfl (by decide +kernel)) (pi_zip (by rfl) B.zip (pa_cons (pv 2) (pa_cons (pv 3) pa_nil))) (blkOk_by (N := nm_solved) (sc := defScope s_solved) (by decide +kernel)) (fun _ _ _ _ _ => (by exact pg_tup rfl (pgs_cons (pg_name (i := 7) sc_solved.nd rfl (Or.inl rfl)) (pgs_cons (pg_name (i := 8) sc_solved.nd rfl (Or.inl rfl)) pgs_nil)))) (fun _ _ _ _ _ => pts_nil) (fun _ _ _ _ _ => (pe_op op_mod (pe_op op_sub (pv 7) (pe_op op_mulV (pv 6) (pv 8))) (pv 0))))
    (pss_cons (ps_set (i := 3) sc_solved.nd rfl (Or.inl rfl) (pe_c0 C_product (hr.mono (by decide)) (pa_cons (pv 0) (pa_cons (pv 3) (pa_cons (pv 1) pa_nil)))))
    (pss_one (ps_expr (pe_bm PySem.F.plainAttrs_list PySem.F.slot_list_append PySem.F.type_list_append mt_append (pv 4) (pa_cons (pv 6) pa_nil))))))))
    (pss_one (ps_ret (pv 4))))))), ?_⟩
    refine q_asgL (xs := (missL p xs (turnL p xs 1) 1).map V.int) (el_is (el_catLL (xs := [V.int 0, V.int 1]) (ys := (List.replicate (xs.length - 2) [V.int 0]).flatten) (el_lst (ea_cons ev_c (ea_cons ev_c ea_nil)) (by decide)) (el_rep (n := ((xs.length - 2 : Nat) : Int)) (el_lst (ea_cons ev_c ea_nil) (by decide)) (ev_is (ev_op (ev_cb (by walk_at "ev") (rc_lenI (sq_of ha))) ev_c rv_I0) (by show V.int _ = V.int _; congr 1; omega)) (by omega) rfl) ?_) ?_) fun m H1 nm e1 hm => ?_
    · rw [rep_one, List.length_replicate]
      show 2 + (xs.length - 2) ≤ 100000
      omega
    · rw [rep_one, miss_first hp l2]
      unfold plainL
      rw [List.map_cons, List.map_cons, List.map_replicate]
      rfl
    refine q_asg (v := .ref a) (ev_var rfl) fun H2 e2 => ?_
    refine q_asgL (xs := ([0] : List Int).map V.int) (el_lst (ea_cons ev_c ea_nil) (by decide)) fun t H3 nt e3 ht => ?_
    have e13 := (e1.trans e2).trans e3
    have nt0 : H t = none := fresh_back (e1.trans e2) nt
    obtain ⟨TT, hTT⟩ : ∃ TT : Nat → List Int, ∀ i, TT i = turnL p xs (i + 1) := ⟨_, fun _ => rfl⟩
    obtain ⟨MM, hMM⟩ : ∃ MM : Nat → List Int, ∀ i, MM i = missL p xs (turnL p xs (i + 1)) (i + 1) := ⟨_, fun _ => rfl⟩
    obtain ⟨WW, hWW⟩ : ∃ WW : Nat → List Int, ∀ i, WW i = powL p xs (i + 1) := ⟨_, fun _ => rfl⟩
    have m0 : MM 0 = missL p xs (turnL p xs 1) 1 := hMM 0
    have t0 : TT 0 = [0] := hTT 0
    have w0 : WW 0 = xs := (hWW 0).trans (powL_one R)
    rw [← m0] at hm
    rw [← t0] at ht
    refine q_forR2 (lo := 1) (n := (xs.length : Int)) (ea_cons ev_c (ea_cons (ev_cb (by walk_at "ev") (rc_lenI (sq_of (e13 a _ ha)))) ea_nil)) (by omega)
      (fun i σ' H' => ∃ (m w : Addr) (z1 z2 : Option V), σ' = [some (.int p), some (.ref a), some (.ref m), some (.ref w), some (.ref t), z1, z2, none, none] ∧ Ex H H' ∧ H' m = some (.lst ((MM i).map V.int)) ∧ H' w = some (.lst ((WW i).map V.int)) ∧ H' t = some (.lst ((TT i).map V.int)) ∧ m ≠ t ∧ w ≠ t)
      (fun H4 e4 => ⟨m, a, none, none, rfl, e13.trans e4, e4 m _ (e3 m _ (e2 m _ hm)), ?_, e4 t _ ht, ne_of_none (e2 m _ hm) nt, ne_of_none ha nt0⟩) (fun i σ' H' hi2 hP => ?_) fun σ' H' hP => ?_
    · rw [w0]
      exact (e13.trans e4) a _ ha
    · obtain ⟨m, w, z1, z2, rfl, e, hm, hw, ht', nmt, nwt⟩ := hP
      have hk : i + 1 < xs.length := by omega
      rw [hMM] at hm
      rw [hWW] at hw
      rw [hTT] at ht'
      have ms := missL_sml (show 0 < p by omega) (by omega) xs (turnL p xs (i + 1)) (i + 1)
      have PR : Rowp p (powL p xs (i + 1)) := powL_rowp (by omega) R _
      have b1 := PR.at (n := i + 1) (by rw [powL_len]; exact hk)
      have b2 := powm_rest (r := sq (powL p xs (i + 1)) (i + 1)) p2.1 (p - 2).toNat
      have b3 := ms.at (i + 1)
      have ms' := ms
      generalize hM : missL p xs (turnL p xs (i + 1)) (i + 1) = M at hm ms b3
      have lM : M.length = xs.length := by rw [← hM, missL_len]
      generalize hW : powL p xs (i + 1) = W at hw PR b1 b2
      have lW : W.length = xs.length := by rw [← hW, powL_len]
      have hS : sq M (i + 1) * inv p (sq W (i + 1)) % p = shareOf p xs (turnL p xs (i + 1)) (i + 1) := by
        unfold shareOf
        rw [hM, hW]
      have ev1 : Ev (tVar 5) ([some (V.int p), some (V.ref a), some (V.ref m), some (V.ref w), some (V.ref t), some (V.int (1 + (i : Int))), z2, none, none]) H' (.int (1 + (i : Int))) := ev_var rfl
      refine q_asg (v := .int (shareOf p xs (turnL p xs (i + 1)) (i + 1))) (ev_is (ev_op (ev_op (ev_op (ev_var rfl) (ev_var rfl) (rv_at (sq_of hm) (n := i + 1) (by omega) (by omega))) (ev_call (ea_cons (ev_var rfl) (ea_cons (ev_op (ev_var rfl) (ev_var rfl) (rv_at (sq_of hw) (n := i + 1) (by omega) (by omega))) ea_nil)) (spv_inverse hp b1.1 b1.2)) (rv_I (mul_l (by omega)))) (ev_var rfl) (rv_I (by walk_at "cond"))) (by rw [hS])) fun H4 e4 => ?_
      have sb : 0 ≤ shareOf p xs (turnL p xs (i + 1)) (i + 1) ∧ shareOf p xs (turnL p xs (i + 1)) (i + 1) < p := by
        rw [← hS]
        exact ⟨Int.emod_nonneg _ (by omega), Int.emod_lt_of_pos _ (by omega)⟩
      have nx := miss_next (p := p) xs i
      rw [hM, hW] at nx
      generalize hSh : shareOf p xs (turnL p xs (i + 1)) (i + 1) = S at sb nx
      refine q_asgL (xs := (missL p xs (turnL p xs (i + 2)) (i + 2)).map V.int) (el_is (el_int (n := min M.length W.length) (f := fun n => (sq M n - S * sq W n) % p) (el_zip (xs := M) (ys := W) (fun n => V.int ((sq M n - S * sq W n) % p)) (by walk_at "ev") (sq_of (e4 m _ hm)) (sq_of (e4 w _ hw)) (by omega) (fun _ _ => rfl) fun n H5 e5 hn => ev_op (ev_op (ev_var rfl) (ev_op (ev_var rfl) (ev_var rfl) (rv_I (mul_l (by omega)))) rv_I0) (ev_var rfl) (rv_I (by walk_at "cond")))) (by rw [nx])) fun m2 H5 n5 e5 h5 => ?_
      have g := spl_product (K := K) (H := H5) (p := p) (xs := W) (ys := xs) (by omega) (sq_of (e5 w _ (e4 w _ hw))) (sq_of (e5 a _ (e4 a _ (e a _ ha)))) (PR.sml (by omega)) (by omega)
      rw [← hW, powL_succ R] at g
      refine q_asgL (xs := (powL p xs (i + 2)).map V.int) (el_call (by walk_at "ev") g) fun w2 H6 n6 e6 h6 => ?_
      have ht6 := e6 t _ (e5 t _ (e4 t _ ht'))
      refine s_app (v := .int S) ht6 (ev_var rfl) (ev_var rfl) (by rw [List.length_map, turnL_len]; omega) fun H7 e7 => ?_
      have nt5 := ne_of_none (e4 t _ ht') n5
      have nt6 := ne_of_none (e5 t _ (e4 t _ ht')) n6
      refine ⟨m2, w2, _, _, rfl, Ex.mut ((((e.trans e4).trans e5).trans e6).trans e7) nt0, ?_, ?_, ?_, Ne.symm nt5, Ne.symm nt6⟩
      · rw [upd_ne (Ne.symm nt5), hMM]
        exact e7 m2 _ (e6 m2 _ h5)
      · rw [upd_ne (Ne.symm nt6), hWW]
        exact e7 w2 _ h6
      · rw [upd_same, hTT, show turnL p xs (i + 1 + 1) = turnL p xs (i + 1) ++ [shareOf p xs (turnL p xs (i + 1)) (i + 1)] from rfl, hSh, List.map_append]
        rfl
    · obtain ⟨m, w, z1, z2, rfl, e, hm, hw, ht', nmt, nwt⟩ := hP
      have el : ((xs.length : Int) - 1).toNat + 1 = xs.length := by omega
      rw [hTT, el] at ht'
      exact s_ret (ev_var rfl) fun H4 e4 => q t H4 nt0 (e.trans e4) (e4 t _ ht')
theorem spl_solved {H : Hp} {p : Int} {a : Addr} {xs : List Int} (hp : Prm p) (ha : H a = some (.lst (xs.map V.int))) (R : Rowp p xs) (l2 : 2 ≤ xs.length) (x0 : sq xs 0 = 0) (x1 : sq xs 1 ≠ 0) : SpL spSolved [.int p, .ref a] H ((outL p xs).map V.int) :=
  fun H1 e Q q E => ⟨p, a, xs, rfl, hp, e a _ ha, R, l2, x0, x1, q⟩

/-! ### turned_out -/
def spTurnedOut : Sp := fun vs H Q _ => ∃ (p : Int) (a : Addr) (xs : List Int), vs = [.int p, .ref a] ∧ Prm p ∧ H a = some (.lst (xs.map V.int)) ∧ Rowp p xs ∧ 2 ≤ xs.length ∧ sq xs 0 = 0 ∧ sq xs 1 ≠ 0 ∧ RetL ((outL p xs).map V.int) H Q
theorem turned_test {K : PySem.W.Frag} {H : Hp} {p : Int} {a : Addr} {xs : List Int} {σ : L2.St} (h1 : σ[1]? = some (some (.ref a))) (ha : H a = some (.lst (xs.map V.int))) (lo : 1 ≤ xs.length) :
    EvT (tOr (tTest (tOp (rI0 fun i j => .bl (decide (i < j))) (tCB (rLenS K) (tCons (tVar 1) tNil)) (tC (.int 2)))) (tOr (tTest (tOp rNe (tOp (rIxL K) (tVar 1) (tC (.int 0))) (tC (.int 0)))) (tTest (tOp rEq (tOp (rIxL K) (tVar 1) (tC (.int 1))) (tC (.int 0)))))) σ H
      (decide ((xs.length : Int) < 2) || ((!decide (sq xs 0 = 0)) || decide (sq xs 1 = 0))) := by
  refine et_or (et_test (ev_op (ev_cb (ea_cons (ev_var h1) ea_nil) (rc_lenI (sq_of ha))) ev_c rv_I0)) fun hl => et_or (et_test (ev_is (ev_op (ev_op (ev_var h1) ev_c (rv_at (sq_of ha) (n := 0) rfl (by omega))) ev_c (rv_ne rfl)) (by rw [dec_int]; rfl))) fun _ => et_test (ev_is (ev_op (ev_op (ev_var h1) ev_c (rv_at (sq_of ha) (n := 1) rfl ?_)) ev_c (rv_eq rfl)) (by rw [dec_int]; rfl))
  have := of_decide_eq_false hl
  omega
theorem ok_turned_out {f : Addr} {fd : FuncData} (D : Dat K mg "turned_out" s_turned_out ["prime", "row"] f fd) {a_PRIMES : Addr} {t_MOST_CUT : Tok} {t_MOST_RULED : Tok} {t_MOST_PLACES : Tok} {t_MOST_TERMS : Tok} {a_PowerError : Addr} {a_BadPrime : Addr} {a_BadRow : Addr} {a_BadCount : Addr} {a_BadRule : Addr} {a_BadPlaces : Addr} {a_BadTerms : Addr} {a_NoPart : Addr} {a_NoInside : Addr} {a_NoRoot : Addr} {a_Answer : Addr} {a_Alike : Addr} {a_Unlike : Addr} {a_Ruled : Addr} {a_Barred : Addr} (B : Blt K mg a_PRIMES t_MOST_CUT t_MOST_RULED t_MOST_PLACES t_MOST_TERMS a_PowerError a_BadPrime a_BadRow a_BadCount a_BadRule a_BadPlaces a_BadTerms a_NoPart a_NoInside a_NoRoot a_Answer a_Alike a_Unlike a_Ruled a_Barred) (C_need_prime : Cal P w K mg base CX0 "need_prime" 2 ["prime"] spNeedPrime) (C_need_row : Cal P w K mg base CX0 "need_row" 5 ["prime", "row"] spNeedRow) (C_solved : Cal P w K mg base CX0 "solved" 3 ["prime", "row"] spSolved) : Cal P w K mg base CX0 "turned_out" 10 ["prime", "row"] spTurnedOut := by
  refine D.cal (D.F.ok sc_turned_out (fun vs H Q E h => ?_) (fun cdv A outer s H vs Q E hr h => ?_))
  · obtain ⟨p, a, xs, rfl, _⟩ := h
    rfl
  · obtain ⟨p, a, xs, rfl, hp, ha, R, l2, x0, x1, q⟩ := h
    refine ⟨_, (pss_cons (ps_expr (pe_c0 C_need_prime (hr.mono (by decide)) (pa_cons (pv 0) pa_nil)))
    (pss_cons (ps_expr (pe_c0 C_need_row (hr.mono (by decide)) (pa_cons (pv 0) (pa_cons (pv 1) pa_nil))))
    (pss_cons (ps_if (PW.pt (pw_or (pt_cmpR op_lt (pe_callB (r := rLenS K) call_len_seq (by rfl) B.len PySem.boot_len (pa_cons (pv 1) pa_nil)) pe_int (nomark _)) (pw_or (pt_cmpR op_ne (pe_ix (r := rIxL K) ix_list (pv 1) pe_int (fun _ _ => rfl)) pe_int (nomark _)) (pw_or1 (pt_cmpR op_eq (pe_ix (r := rIxL K) ix_list (pv 1) pe_int (fun _ _ => rfl)) pe_int (nomark _)))))) (pss_one ps_never) pss_nil)
    (pss_one (ps_ret (pe_c0 C_solved (hr.mono (by decide)) (pa_cons (pv 0) (pa_cons (pv 1) pa_nil)))))))), ?_⟩
    refine q_drop (ev_call (by walk_at "ev") (spv_need_prime hp)) fun H1 e1 => q_drop (ev_call (by walk_at "ev") (spv_need_row (e1 a _ ha) R)) fun H2 e2 => ?_
    have e12 := e1.trans e2
    refine q_when (b := false) (et_is (turned_test (p := p) rfl (e12 a _ ha) R.lo) ?_) (fun z => Bool.noConfusion z) fun _ H3 e3 => ?_
    · rw [decide_eq_false (by omega), decide_eq_true x0, decide_eq_false x1]
      rfl
    · exact s_retL (el_call (by walk_at "ev") (spl_solved (p := p) (xs := xs) hp (e3 a _ (e12 a _ ha)) R l2 x0 x1)) fun p4 H4 n4 e4 h4 => q.go (e12.trans e3) n4 e4 h4
theorem spl_turned_out {H : Hp} {p : Int} {a : Addr} {xs : List Int} (hp : Prm p) (ha : H a = some (.lst (xs.map V.int))) (R : Rowp p xs) (l2 : 2 ≤ xs.length) (x0 : sq xs 0 = 0) (x1 : sq xs 1 ≠ 0) : SpL spTurnedOut [.int p, .ref a] H ((outL p xs).map V.int) :=
  fun H1 e Q q E => ⟨p, a, xs, rfl, hp, e a _ ha, R, l2, x0, x1, q⟩
/-! ### turned_out, where it can't be -/
def spTurnedOutX (C : Addr) : Sp := fun vs H Q E => ∃ (p : Int) (a : Addr) (xs : List Int), vs = [.int p, .ref a] ∧ Prm p ∧ H a = some (.lst (xs.map V.int)) ∧ Rowp p xs ∧ (xs.length < 2 ∨ sq xs 0 ≠ 0 ∨ sq xs 1 = 0) ∧ ∀ H1, Ex H H1 → E (.ref C) none H1
theorem ok_turned_out_x {f : Addr} {fd : FuncData} (D : Dat K mg "turned_out" s_turned_out ["prime", "row"] f fd) {a_PRIMES : Addr} {t_MOST_CUT : Tok} {t_MOST_RULED : Tok} {t_MOST_PLACES : Tok} {t_MOST_TERMS : Tok} {a_PowerError : Addr} {a_BadPrime : Addr} {a_BadRow : Addr} {a_BadCount : Addr} {a_BadRule : Addr} {a_BadPlaces : Addr} {a_BadTerms : Addr} {a_NoPart : Addr} {a_NoInside : Addr} {a_NoRoot : Addr} {a_Answer : Addr} {a_Alike : Addr} {a_Unlike : Addr} {a_Ruled : Addr} {a_Barred : Addr} (B : Blt K mg a_PRIMES t_MOST_CUT t_MOST_RULED t_MOST_PLACES t_MOST_TERMS a_PowerError a_BadPrime a_BadRow a_BadCount a_BadRule a_BadPlaces a_BadTerms a_NoPart a_NoInside a_NoRoot a_Answer a_Alike a_Unlike a_Ruled a_Barred) (X_NoInside : ExcF K a_NoInside) (C_need_prime : Cal P w K mg base CX0 "need_prime" 2 ["prime"] spNeedPrime) (C_need_row : Cal P w K mg base CX0 "need_row" 5 ["prime", "row"] spNeedRow) : Cal P w K mg base (L2N.CX P w) "turned_out" 10 ["prime", "row"] (spTurnedOutX a_NoInside) := by
  refine D.cal (okN D.F sc_turned_out (fun vs H Q E h => ?_) (fun cdv A outer s H vs Q E hr h => ?_))
  · obtain ⟨p, a, xs, rfl, _⟩ := h
    rfl
  · obtain ⟨p, a, xs, rfl, hp, ha, R, hc, q⟩ := h
    refine ⟨_, (pss_cons (ps_expr (pe_c0 C_need_prime (hr.mono (by decide)) (pa_cons (pv 0) pa_nil)))
    (pss_cons (ps_expr (pe_c0 C_need_row (hr.mono (by decide)) (pa_cons (pv 0) (pa_cons (pv 1) pa_nil))))
    (pss_cons (ps_if (PW.pt (pw_or (pt_cmpR op_lt (pe_callB (r := rLenS K) call_len_seq (by rfl) B.len PySem.boot_len (pa_cons (pv 1) pa_nil)) pe_int (nomark _)) (pw_or (pt_cmpR op_ne (pe_ix (r := rIxL K) ix_list (pv 1) pe_int (fun _ _ => rfl)) pe_int (nomark _)) (pw_or1 (pt_cmpR op_eq (pe_ix (r := rIxL K) ix_list (pv 1) pe_int (fun _ _ => rfl)) pe_int (nomark _)))))) (pss_one (L2N.ps_raise rfl (L2N.takes_of rfl rfl rfl rfl) (L2N.pmk_own PySem.F.excBase_ValueError X_NoInside.exc B.NoInside B.NoInside_k (raises_own X_NoInside.sb X_NoInside.ty) rfl))) pss_nil)
    pss_never))), ?_⟩
    refine q_drop (ev_call (by walk_at "ev") (spv_need_prime hp)) fun H1 e1 => q_drop (ev_call (by walk_at "ev") (spv_need_row (e1 a _ ha) R)) fun H2 e2 => ?_
    have e12 := e1.trans e2
    refine q_when (b := true) (et_is (turned_test (p := p) rfl (e12 a _ ha) R.lo) ?_) (fun _ H3 e3 => q H3 (e12.trans e3)) fun z => Bool.noConfusion z
    rcases hc with h | h | h
    · rw [decide_eq_true (by omega)]
      rfl
    · rw [decide_eq_false h]
      exact Bool.or_true _
    · rw [decide_eq_true h, Bool.or_true, Bool.or_true]

/-! ### term_sum -/
def spTermSum (K : PySem.W.Frag) : Sp := fun vs H Q _ => ∃ (a l q0 q1 q2 q3 : Addr) (rs : List Addr) (ts : List Tm) (p : Int) (x0 xa xb xc : List Int) (n : Nat), vs = [.ref a, .ref l, .int (n : Int)] ∧ H a = some (.lst (rs.map V.ref)) ∧ TmsR H rs ts ∧ (∀ t ∈ ts, TmOk p t) ∧ p ≤ 1000 ∧ ts.length ≤ 6 ∧
  H l = some (.lst [.ref q0, .ref q1, .ref q2, .ref q3]) ∧ H q0 = some (.lst (x0.map V.int)) ∧ H q1 = some (.lst (xa.map V.int)) ∧ H q2 = some (.lst (xb.map V.int)) ∧ H q3 = some (.lst (xc.map V.int)) ∧
  n ≤ x0.length ∧ n ≤ xa.length ∧ n ≤ xb.length ∧ n ≤ xc.length ∧ (∀ i, i < n → sq x0 i = one i) ∧ n ≤ 1000 ∧ RetV (.int (tmSum (pick xa xb xc) ts n)) H Q
theorem ok_term_sum {f : Addr} {fd : FuncData} (D : Dat K mg "term_sum" s_term_sum ["terms", "powers", "place"] f fd) {a_PRIMES : Addr} {t_MOST_CUT : Tok} {t_MOST_RULED : Tok} {t_MOST_PLACES : Tok} {t_MOST_TERMS : Tok} {a_PowerError : Addr} {a_BadPrime : Addr} {a_BadRow : Addr} {a_BadCount : Addr} {a_BadRule : Addr} {a_BadPlaces : Addr} {a_BadTerms : Addr} {a_NoPart : Addr} {a_NoInside : Addr} {a_NoRoot : Addr} {a_Answer : Addr} {a_Alike : Addr} {a_Unlike : Addr} {a_Ruled : Addr} {a_Barred : Addr} (B : Blt K mg a_PRIMES t_MOST_CUT t_MOST_RULED t_MOST_PLACES t_MOST_TERMS a_PowerError a_BadPrime a_BadRow a_BadCount a_BadRule a_BadPlaces a_BadTerms a_NoPart a_NoInside a_NoRoot a_Answer a_Alike a_Unlike a_Ruled a_Barred) : Cal P w K mg base CX0 "term_sum" 1 ["terms", "powers", "place"] (spTermSum K) := by
  refine D.cal (D.F.ok sc_term_sum (fun vs H Q E h => ?_) (fun cdv A outer s H vs Q E hr h => ?_))
  · obtain ⟨a, l, q0, q1, q2, q3, rs, ts, p, x0, xa, xb, xc, n, rfl, _⟩ := h
    rfl
  · obtain ⟨a, l, q0, q1, q2, q3, rs, ts, p, x0, xa, xb, xc, n, rfl, ha, hT, hO, hp, hl6, hl, h0, h1, h2, h3, n0, na, nb, nc, h1s, hn, q⟩ := h
    have lr := hT.1
    refine ⟨_, (pss_one (ps_ret (pe_callB (r := rSum K) (cr_sum rfl) (by rfl) B.sum (by decide +kernel) (pa_cons (pe_lc (own := [("rest", 3), ("shift", 4), ("power", 5)]) (g := gTup K 3 (gCons (gName 3) (gCons (gName 4) (gCons (gName 5) (gNil))))) (tt := _) (by rfl) sc_term_sum.nd (pi_list (pv 0)) (blkOk_by (N := nm_term_sum) (sc := defScope s_term_sum) (by decide +kernel)) (fun _ _ _ _ _ => (by exact pg_tup rfl (pgs_cons (pg_name (i := 3) sc_term_sum.nd rfl (Or.inl rfl)) (pgs_cons (pg_name (i := 4) sc_term_sum.nd rfl (Or.inl rfl)) (pgs_cons (pg_name (i := 5) sc_term_sum.nd rfl (Or.inl rfl)) pgs_nil))))) (fun _ _ _ _ _ => (pts_one (pt_cmpR op_le (pv 4) (pv 2) (nomark _)))) (fun _ _ _ _ _ => (pe_op op_mulV (pv 3) (pe_ix (r := rIxL K) ix_list (pe_ix (r := rIxL K) ix_list (pv 1) (pv 5) (fun _ _ => rfl)) (pe_op op_sub (pv 2) (pv 4)) (fun _ _ => rfl))))) pa_nil)))), ?_⟩
    refine s_ret (v := .int (tmSum (pick xa xb xc) ts n)) (ev_cbL (el_trip (xs := rs.map V.ref) (fun i => decide ((ts[i]?.getD ⟨0, 0, 0⟩).s ≤ n)) (fun i => V.int ((ts[i]?.getD ⟨0, 0, 0⟩).r * pick xa xb xc (ts[i]?.getD ⟨0, 0, 0⟩).k (n - (ts[i]?.getD ⟨0, 0, 0⟩).s)))
      ((eg_list (ev_var rfl) (sq_of ha)).i fun H2 e2 => sq_of (e2 _ _ ha)) (by rw [List.length_map]; omega) (fun _ _ _ => rfl) fun m x hx => ?_) fun p2 H2 g2 e2 => ?_) fun H3 e3 => q H3 e3
    · obtain ⟨r, t, ht, rfl, hr1⟩ := hT.item hx
      rw [ht]
      have O := hO t (List.mem_of_getElem? ht)
      have o1 := O.r
      have o2 := O.s
      have o3 := O.k
      refine ⟨r, _, _, _, rfl, st_of hr1, et_test (ev_is (ev_op (ev_var rfl) (ev_var rfl) rv_I0) ?_), fun hs => ?_⟩
      · show V.bl (decide ((t.s : Int) ≤ (n : Int))) = V.bl (decide (t.s ≤ n))
        congr 1
        exact decide_eq_decide.mpr (by omega)
      · have hs : t.s ≤ n := of_decide_eq_true hs
        have pk : ∃ (qk : Addr) (xk : List Int), [V.ref q0, .ref q1, .ref q2, .ref q3][t.k]? = some (.ref qk) ∧ H qk = some (.lst (xk.map V.int)) ∧ n ≤ xk.length ∧ sq xk (n - t.s) = pick xa xb xc t.k (n - t.s) := by
          match t.k, o3 with
          | 0, _ => exact ⟨q0, x0, rfl, h0, n0, h1s _ (by omega)⟩
          | 1, _ => exact ⟨q1, xa, rfl, h1, na, rfl⟩
          | 2, _ => exact ⟨q2, xb, rfl, h2, nb, rfl⟩
          | 3, _ => exact ⟨q3, xc, rfl, h3, nc, rfl⟩
        obtain ⟨qk, xk, k1, k2, k3, k4⟩ := pk
        refine ev_is (ev_op (ev_var rfl) (ev_op (ev_op (ev_var rfl) (ev_var rfl) (rv_ixL (sq_of hl) (atI_nat k1))) (ev_op (ev_var rfl) (ev_var rfl) rv_I0) (rv_at (sq_of k2) (n := n - t.s) (by omega) (by omega))) (rv_I (mul_l (by omega)))) ?_
        rw [k4]
        rfl
    · have e : given (rs.map V.ref).length (fun i => decide ((ts[i]?.getD ⟨0, 0, 0⟩).s ≤ n)) (fun i => V.int ((ts[i]?.getD ⟨0, 0, 0⟩).r * pick xa xb xc (ts[i]?.getD ⟨0, 0, 0⟩).k (n - (ts[i]?.getD ⟨0, 0, 0⟩).s))) =
        (((List.range ts.length).filter fun i => decide ((ts[i]?.getD ⟨0, 0, 0⟩).s ≤ n)).map fun i => (ts[i]?.getD ⟨0, 0, 0⟩).r * pick xa xb xc (ts[i]?.getD ⟨0, 0, 0⟩).k (n - (ts[i]?.getD ⟨0, 0, 0⟩).s)).map V.int := by
        unfold given
        rw [List.map_map, List.length_map, lr]
        rfl
      rw [e] at g2
      have g := rc_sum (K := K) (sq_of g2)
      rw [sum_given] at g
      have e2 : ((List.range ts.length).map fun i => if decide ((ts[i]?.getD ⟨0, 0, 0⟩).s ≤ n) = true then (ts[i]?.getD ⟨0, 0, 0⟩).r * pick xa xb xc (ts[i]?.getD ⟨0, 0, 0⟩).k (n - (ts[i]?.getD ⟨0, 0, 0⟩).s) else 0) = ts.map fun t => tmAt (pick xa xb xc) t n := by
        apply List.ext_getElem?
        intro i
        rw [List.getElem?_map, List.getElem?_map]
        by_cases h : i < ts.length
        · rw [List.getElem?_range h, List.getElem?_eq_getElem h]
          simp only [Option.map_some, List.getElem?_eq_getElem h, Option.getD_some]
          unfold tmAt
          by_cases h2 : (ts[i]).s ≤ n
          · rw [if_pos (decide_eq_true h2), if_pos h2]
          · rw [if_neg (by rw [decide_eq_false h2]; decide), if_neg h2]
        · rw [List.getElem?_eq_none (by rw [List.length_range]; omega), List.getElem?_eq_none (by omega)]
          rfl
      rw [e2] at g
      exact g
/-! ### grown -/
def spGrown : Sp := fun vs H Q _ => ∃ (p : Int) (a : Addr) (rs : List Addr) (ts : List Tm) (n : Nat), vs = [.int p, .ref a, .int (n : Int)] ∧ Prm p ∧ H a = some (.lst (rs.map V.ref)) ∧ TmsR H rs ts ∧ (∀ t ∈ ts, TmOk p t) ∧ 1 ≤ ts.length ∧ ts.length ≤ 6 ∧ 1 ≤ n ∧ n ≤ 20 ∧ RetL ((grA p ts n).map V.int) H Q
theorem ok_grown {f : Addr} {fd : FuncData} (D : Dat K mg "grown" s_grown ["prime", "terms", "many"] f fd) {a_PRIMES : Addr} {t_MOST_CUT : Tok} {t_MOST_RULED : Tok} {t_MOST_PLACES : Tok} {t_MOST_TERMS : Tok} {a_PowerError : Addr} {a_BadPrime : Addr} {a_BadRow : Addr} {a_BadCount : Addr} {a_BadRule : Addr} {a_BadPlaces : Addr} {a_BadTerms : Addr} {a_NoPart : Addr} {a_NoInside : Addr} {a_NoRoot : Addr} {a_Answer : Addr} {a_Alike : Addr} {a_Unlike : Addr} {a_Ruled : Addr} {a_Barred : Addr} (B : Blt K mg a_PRIMES t_MOST_CUT t_MOST_RULED t_MOST_PLACES t_MOST_TERMS a_PowerError a_BadPrime a_BadRow a_BadCount a_BadRule a_BadPlaces a_BadTerms a_NoPart a_NoInside a_NoRoot a_Answer a_Alike a_Unlike a_Ruled a_Barred) (C_need_prime : Cal P w K mg base CX0 "need_prime" 2 ["prime"] spNeedPrime) (C_need_terms : Cal P w K mg base CX0 "need_terms" 6 ["prime", "terms"] spNeedTerms) (C_need_count_within : Cal P w K mg base CX0 "need_count_within" 3 ["many", "least", "most"] spNeedCountW)
    (C_term_sum : Cal P w K mg base CX0 "term_sum" 1 ["terms", "powers", "place"] (spTermSum K)) (C_product_place : Cal P w K mg base CX0 "product_place" 1 ["one", "other", "place"] (spPlace K)) : Cal P w K mg base CX0 "grown" 10 ["prime", "terms", "many"] spGrown := by
  refine D.cal (D.F.ok sc_grown (fun vs H Q E h => ?_) (fun cdv A outer s H vs Q E hr h => ?_))
  · obtain ⟨p, a, rs, ts, n, rfl, _⟩ := h
    rfl
  · obtain ⟨p, a, rs, ts, n, rfl, hp, ha, hT, hO, l1, l6, n1, n20, q⟩ := h
    have p2 := hp.pos
    refine ⟨_, (pss_cons (ps_expr (pe_c0 C_need_prime (hr.mono (by decide)) (pa_cons (pv 0) pa_nil)))
    (pss_cons (ps_expr (pe_c0 C_need_terms (hr.mono (by decide)) (pa_cons (pv 0) (pa_cons (pv 1) pa_nil))))
    (pss_cons (ps_expr (pe_c0 C_need_count_within (hr.mono (by decide)) (pa_cons (pv 2) (pa_cons pe_int (pa_cons pe_int pa_nil)))))
    (pss_cons (ps_set (i := 3) sc_grown.nd rfl (Or.inl rfl) (pe_lst (pa_cons (pe_lst pa_nil) (pa_cons (pe_lst pa_nil) (pa_cons (pe_lst pa_nil) (pa_cons (pe_lst pa_nil) pa_nil))))))
    (pss_cons (ps_for PassesOwn.never rfl (pi_range1 rfl B.range (pa_cons (pv 2) pa_nil)) (pg_name (i := 4) sc_grown.nd rfl (Or.inl rfl)) (pss_cons (ps_expr (pe_bm PySem.F.plainAttrs_list PySem.F.slot_list_append PySem.F.type_list_append mt_append (pe_ix (r := rIxL K) ix_list (pv 3) pe_int (fun _ _ => rfl)) (pa_cons (pe_ifExp (pt_cmpR op_eq (pv 4) pe_int (nomark _)) pe_int pe_int) pa_nil)))
    (pss_cons (ps_expr (pe_bm PySem.F.plainAttrs_list PySem.F.slot_list_append PySem.F.type_list_append mt_append (pe_ix (r := rIxL K) ix_list (pv 3) pe_int (fun _ _ => rfl)) (pa_cons (pe_op op_mod (pe_c0 C_term_sum (hr.mono (by decide)) (pa_cons (pv 1) (pa_cons (pv 3) (pa_cons (pv 4) pa_nil)))) (pv 0)) pa_nil)))
    (pss_cons (ps_expr (pe_bm PySem.F.plainAttrs_list PySem.F.slot_list_append PySem.F.type_list_append mt_append (pe_ix (r := rIxL K) ix_list (pv 3) pe_int (fun _ _ => rfl)) (pa_cons (pe_op op_mod (pe_c0 C_product_place (hr.mono (by decide)) (pa_cons (pe_ix (r := rIxL K) ix_list (pv 3) pe_int (fun _ _ => rfl)) (pa_cons (pe_ix (r := rIxL K) ix_list (pv 3) pe_int (fun _ _ => rfl)) (pa_cons (pv 4) pa_nil)))) (pv 0)) pa_nil)))
    (pss_one (ps_expr (pe_bm PySem.F.plainAttrs_list PySem.F.slot_list_append PySem.F.type_list_append mt_append (pe_ix (r := rIxL K) ix_list (pv 3) pe_int (fun _ _ => rfl)) (pa_cons (pe_op op_mod (pe_c0 C_product_place (hr.mono (by decide)) (pa_cons (pe_ix (r := rIxL K) ix_list (pv 3) pe_int (fun _ _ => rfl)) (pa_cons (pe_ix (r := rIxL K) ix_list (pv 3) pe_int (fun _ _ => rfl)) (pa_cons (pv 4) pa_nil)))) (pv 0)) pa_nil))))))))
    (pss_one (ps_ret (pe_ix (r := rIxL K) ix_list (pv 3) pe_int (fun _ _ => rfl))))))))), ?_⟩
    refine q_drop (ev_call (by walk_at "ev") (spv_need_prime hp)) fun H1 e1 => q_drop (ev_call (by walk_at "ev") (spv_need_terms (e1 _ _ ha) (hT.ex e1) hO l1 l6)) fun H2 e2 => q_drop (ev_call (by walk_at "ev") (spv_need_count_within (m := (n : Int)) (lo := 1) (hi := 20) (by omega) (by omega))) fun H3 e3 => ?_
    have e13 := (e1.trans e2).trans e3
    refine q_asg4L (xs1 := []) (xs2 := []) (xs3 := []) (xs4 := []) (el_lst ea_nil (by decide)) (el_lst ea_nil (by decide)) (el_lst ea_nil (by decide)) (el_lst ea_nil (by decide)) fun l q0 q1 q2 q3 H4 e4 hl h0 h1 h2 h3 ne n0 n1 n2 n3 nl => ?_
    obtain ⟨d01, d02, d03, d12, d13, d23, dl0, dl1, dl2, dl3⟩ := ne
    have nn0 := fresh_back e13 n0
    have nn1 := fresh_back e13 n1
    have nn2 := fresh_back e13 n2
    have nn3 := fresh_back e13 n3
    have nnl := fresh_back e13 nl
    refine q_forR1 (n := (n : Int)) (by walk_at "ev") (by omega) (fun i σ' H' => ∃ (z : Option V) (x0 : List Int), σ' = [some (.int p), some (.ref a), some (.int (n : Int)), some (.ref l), z] ∧ Ex H H' ∧ H' l = some (.lst [.ref q0, .ref q1, .ref q2, .ref q3]) ∧ H' q0 = some (.lst (x0.map V.int)) ∧ x0.length = i ∧ (∀ j, j < i → sq x0 j = one j) ∧
        H' q1 = some (.lst ((grA p ts i).map V.int)) ∧ H' q2 = some (.lst ((grB p ts i).map V.int)) ∧ H' q3 = some (.lst ((grC p ts i).map V.int)))
      (fun H5 e5 => ⟨none, [], rfl, (e13.trans e4).trans e5, e5 _ _ hl, e5 _ _ h0, rfl, fun j hj => absurd hj (Nat.not_lt_zero j), e5 _ _ h1, e5 _ _ h2, e5 _ _ h3⟩) (fun i σ' H' hi hP => ?_) fun σ' H' hP => ?_
    · obtain ⟨z, x0, rfl, e, hl, h0, hx0, hone, h1, h2, h3⟩ := hP
      have i20 : i < 20 := by omega
      have LA := grA_len p ts i
      have LB := grB_len p ts i
      have LC := grC_len p ts i
      -- the ones
      refine q_app h0 (ev_op (ev_var rfl) ev_c (rv_ixL (sq_of hl) rfl)) (v := .int (one i)) (ev_is (ev_if (v := .int (one i)) (b := decide (i = 0)) (et_test (ev_is (ev_op (ev_var rfl) ev_c (rv_eq rfl)) ?_)) (fun hb => ?_) fun hb => ?_) rfl) (by rw [List.length_map, hx0]; omega) fun H5 e5 => ?_
      · rw [dec_int]
        congr 1
        by_cases c : i = 0
        · rw [c]
          rfl
        · rw [decide_eq_false c, beq_eq_false_iff_ne]
          omega
      · have hb := of_decide_eq_true hb
        subst hb
        exact ev_c
      · have hb := of_decide_eq_false hb
        rw [show one i = 0 from if_neg hb]
        exact ev_c
      have m5 : Ex H (upd H5 q0 (.lst (x0.map V.int ++ [.int (one i)]))) := Ex.mut (e.trans e5) nn0
      have h05 : (upd H5 q0 (.lst (x0.map V.int ++ [.int (one i)]))) q0 = some (.lst ((x0 ++ [one i]).map V.int)) := by
        rw [upd_same, List.map_append]
        rfl
      have k5 : ∀ b o, b ≠ q0 → H' b = some o → (upd H5 q0 (.lst (x0.map V.int ++ [.int (one i)]))) b = some o := fun b o nb hb => by
        rw [upd_ne nb]
        exact e5 _ _ hb
      generalize upd H5 q0 (.lst (x0.map V.int ++ [.int (one i)])) = G5 at m5 h05 k5 ⊢
      have l5 := k5 l _ dl0 hl
      have h15 := k5 q1 _ (Ne.symm d01) h1
      have h25 := k5 q2 _ (Ne.symm d02) h2
      have h35 := k5 q3 _ (Ne.symm d03) h3
      -- the row's own place
      refine q_app h15 (ev_op (ev_var rfl) ev_c (rv_ixL (sq_of l5) rfl)) (v := .int (tmSum (pick (grA p ts i) (grB p ts i) (grC p ts i)) ts i % p)) (ev_op (ev_call (by walk_at "ev") fun H6 e6 Q6 k6 E6 => ⟨a, l, q0, q1, q2, q3, rs, ts, p, x0 ++ [one i], grA p ts i, grB p ts i, grC p ts i, i, rfl, e6 _ _ (m5 _ _ ha), hT.ex (m5.trans e6), hO, by omega, l6, e6 _ _ l5, e6 _ _ h05, e6 _ _ h15, e6 _ _ h25, e6 _ _ h35, ?_, by omega, by omega, by omega, ?_, by omega, k6⟩) (ev_var rfl) (rv_I (by walk_at "cond"))) (by rw [List.length_map, LA]; omega) fun H6 e6 => ?_
      · rw [List.length_append, hx0]
        omega
      · intro j hj
        rw [sq_append_left (by omega)]
        exact hone j hj
      have E6 : upd H6 q1 (.lst ((grA p ts i).map V.int ++ [.int (tmSum (pick (grA p ts i) (grB p ts i) (grC p ts i)) ts i % p)])) = upd H6 q1 (.lst ((grA p ts (i + 1)).map V.int)) := by
        rw [grA_succ, List.map_append]
        rfl
      rw [E6]
      have m6 : Ex H (upd H6 q1 (.lst ((grA p ts (i + 1)).map V.int))) := Ex.mut (m5.trans e6) nn1
      have h16 : (upd H6 q1 (.lst ((grA p ts (i + 1)).map V.int))) q1 = some (.lst ((grA p ts (i + 1)).map V.int)) := upd_same
      have k6 : ∀ b o, b ≠ q1 → G5 b = some o → (upd H6 q1 (.lst ((grA p ts (i + 1)).map V.int))) b = some o := fun b o nb hb => by
        rw [upd_ne nb]
        exact e6 _ _ hb
      generalize upd H6 q1 (.lst ((grA p ts (i + 1)).map V.int)) = G6 at m6 h16 k6 ⊢
      have l6' := k6 l _ dl1 l5
      have h06 := k6 q0 _ d01 h05
      have h26 := k6 q2 _ (Ne.symm d12) h25
      have h36 := k6 q3 _ (Ne.symm d13) h35
      have LA1 := grA_len p ts (i + 1)
      have LB1 := grB_len p ts (i + 1)
      have SA : Sml (grA p ts (i + 1)) := (grA_rowp (p := p) (by omega) ts (by omega) (by omega)).sml (by omega)
      -- its square's
      refine q_app h26 (ev_op (ev_var rfl) ev_c (rv_ixL (sq_of l6') rfl)) (v := .int (cv (sq (grA p ts (i + 1))) (sq (grA p ts (i + 1))) i % p)) (ev_op (ev_call (ea_cons (ev_op (ev_var rfl) ev_c (rv_ixL (v := .ref q1) (sq_of l6') rfl)) (ea_cons (ev_op (ev_var rfl) ev_c (rv_ixL (v := .ref q1) (sq_of l6') rfl)) (ea_cons (ev_var rfl) ea_nil))) (spv_place (n := i) (sq_of h16) (sq_of h16) SA (by omega) (by omega) (by omega))) (ev_var rfl) (rv_I (by walk_at "cond"))) (by rw [List.length_map, LB]; omega) fun H7 e7 => ?_
      have E7 : upd H7 q2 (.lst ((grB p ts i).map V.int ++ [.int (cv (sq (grA p ts (i + 1))) (sq (grA p ts (i + 1))) i % p)])) = upd H7 q2 (.lst ((grB p ts (i + 1)).map V.int)) := by
        rw [grB_succ, List.map_append]
        rfl
      rw [E7]
      have m7 : Ex H (upd H7 q2 (.lst ((grB p ts (i + 1)).map V.int))) := Ex.mut (m6.trans e7) nn2
      have h27 : (upd H7 q2 (.lst ((grB p ts (i + 1)).map V.int))) q2 = some (.lst ((grB p ts (i + 1)).map V.int)) := upd_same
      have k7 : ∀ b o, b ≠ q2 → G6 b = some o → (upd H7 q2 (.lst ((grB p ts (i + 1)).map V.int))) b = some o := fun b o nb hb => by
        rw [upd_ne nb]
        exact e7 _ _ hb
      generalize upd H7 q2 (.lst ((grB p ts (i + 1)).map V.int)) = G7 at m7 h27 k7 ⊢
      have l7 := k7 l _ dl2 l6'
      have h07 := k7 q0 _ d02 h06
      have h17 := k7 q1 _ d12 h16
      have h37 := k7 q3 _ (Ne.symm d23) h36
      have SB : Sml (grB p ts (i + 1)) := fun x hx => by
        have := grB_rest (p := p) (by omega) ts (i + 1) x hx
        omega
      -- its cube's
      refine s_app h37 (ev_op (ev_var rfl) ev_c (rv_ixL (sq_of l7) rfl)) (v := .int (cv (sq (grB p ts (i + 1))) (sq (grA p ts (i + 1))) i % p)) (ev_op (ev_call (ea_cons (ev_op (ev_var rfl) ev_c (rv_ixL (v := .ref q2) (sq_of l7) rfl)) (ea_cons (ev_op (ev_var rfl) ev_c (rv_ixL (v := .ref q1) (sq_of l7) rfl)) (ea_cons (ev_var rfl) ea_nil))) (spv_place (n := i) (sq_of h27) (sq_of h17) SB (by omega) (by omega) (by omega))) (ev_var rfl) (rv_I (by walk_at "cond"))) (by rw [List.length_map, LC]; omega) fun H8 e8 => ?_
      refine ⟨_, x0 ++ [one i], rfl, Ex.mut (m7.trans e8) nn3, ?_, ?_, by rw [List.length_append, hx0]; rfl, fun j hj => ?_, ?_, ?_, ?_⟩
      · rw [upd_ne dl3]
        exact e8 _ _ l7
      · rw [upd_ne d03]
        exact e8 _ _ h07
      · by_cases c : j = i
        · subst c
          have := sq_append_at (xs := x0) (y := one j)
          rw [hx0] at this
          exact this
        · rw [sq_append_left (by omega)]
          exact hone j (by omega)
      · rw [upd_ne d13]
        exact e8 _ _ h17
      · rw [upd_ne d23]
        exact e8 _ _ h27
      · rw [upd_same, grC_succ, List.map_append]
        rfl
    · obtain ⟨z, x0, rfl, e, hl, h0, hx0, hone, h1, h2, h3⟩ := hP
      rw [Int.toNat_natCast] at h1
      exact s_ret (ev_op (ev_var rfl) ev_c (rv_ixL (v := .ref q1) (sq_of hl) rfl)) fun H5 e5 => q q1 H5 nn1 (e.trans e5) (e5 _ _ h1)
theorem spl_grown {H : Hp} {p : Int} {a : Addr} {rs : List Addr} {ts : List Tm} {n : Nat} (hp : Prm p) (ha : H a = some (.lst (rs.map V.ref))) (hT : TmsR H rs ts) (hO : ∀ t ∈ ts, TmOk p t) (l1 : 1 ≤ ts.length) (l6 : ts.length ≤ 6) (n1 : 1 ≤ n) (n2 : n ≤ 20) : SpL spGrown [.int p, .ref a, .int (n : Int)] H ((grA p ts n).map V.int) :=
  fun H1 e Q q E => ⟨p, a, rs, ts, n, rfl, hp, e _ _ ha, hT.ex e, hO, l1, l6, n1, n2, q⟩

/-! ### first_places, whole_product -/
def spFirst : Sp := fun vs H Q _ => ∃ (a : Addr) (xs : List Int) (m : Nat), vs = [.ref a, .int (m : Int)] ∧ H a = some (.lst (xs.map V.int)) ∧ xs.length ≤ 1000 ∧ m ≤ 1000 ∧ RetL ((firstL xs m).map V.int) H Q
theorem ok_first_places {f : Addr} {fd : FuncData} (D : Dat K mg "first_places" s_first_places ["row", "many"] f fd) {a_PRIMES : Addr} {t_MOST_CUT : Tok} {t_MOST_RULED : Tok} {t_MOST_PLACES : Tok} {t_MOST_TERMS : Tok} {a_PowerError : Addr} {a_BadPrime : Addr} {a_BadRow : Addr} {a_BadCount : Addr} {a_BadRule : Addr} {a_BadPlaces : Addr} {a_BadTerms : Addr} {a_NoPart : Addr} {a_NoInside : Addr} {a_NoRoot : Addr} {a_Answer : Addr} {a_Alike : Addr} {a_Unlike : Addr} {a_Ruled : Addr} {a_Barred : Addr} (B : Blt K mg a_PRIMES t_MOST_CUT t_MOST_RULED t_MOST_PLACES t_MOST_TERMS a_PowerError a_BadPrime a_BadRow a_BadCount a_BadRule a_BadPlaces a_BadTerms a_NoPart a_NoInside a_NoRoot a_Answer a_Alike a_Unlike a_Ruled a_Barred) : Cal P w K mg base CX0 "first_places" 1 ["row", "many"] spFirst := by
  refine D.cal (D.F.ok sc_first_places (fun vs H Q E h => ?_) (fun cdv A outer s H vs Q E hr h => ?_))
  · obtain ⟨a, xs, m, rfl, _⟩ := h
    rfl
  · obtain ⟨a, xs, m, rfl, ha, hx, hm, q⟩ := h
    refine ⟨_, (pss_one (ps_ret (pe_slice (r := rSlL K) sl_list (pe_op op_cat (pv 0) (pe_op op_rep (pe_lst (pa_cons pe_int pa_nil)) (pv 1))) po_none (po_some (pv 1))))), ?_⟩
    refine s_retL (el_is (el_slL (xs := (xs ++ List.replicate m 0).map V.int) (el_is (el_catR (ev_var rfl) ha (el_rep (n := (m : Int)) (el_lst (ea_cons ev_c ea_nil) (by decide)) (ev_var rfl) (by omega) rfl) ?_) ?_) eo_none (eo_some (ev_var rfl))) ?_) fun p3 H3 h3 e3 h4 => q p3 H3 h3 e3 h4
    · rw [Int.toNat_natCast, rep_one, List.length_replicate, List.length_map]
      omega
    · rw [Int.toNat_natCast, rep_one, List.map_append, List.map_replicate]
    · rw [cut_to, firstL_take]
theorem spl_first {H : Hp} {a : Addr} {xs : List Int} {m : Nat} (ha : H a = some (.lst (xs.map V.int))) (hx : xs.length ≤ 1000) (hm : m ≤ 1000) : SpL spFirst [.ref a, .int (m : Int)] H ((firstL xs m).map V.int) := fun H1 e Q q E => ⟨a, xs, m, rfl, e _ _ ha, hx, hm, q⟩

/-! ### the row of a rule, as a list -/
def serL (p : Int) (xs ys : List Int) (m : Nat) : List Int := (List.range m).map (ser p (sq xs) (sq ys))
theorem serL_len (p : Int) (xs ys : List Int) (m : Nat) : (serL p xs ys m).length = m := by
  unfold serL
  rw [List.length_map, List.length_range]
theorem sq_serL {p : Int} {xs ys : List Int} {m n : Nat} (h : n < m) : sq (serL p xs ys m) n = ser p (sq xs) (sq ys) n := sq_map_range h
theorem serL_rest {p : Int} (hp : 0 < p) (xs ys : List Int) (m : Nat) : ∀ x ∈ serL p xs ys m, 0 ≤ x ∧ x < p := fun x hx => by
  obtain ⟨i, _, rfl⟩ := List.mem_map.mp hx
  exact ser_rest hp _ _ i
theorem inv_one {p : Int} (hp : Prm p) : inv p 1 = 1 := by
  have p2 := hp.pos
  have h : ∀ n, powm p 1 n = 1 := fun n => by
    induction n with
    | zero => rfl
    | succ n ih =>
      show powm p 1 n * 1 % p = 1
      rw [ih]
      exact Int.emod_eq_of_lt (by decide) (by omega)
  exact h _

/-! ### opened -/
def spOpened : Sp := fun vs H Q _ => ∃ (p : Int) (r a b : Addr) (xs ys : List Int) (m : Nat), vs = [.int p, .ref r, .int (m : Int)] ∧ Prm p ∧ RuleAt H r a b xs ys ∧ RuleOk p xs ys ∧ m ≤ 400 ∧ RetL ((serL p xs ys m).map V.int) H Q
theorem ok_opened {f : Addr} {fd : FuncData} (D : Dat K mg "opened" s_opened ["prime", "rule", "many"] f fd) {a_PRIMES : Addr} {t_MOST_CUT : Tok} {t_MOST_RULED : Tok} {t_MOST_PLACES : Tok} {t_MOST_TERMS : Tok} {a_PowerError : Addr} {a_BadPrime : Addr} {a_BadRow : Addr} {a_BadCount : Addr} {a_BadRule : Addr} {a_BadPlaces : Addr} {a_BadTerms : Addr} {a_NoPart : Addr} {a_NoInside : Addr} {a_NoRoot : Addr} {a_Answer : Addr} {a_Alike : Addr} {a_Unlike : Addr} {a_Ruled : Addr} {a_Barred : Addr} (B : Blt K mg a_PRIMES t_MOST_CUT t_MOST_RULED t_MOST_PLACES t_MOST_TERMS a_PowerError a_BadPrime a_BadRow a_BadCount a_BadRule a_BadPlaces a_BadTerms a_NoPart a_NoInside a_NoRoot a_Answer a_Alike a_Unlike a_Ruled a_Barred) (C_need_prime : Cal P w K mg base CX0 "need_prime" 2 ["prime"] spNeedPrime) (C_need_rule : Cal P w K mg base CX0 "need_rule" 6 ["prime", "rule"] spNeedRule)
    (C_need_count_within : Cal P w K mg base CX0 "need_count_within" 3 ["many", "least", "most"] spNeedCountW) (C_first_places : Cal P w K mg base CX0 "first_places" 1 ["row", "many"] spFirst) (C_quotient : Cal P w K mg base CX0 "quotient" 2 ["prime", "one", "other"] (spQuotient K)) : Cal P w K mg base CX0 "opened" 10 ["prime", "rule", "many"] spOpened := by
  refine D.cal (D.F.ok sc_opened (fun vs H Q E h => ?_) (fun cdv A outer s H vs Q E hr h => ?_))
  · obtain ⟨p, r, a, b, xs, ys, m, rfl, _⟩ := h
    rfl
  · obtain ⟨p, r, a, b, xs, ys, m, rfl, hp, R, O, hm, q⟩ := h
    have p2 := hp.pos
    have t8 := O.t8
    have b1 := O.b1
    have b8 := O.b8
    refine ⟨_, (pss_cons (ps_expr (pe_c0 C_need_prime (hr.mono (by decide)) (pa_cons (pv 0) pa_nil)))
    (pss_cons (ps_expr (pe_c0 C_need_rule (hr.mono (by decide)) (pa_cons (pv 0) (pa_cons (pv 1) pa_nil))))
    (pss_cons (ps_expr (pe_c0 C_need_count_within (hr.mono (by decide)) (pa_cons (pv 2) (pa_cons pe_int (pa_cons pe_int pa_nil)))))
    (pss_cons (ps_asg (pv 1) (pg_tup rfl (pgs_cons (pg_name (i := 3) sc_opened.nd rfl (Or.inl rfl)) (pgs_cons (pg_name (i := 4) sc_opened.nd rfl (Or.inl rfl)) pgs_nil))))
    (pss_one (ps_ret (pe_c0 C_quotient (hr.mono (by decide)) (pa_cons (pv 0) (pa_cons (pe_c0 C_first_places (hr.mono (by decide)) (pa_cons (pv 3) (pa_cons (pv 2) pa_nil))) (pa_cons (pe_op op_cat (pv 4) (pe_op op_rep (pe_lst (pa_cons pe_int pa_nil)) (pv 2))) pa_nil)))))))))), ?_⟩
    refine q_drop (ev_call (by walk_at "ev") (spv_need_prime hp)) fun H1 e1 => q_drop (ev_call (by walk_at "ev") (spv_need_rule (R.ex e1) O)) fun H2 e2 => q_drop (ev_call (by walk_at "ev") (spv_need_count_within (m := (m : Int)) (lo := 0) (hi := 400) (by omega) (by omega))) fun H3 e3 => ?_
    have e13 := (e1.trans e2).trans e3
    refine q_unp2 (ev_var rfl) (st_of (e13 _ _ R.r)) fun H4 e4 => ?_
    have R4 := R.ex (e13.trans e4)
    have z0 : sq (ys ++ List.replicate m 0) 0 = 1 := by rw [sq_zeros, O.b0]
    refine s_retL (el_is (el_callP (zs := (quo p (inv p (sq (ys ++ List.replicate m 0) 0)) (sq (firstL xs m)) (sq (ys ++ List.replicate m 0)) (min (firstL xs m).length (ys ++ List.replicate m 0).length)).map V.int) (eap_cons (ev_var rfl) (eap_consL (el_call (by walk_at "ev") (spl_first (m := m) R4.a (by omega) (by omega))) (eap_consL (xs := (ys ++ List.replicate m 0).map V.int) (el_is (el_catR (ev_var rfl) R4.b (el_rep (n := (m : Int)) (el_lst (ea_cons ev_c ea_nil) (by decide)) (ev_var rfl) (by omega) rfl) ?_) ?_) eap_nil))) fun vs H5 e5 hP => ?_) ?_) fun p3 H5 h5 e5 h6 => q.go (e13.trans e4) h5 e5 h6
    · rw [Int.toNat_natCast, rep_one, List.length_replicate, List.length_map]
      omega
    · rw [Int.toNat_natCast, rep_one, List.map_append, List.map_replicate]
    · obtain ⟨_, rfl, t1, _, rfl, h1, _, t2, _, rfl, h2, _, rfl⟩ := hP
      exact spl_quotient hp (sq_of h1) (sq_of h2) (by rw [List.length_append]; omega) (by rw [z0]; decide) (by rw [z0]; omega) (by rw [firstL_len]; omega)
    · rw [z0, inv_one hp, firstL_len, List.length_append, List.length_replicate, show min m (ys.length + m) = m by omega]
      congr 1
      rw [quo_congr m (t' := sq xs) (b' := sq ys) (fun i hi => sq_first hi) (fun i hi => sq_zeros _ _ _), ser_quo]
      rfl
theorem spl_opened {H : Hp} {p : Int} {r a b : Addr} {xs ys : List Int} {m : Nat} (hp : Prm p) (R : RuleAt H r a b xs ys) (O : RuleOk p xs ys) (hm : m ≤ 400) : SpL spOpened [.int p, .ref r, .int (m : Int)] H ((serL p xs ys m).map V.int) := fun H1 e Q q E => ⟨p, r, a, b, xs, ys, m, rfl, hp, R.ex e, O, hm, q⟩

/-! ### what may be handed in, of any sort -/
inductive AnyV (H : Hp) : V → String → Prop where
  | non : AnyV H .non "NoneType"
  | bl (b : Bool) : AnyV H (.bl b) "bool"
  | int (i : Int) : AnyV H (.int i) "int"
  | str (s : Str) : AnyV H (.str s) "str"
  | lst {a : Addr} {xs : List V} (e : H a = some (.lst xs)) : AnyV H (.ref a) "list"
  | tup {a : Addr} {xs : List V} (e : H a = some (.tup xs)) : AnyV H (.ref a) "tuple"
  | dct {a : Addr} {kvs : List (Key × V)} (e : H a = some (.dK kvs)) : AnyV H (.ref a) "dict"
theorem AnyV.ex {H H' : Hp} {x : V} {t : String} (e : Ex H H') (h : AnyV H x t) : AnyV H' x t := by
  cases h with
  | non => exact .non
  | bl b => exact .bl b
  | int i => exact .int i
  | str s => exact .str s
  | lst h => exact .lst (e _ _ h)
  | tup h => exact .tup (e _ _ h)
  | dct h => exact .dct (e _ _ h)
theorem AnyV.ty {H : Hp} {x : V} {t : String} (h : AnyV H x t) : TyX K H x (.type t) := by
  cases h with
  | non => exact .base .non
  | bl b => exact .base (.bl b)
  | int i => exact .base (.int i)
  | str s => exact .base (.str s)
  | lst h => exact .base (.lst h)
  | tup h => exact .base (.tup h)
  | dct h => exact .base (.dK h)
def Any (H : Hp) (x : V) : Prop := ∃ t, AnyV H x t
theorem Any.ex {H H' : Hp} {x : V} (e : Ex H H') (h : Any H x) : Any H' x := ⟨h.choose, h.choose_spec.ex e⟩
theorem rc_anyv {H : Hp} {x : V} {t c : String} {b : Bool} (h : AnyV H x t) (hb : kitB t c = some b) : RC (rIsi K) [x, .ty c] H (.bl b) := rc_isi h.ty (fun _ e => (h.ex e).ty) hb
def numB : V → Bool
  | .int _ => true
  | _ => false
theorem any_num {H : Hp} {x : V} {t : String} (h : AnyV H x t) : ∃ i b, kitB t "int" = some i ∧ kitB t "bool" = some b ∧ (i && !b) = numB x := by
  cases h with
  | non => exact ⟨false, false, by decide +kernel, by decide +kernel, rfl⟩
  | bl b => exact ⟨true, true, by decide +kernel, by decide +kernel, rfl⟩
  | int i => exact ⟨true, false, by decide +kernel, by decide +kernel, rfl⟩
  | str s => exact ⟨false, false, by decide +kernel, by decide +kernel, rfl⟩
  | lst h => exact ⟨false, false, by decide +kernel, by decide +kernel, rfl⟩
  | tup h => exact ⟨false, false, by decide +kernel, by decide +kernel, rfl⟩
  | dct h => exact ⟨false, false, by decide +kernel, by decide +kernel, rfl⟩
theorem any_list {H : Hp} {x : V} {t : String} (h : AnyV H x t) (n : t ≠ "list") : kitB t "list" = some false := by
  cases h <;> first | exact absurd rfl n | decide +kernel
theorem any_tuple {H : Hp} {x : V} {t : String} (h : AnyV H x t) (n : t ≠ "tuple") : kitB t "tuple" = some false := by
  cases h <;> first | exact absurd rfl n | decide +kernel
def withinB (lo hi : Int) : V → Bool
  | .int i => decide (lo ≤ i) && decide (i ≤ hi)
  | _ => false
def restB (p : Int) (x : V) : Bool := withinB 0 (p - 1) x
theorem numB_int {x : V} (h : numB x = true) : ∃ i, x = .int i := by
  cases x <;> first | exact ⟨_, rfl⟩ | cases h
theorem withinB_not {lo hi : Int} {x : V} (h : numB x = false) : withinB lo hi x = false := by
  cases x <;> first | rfl | cases h
/-- are_rests' answer -/
def AreR (H : Hp) (p lo hi : Int) (x : V) (b : Bool) : Prop :=
  (∃ a vs, x = .ref a ∧ H a = some (.lst vs) ∧ vs.length ≤ 1000 ∧ (∀ v ∈ vs, Any H v) ∧ b = ((decide (lo ≤ (vs.length : Int)) && decide ((vs.length : Int) ≤ hi)) && vs.all (restB p))) ∨ (∃ t, AnyV H x t ∧ t ≠ "list" ∧ b = false)
theorem AreR.ex {H H' : Hp} {p lo hi : Int} {x : V} {b : Bool} (e : Ex H H') (h : AreR H p lo hi x b) : AreR H' p lo hi x b := by
  rcases h with ⟨a, vs, h1, h2, h3, h4, h5⟩ | ⟨t, h1, h2⟩
  · exact .inl ⟨a, vs, h1, e _ _ h2, h3, fun v hv => (h4 v hv).ex e, h5⟩
  · exact .inr ⟨t, h1.ex e, h2⟩
theorem all_rangeV (f : V → Bool) : ∀ vs : List V, ((List.range vs.length).map fun i => f (vs[i]?.getD .non)).all id = vs.all f
  | [] => rfl
  | x :: r => by
    rw [List.length_cons, List.range_succ_eq_map, List.map_cons, List.map_map, List.all_cons, List.all_cons, ← all_rangeV f r]
    rfl
theorem et_isV {σ : L2.St} {H : Hp} {t : TT} {a b : Bool} (h : EvT t σ H a) (e : a = b) : EvT t σ H b := et_is h e
/-! is_number, is_within, is_rest, are_rests, of anything -/
def spNumG : Sp := fun vs H Q _ => ∃ x, vs = [x] ∧ Any H x ∧ RetV (.bl (numB x)) H Q
theorem ok_is_number_g {f : Addr} {fd : FuncData} (D : Dat K mg "is_number" s_is_number ["thing"] f fd) {a_PRIMES : Addr} {t_MOST_CUT : Tok} {t_MOST_RULED : Tok} {t_MOST_PLACES : Tok} {t_MOST_TERMS : Tok} {a_PowerError : Addr} {a_BadPrime : Addr} {a_BadRow : Addr} {a_BadCount : Addr} {a_BadRule : Addr} {a_BadPlaces : Addr} {a_BadTerms : Addr} {a_NoPart : Addr} {a_NoInside : Addr} {a_NoRoot : Addr} {a_Answer : Addr} {a_Alike : Addr} {a_Unlike : Addr} {a_Ruled : Addr} {a_Barred : Addr} (B : Blt K mg a_PRIMES t_MOST_CUT t_MOST_RULED t_MOST_PLACES t_MOST_TERMS a_PowerError a_BadPrime a_BadRow a_BadCount a_BadRule a_BadPlaces a_BadTerms a_NoPart a_NoInside a_NoRoot a_Answer a_Alike a_Unlike a_Ruled a_Barred) : Cal P w K mg base CX0 "is_number" 1 ["thing"] spNumG := by
  refine D.cal (D.F.ok sc_is_number (fun vs H Q E h => ?_) (fun cdv A outer s H vs Q E hr h => ?_))
  · obtain ⟨x, rfl, _⟩ := h
    rfl
  · obtain ⟨x, rfl, ⟨t, hx⟩, q⟩ := h
    obtain ⟨i, b, h1, h2, h3⟩ := any_num hx
    refine ⟨_, (pss_one (ps_ret (pe_and (pe_callB (r := rIsi K) call_isi (by rfl) B.isinstance (by decide +kernel) (pa_cons (pv 0) (pa_cons (pe_bltn (v := .ty "int") (by rfl) B.int (by decide +kernel) rfl) pa_nil))) (pe_one (pe_not (pe_callB (r := rIsi K) call_isi (by rfl) B.isinstance (by decide +kernel) (pa_cons (pv 0) (pa_cons (pe_bltn (v := .ty "bool") (by rfl) B.bool (by decide +kernel) rfl) pa_nil)))))))), ?_⟩
    exact s_ret (v := .bl (numB x)) (ev_is (ev_andV (a := i) (b := !b) (ev_cb (ea_cons (ev_var rfl) (ea_cons ev_c ea_nil)) (rc_anyv hx h1)) fun _ => ev_notV (a := b) (ev_cb (ea_cons (ev_var rfl) (ea_cons ev_c ea_nil)) (rc_anyv hx h2))) (by rw [h3])) fun H1 e => q H1 e
theorem spv_num_g {H : Hp} {x : V} (hx : Any H x) : SpV spNumG [x] H (.bl (numB x)) := fun H1 e Q q E => ⟨x, rfl, hx.ex e, q⟩
def spWithinG : Sp := fun vs H Q _ => ∃ (x : V) (lo hi : Int), vs = [x, .int lo, .int hi] ∧ Any H x ∧ RetV (.bl (withinB lo hi x)) H Q
theorem ok_is_within_g {f : Addr} {fd : FuncData} (D : Dat K mg "is_within" s_is_within ["thing", "least", "most"] f fd) {a_PRIMES : Addr} {t_MOST_CUT : Tok} {t_MOST_RULED : Tok} {t_MOST_PLACES : Tok} {t_MOST_TERMS : Tok} {a_PowerError : Addr} {a_BadPrime : Addr} {a_BadRow : Addr} {a_BadCount : Addr} {a_BadRule : Addr} {a_BadPlaces : Addr} {a_BadTerms : Addr} {a_NoPart : Addr} {a_NoInside : Addr} {a_NoRoot : Addr} {a_Answer : Addr} {a_Alike : Addr} {a_Unlike : Addr} {a_Ruled : Addr} {a_Barred : Addr} (B : Blt K mg a_PRIMES t_MOST_CUT t_MOST_RULED t_MOST_PLACES t_MOST_TERMS a_PowerError a_BadPrime a_BadRow a_BadCount a_BadRule a_BadPlaces a_BadTerms a_NoPart a_NoInside a_NoRoot a_Answer a_Alike a_Unlike a_Ruled a_Barred) (C_is_number_g : Cal P w K mg base CX0 "is_number" 1 ["thing"] spNumG) : Cal P w K mg base CX0 "is_within" 2 ["thing", "least", "most"] spWithinG := by
  have C_is_number := C_is_number_g
  refine D.cal (D.F.ok sc_is_within (fun vs H Q E h => ?_) (fun cdv A outer s H vs Q E hr h => ?_))
  · obtain ⟨x, lo, hi, rfl, _⟩ := h
    rfl
  · obtain ⟨x, lo, hi, rfl, hx, q⟩ := h
    refine ⟨_, (pss_one (ps_ret (pe_and (pe_c0 C_is_number (hr.mono (by decide)) (pa_cons (pv 0) pa_nil)) (pe_one (pe_chain op_le op_le (pv 1) (pv 0) (pv 2)))))), ?_⟩
    refine s_ret (v := .bl (withinB lo hi x)) (ev_is (ev_andV (a := numB x) (b := withinB lo hi x) (ev_call (by walk_at "ev") (spv_num_g hx)) fun hn => ?_) ?_) fun H1 e => q H1 e
    · obtain ⟨i, rfl⟩ := numB_int hn
      exact ev_chain (ev_var rfl) (ev_var rfl) rv_I0 (fun _ => ev_var rfl) (fun _ => rv_I0)
    · congr 1
      cases hn : numB x
      · rw [withinB_not hn]
        rfl
      · rfl
theorem spv_within_g {H : Hp} {x : V} {lo hi : Int} (hx : Any H x) : SpV spWithinG [x, .int lo, .int hi] H (.bl (withinB lo hi x)) := fun H1 e Q q E => ⟨x, lo, hi, rfl, hx.ex e, q⟩
def spRestG : Sp := fun vs H Q _ => ∃ (p : Int) (x : V), vs = [.int p, x] ∧ Any H x ∧ RetV (.bl (restB p x)) H Q
theorem ok_is_rest_g {f : Addr} {fd : FuncData} (D : Dat K mg "is_rest" s_is_rest ["prime", "thing"] f fd) {a_PRIMES : Addr} {t_MOST_CUT : Tok} {t_MOST_RULED : Tok} {t_MOST_PLACES : Tok} {t_MOST_TERMS : Tok} {a_PowerError : Addr} {a_BadPrime : Addr} {a_BadRow : Addr} {a_BadCount : Addr} {a_BadRule : Addr} {a_BadPlaces : Addr} {a_BadTerms : Addr} {a_NoPart : Addr} {a_NoInside : Addr} {a_NoRoot : Addr} {a_Answer : Addr} {a_Alike : Addr} {a_Unlike : Addr} {a_Ruled : Addr} {a_Barred : Addr} (B : Blt K mg a_PRIMES t_MOST_CUT t_MOST_RULED t_MOST_PLACES t_MOST_TERMS a_PowerError a_BadPrime a_BadRow a_BadCount a_BadRule a_BadPlaces a_BadTerms a_NoPart a_NoInside a_NoRoot a_Answer a_Alike a_Unlike a_Ruled a_Barred) (C_is_within_g : Cal P w K mg base CX0 "is_within" 2 ["thing", "least", "most"] spWithinG) : Cal P w K mg base CX0 "is_rest" 3 ["prime", "thing"] spRestG := by
  have C_is_within := C_is_within_g
  refine D.cal (D.F.ok sc_is_rest (fun vs H Q E h => ?_) (fun cdv A outer s H vs Q E hr h => ?_))
  · obtain ⟨p, x, rfl, _⟩ := h
    rfl
  · obtain ⟨p, x, rfl, hx, q⟩ := h
    refine ⟨_, (pss_one (ps_ret (pe_c0 C_is_within (hr.mono (by decide)) (pa_cons (pv 1) (pa_cons pe_int (pa_cons (pe_op op_sub (pv 0) pe_int) pa_nil)))))), ?_⟩
    exact s_ret (v := .bl (restB p x)) (ev_call (ea_cons (ev_var rfl) (ea_cons ev_c (ea_cons (ev_op (ev_var rfl) ev_c rv_I0) ea_nil))) (spv_within_g hx)) fun H1 e => q H1 e
theorem spv_rest_g {H : Hp} {p : Int} {x : V} (hx : Any H x) : SpV spRestG [.int p, x] H (.bl (restB p x)) := fun H1 e Q q E => ⟨p, x, rfl, hx.ex e, q⟩
def spAreG : Sp := fun vs H Q _ => ∃ (p lo hi : Int) (x : V) (b : Bool), vs = [.int p, x, .int lo, .int hi] ∧ AreR H p lo hi x b ∧ RetV (.bl b) H Q
theorem ok_are_rests_g {f : Addr} {fd : FuncData} (D : Dat K mg "are_rests" s_are_rests ["prime", "thing", "least", "most"] f fd) {a_PRIMES : Addr} {t_MOST_CUT : Tok} {t_MOST_RULED : Tok} {t_MOST_PLACES : Tok} {t_MOST_TERMS : Tok} {a_PowerError : Addr} {a_BadPrime : Addr} {a_BadRow : Addr} {a_BadCount : Addr} {a_BadRule : Addr} {a_BadPlaces : Addr} {a_BadTerms : Addr} {a_NoPart : Addr} {a_NoInside : Addr} {a_NoRoot : Addr} {a_Answer : Addr} {a_Alike : Addr} {a_Unlike : Addr} {a_Ruled : Addr} {a_Barred : Addr} (B : Blt K mg a_PRIMES t_MOST_CUT t_MOST_RULED t_MOST_PLACES t_MOST_TERMS a_PowerError a_BadPrime a_BadRow a_BadCount a_BadRule a_BadPlaces a_BadTerms a_NoPart a_NoInside a_NoRoot a_Answer a_Alike a_Unlike a_Ruled a_Barred) (C_is_rest_g : Cal P w K mg base CX0 "is_rest" 3 ["prime", "thing"] spRestG) : Cal P w K mg base CX0 "are_rests" 4 ["prime", "thing", "least", "most"] spAreG := by
  have C_is_rest := C_is_rest_g
  refine D.cal (D.F.ok sc_are_rests (fun vs H Q E h => ?_) (fun cdv A outer s H vs Q E hr h => ?_))
  · obtain ⟨p, lo, hi, x, b, rfl, _⟩ := h
    rfl
  · obtain ⟨p, lo, hi, x, b, rfl, hx, q⟩ := h
    refine ⟨_, (pss_cons (ps_if (PW.pt (pw_or (pt_not (pt_val (pe_callB (r := rIsi K) call_isi (by rfl) B.isinstance (by decide +kernel) (pa_cons (pv 1) (pa_cons (pe_bltn (v := .ty "list") (by rfl) B.list (by decide +kernel) rfl) pa_nil))))) (pw_or1 (pt_not (pt_chain op_le op_le (pv 2) (pe_callB (r := rLenS K) call_len_seq (by rfl) B.len PySem.boot_len (pa_cons (pv 1) pa_nil)) (pv 3)))))) (pss_one (ps_ret pe_bl)) pss_nil)
    (pss_one (ps_ret (pe_callB (r := rAll K) (cr_all rfl) (by rfl) B.all (by decide +kernel) (pa_cons (pe_lc (own := [("rest", 4)]) (g := gName 4) (tt := tYes) (by rfl) sc_are_rests.nd (pi_list (pv 1)) (blkOk_by (N := nm_are_rests) (sc := defScope s_are_rests) (by decide +kernel)) (fun _ _ _ _ _ => pg_name (i := 4) sc_are_rests.nd rfl (Or.inl rfl)) (fun _ _ _ _ _ => pts_nil) (fun _ _ _ _ _ => (pe_c0 C_is_rest (hr.mono (by decide)) (pa_cons (pv 0) (pa_cons (pv 4) pa_nil))))) pa_nil))))), ?_⟩
    rcases hx with ⟨a, vs, rfl, ha, hl, hv, rfl⟩ | ⟨t, ht, hn, rfl⟩
    · refine q_when (b := !(decide (lo ≤ (vs.length : Int)) && decide ((vs.length : Int) ≤ hi))) (et_isV (et_or (a := false) (b := !(decide (lo ≤ (vs.length : Int)) && decide ((vs.length : Int) ≤ hi))) (et_not (a := true) (et_B (ev_cb (by walk_at "ev") (rc_isi_lst ha (by decide +kernel))))) fun _ => et_not (et_test (ev_chain (ev_var rfl) (ev_cb (by walk_at "ev") (rc_len (sq_of ha))) rv_I0 (fun _ => ev_var rfl) (fun _ => rv_I0)))) (Bool.false_or _)) (fun hn H1 e1 => ?_) fun hn H1 e1 => ?_
      · rw [Bool.not_eq_true'] at hn
        rw [hn] at q
        exact s_ret (v := .bl false) ev_c fun H2 e2 => q H2 (e1.trans e2)
      · rw [Bool.not_eq_false'] at hn
        rw [hn, Bool.true_and] at q
        refine s_ret (v := .bl (vs.all (restB p))) (ev_cbL (xs := ((List.range vs.length).map fun i => restB p (vs[i]?.getD .non)).map V.bl) (el_is (el_lcL (fun _ => true) (fun i => V.bl (restB p (vs[i]?.getD .non))) (ev_var rfl) (sq_of (e1 _ _ ha)) (by omega) (fun _ => rfl) (fun _ _ _ _ _ => et_yes) fun i v H2 e2 hi _ => ?_) (by rw [given_all, map_map_bl])) fun p2 H2 h2 e2 => ?_) fun H3 e3 => q H3 (e1.trans e3)
        · rw [hi]
          exact ev_call (by walk_at "ev") (spv_rest_g ((hv v (List.mem_of_getElem? hi)).ex (e1.trans e2)))
        · have g := rc_all (K := K) (sq_of h2)
          rw [all_rangeV] at g
          exact g
    · exact q_when (b := true) (et_or (a := true) (b := true) (et_not (a := false) (et_B (ev_cb (by walk_at "ev") (rc_anyv ht (any_list ht hn))))) fun z => Bool.noConfusion z) (fun _ H1 e1 => s_ret (v := .bl false) ev_c fun H2 e2 => q H2 (e1.trans e2)) fun z => Bool.noConfusion z
theorem spv_are_g {H : Hp} {p lo hi : Int} {x : V} {b : Bool} (h : AreR H p lo hi x b) : SpV spAreG [.int p, x, .int lo, .int hi] H (.bl b) := fun H1 e Q q E => ⟨p, lo, hi, x, b, rfl, h.ex e, q⟩

/-! ### is_rule, is_term, are_terms, of anything -/
def RuleR (H : Hp) (p : Int) (x : V) (b : Bool) : Prop :=
  (∃ t, AnyV H x t ∧ t ≠ "tuple" ∧ b = false) ∨ (∃ r us, x = .ref r ∧ H r = some (.tup us) ∧ us.length ≠ 2 ∧ b = false) ∨
  (∃ r u v bu bv, x = .ref r ∧ H r = some (.tup [u, v]) ∧ AreR H p 0 8 u bu ∧ AreR H p 1 8 v bv ∧ (bu && bv) = false ∧ b = false) ∨
  (∃ (r : Addr) (u : V) (a : Addr) (i : Int) (vs : List V), x = .ref r ∧ H r = some (.tup [u, .ref a]) ∧ AreR H p 0 8 u true ∧ AreR H p 1 8 (.ref a) true ∧ H a = some (.lst (.int i :: vs)) ∧ b = decide (i = 1))
theorem RuleR.ex {H H' : Hp} {p : Int} {x : V} {b : Bool} (e : Ex H H') (h : RuleR H p x b) : RuleR H' p x b := by
  rcases h with ⟨t, h1, h2⟩ | ⟨r, us, h1, h2, h3⟩ | ⟨r, u, v, bu, bv, h1, h2, h3, h4, h5⟩ | ⟨r, u, a, i, vs, h1, h2, h3, h4, h5, h6⟩
  · exact .inl ⟨t, h1.ex e, h2⟩
  · exact .inr (.inl ⟨r, us, h1, e _ _ h2, h3⟩)
  · exact .inr (.inr (.inl ⟨r, u, v, bu, bv, h1, e _ _ h2, h3.ex e, h4.ex e, h5⟩))
  · exact .inr (.inr (.inr ⟨r, u, a, i, vs, h1, e _ _ h2, h3.ex e, h4.ex e, e _ _ h5, h6⟩))
def spRuleG : Sp := fun vs H Q _ => ∃ (p : Int) (x : V) (b : Bool), vs = [.int p, x] ∧ RuleR H p x b ∧ RetV (.bl b) H Q
theorem ok_is_rule_g {f : Addr} {fd : FuncData} (D : Dat K mg "is_rule" s_is_rule ["prime", "thing"] f fd) {a_PRIMES : Addr} {t_MOST_CUT : Tok} {t_MOST_RULED : Tok} {t_MOST_PLACES : Tok} {t_MOST_TERMS : Tok} {a_PowerError : Addr} {a_BadPrime : Addr} {a_BadRow : Addr} {a_BadCount : Addr} {a_BadRule : Addr} {a_BadPlaces : Addr} {a_BadTerms : Addr} {a_NoPart : Addr} {a_NoInside : Addr} {a_NoRoot : Addr} {a_Answer : Addr} {a_Alike : Addr} {a_Unlike : Addr} {a_Ruled : Addr} {a_Barred : Addr} (B : Blt K mg a_PRIMES t_MOST_CUT t_MOST_RULED t_MOST_PLACES t_MOST_TERMS a_PowerError a_BadPrime a_BadRow a_BadCount a_BadRule a_BadPlaces a_BadTerms a_NoPart a_NoInside a_NoRoot a_Answer a_Alike a_Unlike a_Ruled a_Barred) (C_are_rests_g : Cal P w K mg base CX0 "are_rests" 4 ["prime", "thing", "least", "most"] spAreG) : Cal P w K mg base CX0 "is_rule" 5 ["prime", "thing"] spRuleG := by
  have C_are_rests := C_are_rests_g
  refine D.cal (D.F.ok sc_is_rule (fun vs H Q E h => ?_) (fun cdv A outer s H vs Q E hr h => ?_))
  · obtain ⟨p, x, b, rfl, _⟩ := h
    rfl
  · obtain ⟨p, x, b, rfl, hx, q⟩ := h
    refine ⟨_, (pss_cons (ps_if (PW.pt (pw_or (pt_not (pt_val (pe_callB (r := rIsi K) call_isi (by rfl) B.isinstance (by decide +kernel) (pa_cons (pv 1) (pa_cons (pe_bltn (v := .ty "tuple") (by rfl) B.tuple (by decide +kernel) rfl) pa_nil))))) (pw_or1 (pt_cmpR op_ne (pe_callB (r := rLenS K) call_len_seq (by rfl) B.len PySem.boot_len (pa_cons (pv 1) pa_nil)) pe_int (nomark _))))) (pss_one (ps_ret pe_bl)) pss_nil)
    (pss_cons (ps_asg (pv 1) (pg_tup rfl (pgs_cons (pg_name (i := 2) sc_is_rule.nd rfl (Or.inl rfl)) (pgs_cons (pg_name (i := 3) sc_is_rule.nd rfl (Or.inl rfl)) pgs_nil))))
    (pss_cons (ps_if (PW.pt (pw_or (pt_not (pt_val (pe_c0 C_are_rests (hr.mono (by decide)) (pa_cons (pv 0) (pa_cons (pv 2) (pa_cons pe_int (pa_cons (pe_glob (v := .int 8) rfl B.MOST_RULED ⟨_, rfl⟩) pa_nil))))))) (pw_or1 (pt_not (pt_val (pe_c0 C_are_rests (hr.mono (by decide)) (pa_cons (pv 0) (pa_cons (pv 3) (pa_cons pe_int (pa_cons (pe_glob (v := .int 8) rfl B.MOST_RULED ⟨_, rfl⟩) pa_nil)))))))))) (pss_one (ps_ret pe_bl)) pss_nil)
    (pss_one (ps_ret (pe_cmpR op_eq (pe_ix (r := rIxL K) ix_list (pv 3) pe_int (fun _ _ => rfl)) pe_int (nomark _))))))), ?_⟩
    rcases hx with ⟨t, h1, h2, rfl⟩ | ⟨r, us, rfl, h2, h3, rfl⟩ | ⟨r, u, v, bu, bv, rfl, h2, h3, h4, h5, rfl⟩ | ⟨r, u, a, i, vs, rfl, h2, h3, h4, h5, rfl⟩
    · exact q_when (b := true) (et_or (a := true) (b := true) (et_not (a := false) (et_B (ev_cb (by walk_at "ev") (rc_anyv h1 (any_tuple h1 h2))))) fun z => Bool.noConfusion z) (fun _ H1 e1 => s_ret (v := .bl false) ev_c fun H2 e2 => q H2 (e1.trans e2)) fun z => Bool.noConfusion z
    · refine q_when (b := true) (et_or (a := false) (b := true) (et_not (a := true) (et_B (ev_cb (by walk_at "ev") (rc_isi_tup h2 (by decide +kernel))))) fun _ => et_isV (et_neN' (i := (us.length : Int)) (j := 2) (ev_cb (by walk_at "ev") (rc_lenT (st_of h2))) ev_c) ?_) (fun _ H1 e1 => s_ret (v := .bl false) ev_c fun H2 e2 => q H2 (e1.trans e2)) fun z => Bool.noConfusion z
      rw [decide_eq_false (by omega)]
      rfl
    · refine q_when (b := false) (et_or (a := false) (b := false) (et_not (a := true) (et_B (ev_cb (by walk_at "ev") (rc_isi_tup h2 (by decide +kernel))))) fun _ => et_neN (i := 2) (ev_cb (by walk_at "ev") (rc_lenT (st_of h2))) ev_c) (fun z => Bool.noConfusion z) fun _ H1 e1 => ?_
      refine q_unp2 (ev_var rfl) (st_of (e1 _ _ h2)) fun H2 e2 => ?_
      have e12 := e1.trans e2
      refine q_when (b := true) (et_isV (et_or (a := !bu) (b := !bv) (et_not (et_B (ev_call (by walk_at "ev") (spv_are_g (h3.ex e12))))) fun _ => et_not (et_B (ev_call (by walk_at "ev") (spv_are_g (h4.ex e12))))) ?_) (fun _ H3 e3 => s_ret (v := .bl false) ev_c fun H4 e4 => q H4 ((e12.trans e3).trans e4)) fun z => Bool.noConfusion z
      cases bu <;> cases bv <;> first | rfl | cases h5
    · refine q_when (b := false) (et_or (a := false) (b := false) (et_not (a := true) (et_B (ev_cb (by walk_at "ev") (rc_isi_tup h2 (by decide +kernel))))) fun _ => et_neN (i := 2) (ev_cb (by walk_at "ev") (rc_lenT (st_of h2))) ev_c) (fun z => Bool.noConfusion z) fun _ H1 e1 => ?_
      refine q_unp2 (ev_var rfl) (st_of (e1 _ _ h2)) fun H2 e2 => ?_
      have e12 := e1.trans e2
      refine q_when (b := false) (et_or (a := false) (b := false) (et_not (a := true) (et_B (ev_call (by walk_at "ev") (spv_are_g (h3.ex e12))))) fun _ => et_not (a := true) (et_B (ev_call (by walk_at "ev") (spv_are_g (h4.ex e12))))) (fun z => Bool.noConfusion z) fun _ H3 e3 => ?_
      exact s_ret (v := .bl (decide (i = 1))) (ev_eqN (ev_op (ev_var rfl) ev_c (rv_ixL (sq_of ((e12.trans e3) _ _ h5)) (atI_nat (j := 0) rfl))) ev_c) fun H4 e4 => q H4 ((e12.trans e3).trans e4)
theorem spv_rule_g {H : Hp} {p : Int} {x : V} {b : Bool} (h : RuleR H p x b) : SpV spRuleG [.int p, x] H (.bl b) := fun H1 e Q q E => ⟨p, x, b, rfl, h.ex e, q⟩
def TermR (H : Hp) (p : Int) (x : V) (b : Bool) : Prop :=
  (∃ t, AnyV H x t ∧ t ≠ "tuple" ∧ b = false) ∨ (∃ r us, x = .ref r ∧ H r = some (.tup us) ∧ us.length ≠ 3 ∧ b = false) ∨
  (∃ r u v z, x = .ref r ∧ H r = some (.tup [u, v, z]) ∧ Any H u ∧ Any H v ∧ Any H z ∧ b = (restB p u && (withinB 1 4 v && withinB 0 3 z)))
theorem TermR.ex {H H' : Hp} {p : Int} {x : V} {b : Bool} (e : Ex H H') (h : TermR H p x b) : TermR H' p x b := by
  rcases h with ⟨t, h1, h2⟩ | ⟨r, us, h1, h2, h3⟩ | ⟨r, u, v, z, h1, h2, h3, h4, h5, h6⟩
  · exact .inl ⟨t, h1.ex e, h2⟩
  · exact .inr (.inl ⟨r, us, h1, e _ _ h2, h3⟩)
  · exact .inr (.inr ⟨r, u, v, z, h1, e _ _ h2, h3.ex e, h4.ex e, h5.ex e, h6⟩)
def spTermG : Sp := fun vs H Q _ => ∃ (p : Int) (x : V) (b : Bool), vs = [.int p, x] ∧ TermR H p x b ∧ RetV (.bl b) H Q
theorem ok_is_term_g {f : Addr} {fd : FuncData} (D : Dat K mg "is_term" s_is_term ["prime", "thing"] f fd) {a_PRIMES : Addr} {t_MOST_CUT : Tok} {t_MOST_RULED : Tok} {t_MOST_PLACES : Tok} {t_MOST_TERMS : Tok} {a_PowerError : Addr} {a_BadPrime : Addr} {a_BadRow : Addr} {a_BadCount : Addr} {a_BadRule : Addr} {a_BadPlaces : Addr} {a_BadTerms : Addr} {a_NoPart : Addr} {a_NoInside : Addr} {a_NoRoot : Addr} {a_Answer : Addr} {a_Alike : Addr} {a_Unlike : Addr} {a_Ruled : Addr} {a_Barred : Addr} (B : Blt K mg a_PRIMES t_MOST_CUT t_MOST_RULED t_MOST_PLACES t_MOST_TERMS a_PowerError a_BadPrime a_BadRow a_BadCount a_BadRule a_BadPlaces a_BadTerms a_NoPart a_NoInside a_NoRoot a_Answer a_Alike a_Unlike a_Ruled a_Barred) (C_is_within_g : Cal P w K mg base CX0 "is_within" 2 ["thing", "least", "most"] spWithinG) (C_is_rest_g : Cal P w K mg base CX0 "is_rest" 3 ["prime", "thing"] spRestG) : Cal P w K mg base CX0 "is_term" 4 ["prime", "thing"] spTermG := by
  have C_is_within := C_is_within_g
  have C_is_rest := C_is_rest_g
  refine D.cal (D.F.ok sc_is_term (fun vs H Q E h => ?_) (fun cdv A outer s H vs Q E hr h => ?_))
  · obtain ⟨p, x, b, rfl, _⟩ := h
    rfl
  · obtain ⟨p, x, b, rfl, hx, q⟩ := h
    refine ⟨_, (pss_cons (ps_if (PW.pt (pw_or (pt_not (pt_val (pe_callB (r := rIsi K) call_isi (by rfl) B.isinstance (by decide +kernel) (pa_cons (pv 1) (pa_cons (pe_bltn (v := .ty "tuple") (by rfl) B.tuple (by decide +kernel) rfl) pa_nil))))) (pw_or1 (pt_cmpR op_ne (pe_callB (r := rLenS K) call_len_seq (by rfl) B.len PySem.boot_len (pa_cons (pv 1) pa_nil)) pe_int (nomark _))))) (pss_one (ps_ret pe_bl)) pss_nil)
    (pss_cons (ps_asg (pv 1) (pg_tup rfl (pgs_cons (pg_name (i := 2) sc_is_term.nd rfl (Or.inl rfl)) (pgs_cons (pg_name (i := 3) sc_is_term.nd rfl (Or.inl rfl)) (pgs_cons (pg_name (i := 4) sc_is_term.nd rfl (Or.inl rfl)) pgs_nil)))))
    (pss_one (ps_ret (pe_and (pe_c0 C_is_rest (hr.mono (by decide)) (pa_cons (pv 0) (pa_cons (pv 2) pa_nil))) (pe_and (pe_c0 C_is_within (hr.mono (by decide)) (pa_cons (pv 3) (pa_cons pe_int (pa_cons pe_int pa_nil)))) (pe_one (pe_c0 C_is_within (hr.mono (by decide)) (pa_cons (pv 4) (pa_cons pe_int (pa_cons pe_int pa_nil))))))))))), ?_⟩
    rcases hx with ⟨t, h1, h2, rfl⟩ | ⟨r, us, rfl, h2, h3, rfl⟩ | ⟨r, u, v, z, rfl, h2, h3, h4, h5, rfl⟩
    · exact q_when (b := true) (et_or (a := true) (b := true) (et_not (a := false) (et_B (ev_cb (by walk_at "ev") (rc_anyv h1 (any_tuple h1 h2))))) fun z => Bool.noConfusion z) (fun _ H1 e1 => s_ret (v := .bl false) ev_c fun H2 e2 => q H2 (e1.trans e2)) fun z => Bool.noConfusion z
    · refine q_when (b := true) (et_or (a := false) (b := true) (et_not (a := true) (et_B (ev_cb (by walk_at "ev") (rc_isi_tup h2 (by decide +kernel))))) fun _ => et_isV (et_neN' (i := (us.length : Int)) (j := 3) (ev_cb (by walk_at "ev") (rc_lenT (st_of h2))) ev_c) ?_) (fun _ H1 e1 => s_ret (v := .bl false) ev_c fun H2 e2 => q H2 (e1.trans e2)) fun z => Bool.noConfusion z
      rw [decide_eq_false (by omega)]
      rfl
    · refine q_when (b := false) (et_or (a := false) (b := false) (et_not (a := true) (et_B (ev_cb (by walk_at "ev") (rc_isi_tup h2 (by decide +kernel))))) fun _ => et_neN (i := 3) (ev_cb (by walk_at "ev") (rc_lenT (st_of h2))) ev_c) (fun z => Bool.noConfusion z) fun _ H1 e1 => ?_
      refine q_unp3 (ev_var rfl) (st_of (e1 _ _ h2)) fun H2 e2 => ?_
      have e12 := e1.trans e2
      exact s_ret (ev_andV (ev_call (by walk_at "ev") (spv_rest_g (h3.ex e12))) fun _ => ev_andV (ev_call (by walk_at "ev") (spv_within_g (h4.ex e12))) fun _ => ev_call (by walk_at "ev") (spv_within_g (h5.ex e12))) fun H3 e3 => q H3 (e12.trans e3)
theorem spv_term_g {H : Hp} {p : Int} {x : V} {b : Bool} (h : TermR H p x b) : SpV spTermG [.int p, x] H (.bl b) := fun H1 e Q q E => ⟨p, x, b, rfl, h.ex e, q⟩
def TermsNo (H : Hp) (p : Int) (x : V) : Prop :=
  (∃ t, AnyV H x t ∧ t ≠ "list") ∨ ∃ a vs, ∃ bs : List Bool, x = .ref a ∧ H a = some (.lst vs) ∧ vs.length ≤ 1000 ∧ bs.length = vs.length ∧ (∀ (i : Nat) v b, vs[i]? = some v → bs[i]? = some b → TermR H p v b) ∧ ((decide (1 ≤ (vs.length : Int)) && decide ((vs.length : Int) ≤ 6)) && bs.all id) = false
theorem TermsNo.ex {H H' : Hp} {p : Int} {x : V} (e : Ex H H') (h : TermsNo H p x) : TermsNo H' p x := by
  rcases h with ⟨t, h1, h2⟩ | ⟨a, vs, bs, h1, h2, h3, h4, h5, h6⟩
  · exact .inl ⟨t, h1.ex e, h2⟩
  · exact .inr ⟨a, vs, bs, h1, e _ _ h2, h3, h4, fun i v b g1 g2 => (h5 i v b g1 g2).ex e, h6⟩
theorem range_bools : ∀ bs : List Bool, ((List.range bs.length).map fun i => bs[i]?.getD false) = bs
  | [] => rfl
  | x :: r => by
    rw [List.length_cons, List.range_succ_eq_map, List.map_cons, List.map_map]
    congr 1
    exact range_bools r
def spTermsNo : Sp := fun vs H Q _ => ∃ (p : Int) (x : V), vs = [.int p, x] ∧ TermsNo H p x ∧ RetV (.bl false) H Q
theorem ok_are_terms_g {f : Addr} {fd : FuncData} (D : Dat K mg "are_terms" s_are_terms ["prime", "thing"] f fd) {a_PRIMES : Addr} {t_MOST_CUT : Tok} {t_MOST_RULED : Tok} {t_MOST_PLACES : Tok} {t_MOST_TERMS : Tok} {a_PowerError : Addr} {a_BadPrime : Addr} {a_BadRow : Addr} {a_BadCount : Addr} {a_BadRule : Addr} {a_BadPlaces : Addr} {a_BadTerms : Addr} {a_NoPart : Addr} {a_NoInside : Addr} {a_NoRoot : Addr} {a_Answer : Addr} {a_Alike : Addr} {a_Unlike : Addr} {a_Ruled : Addr} {a_Barred : Addr} (B : Blt K mg a_PRIMES t_MOST_CUT t_MOST_RULED t_MOST_PLACES t_MOST_TERMS a_PowerError a_BadPrime a_BadRow a_BadCount a_BadRule a_BadPlaces a_BadTerms a_NoPart a_NoInside a_NoRoot a_Answer a_Alike a_Unlike a_Ruled a_Barred) (C_is_term_g : Cal P w K mg base CX0 "is_term" 4 ["prime", "thing"] spTermG) : Cal P w K mg base CX0 "are_terms" 5 ["prime", "thing"] spTermsNo := by
  have C_is_term := C_is_term_g
  refine D.cal (D.F.ok sc_are_terms (fun vs H Q E h => ?_) (fun cdv A outer s H vs Q E hr h => ?_))
  · obtain ⟨p, x, rfl, _⟩ := h
    rfl
  · obtain ⟨p, x, rfl, hx, q⟩ := h
    refine ⟨_, (pss_cons (ps_if (PW.pt (pw_or (pt_not (pt_val (pe_callB (r := rIsi K) call_isi (by rfl) B.isinstance (by decide +kernel) (pa_cons (pv 1) (pa_cons (pe_bltn (v := .ty "list") (by rfl) B.list (by decide +kernel) rfl) pa_nil))))) (pw_or1 (pt_not (pt_chain op_le op_le pe_int (pe_callB (r := rLenS K) call_len_seq (by rfl) B.len PySem.boot_len (pa_cons (pv 1) pa_nil)) (pe_glob (v := .int 6) rfl B.MOST_TERMS ⟨_, rfl⟩)))))) (pss_one (ps_ret pe_bl)) pss_nil)
    (pss_one (ps_ret (pe_callB (r := rAll K) (cr_all rfl) (by rfl) B.all (by decide +kernel) (pa_cons (pe_lc (own := [("term", 2)]) (g := gName 2) (tt := tYes) (by rfl) sc_are_terms.nd (pi_list (pv 1)) (blkOk_by (N := nm_are_terms) (sc := defScope s_are_terms) (by decide +kernel)) (fun _ _ _ _ _ => pg_name (i := 2) sc_are_terms.nd rfl (Or.inl rfl)) (fun _ _ _ _ _ => pts_nil) (fun _ _ _ _ _ => (pe_c0 C_is_term (hr.mono (by decide)) (pa_cons (pv 0) (pa_cons (pv 2) pa_nil))))) pa_nil))))), ?_⟩
    rcases hx with ⟨t, ht, hn⟩ | ⟨a, vs, bs, rfl, ha, hl, hbl, hv, hno⟩
    · exact q_when (b := true) (et_or (a := true) (b := true) (et_not (a := false) (et_B (ev_cb (by walk_at "ev") (rc_anyv ht (any_list ht hn))))) fun z => Bool.noConfusion z) (fun _ H1 e1 => s_ret (v := .bl false) ev_c fun H2 e2 => q H2 (e1.trans e2)) fun z => Bool.noConfusion z
    · refine q_when (b := !(decide (1 ≤ (vs.length : Int)) && decide ((vs.length : Int) ≤ 6))) (et_isV (et_or (a := false) (b := !(decide (1 ≤ (vs.length : Int)) && decide ((vs.length : Int) ≤ 6))) (et_not (a := true) (et_B (ev_cb (by walk_at "ev") (rc_isi_lst ha (by decide +kernel))))) fun _ => et_not (et_test (ev_chain ev_c (ev_cb (by walk_at "ev") (rc_len (sq_of ha))) rv_I0 (fun _ => ev_c) (fun _ => rv_I0)))) (Bool.false_or _)) (fun hn H1 e1 => s_ret (v := .bl false) ev_c fun H2 e2 => q H2 (e1.trans e2)) fun hn H1 e1 => ?_
      rw [Bool.not_eq_false'] at hn
      rw [hn, Bool.true_and] at hno
      refine s_ret (v := .bl false) (ev_cbL (xs := bs.map V.bl) (el_is (el_lcL (fun _ => true) (fun i => V.bl (bs[i]?.getD false)) (ev_var rfl) (sq_of (e1 _ _ ha)) (by omega) (fun _ => rfl) (fun _ _ _ _ _ => et_yes) fun i v H2 e2 hi _ => ?_) (by rw [given_all, map_map_bl, ← hbl, range_bools])) fun p2 H2 h2 e2 => ?_) fun H3 e3 => q H3 (e1.trans e3)
      · have il := (List.getElem?_eq_some_iff.mp hi).1
        have hb : bs[i]? = some (bs[i]'(by omega)) := List.getElem?_eq_getElem (by omega)
        rw [hb]
        exact ev_call (by walk_at "ev") (spv_term_g ((hv i v _ hi hb).ex (e1.trans e2)))
      · have g := rc_all (K := K) (sq_of h2)
        rw [hno] at g
        exact g
theorem spv_terms_no {H : Hp} {p : Int} {x : V} (h : TermsNo H p x) : SpV spTermsNo [.int p, x] H (.bl false) := fun H1 e Q q E => ⟨p, x, rfl, h.ex e, q⟩
/-! ### the needs, not met -/
def BadP (H : Hp) (x : V) : Prop := Any H x ∧ ∀ i, x = .int i → ¬ Prm i
theorem BadP.ex {H H' : Hp} {x : V} (e : Ex H H') (h : BadP H x) : BadP H' x := ⟨h.1.ex e, h.2⟩
def Refs (C : Addr) (H : Hp) (E : XK) : Prop := ∀ H1, Ex H H1 → E (.ref C) none H1
def spNeedPrimeX (C : Addr) : Sp := fun vs H Q E => ∃ x, vs = [x] ∧ BadP H x ∧ Refs C H E
theorem not_prm {i : Int} (h : ¬ Prm i) : inV (.int i) (primes.map V.int) = false := by
  rw [in_ints]
  exact decide_eq_false h
theorem ok_need_prime_x {f : Addr} {fd : FuncData} (D : Dat K mg "need_prime" s_need_prime ["prime"] f fd) {a_PRIMES : Addr} {t_MOST_CUT : Tok} {t_MOST_RULED : Tok} {t_MOST_PLACES : Tok} {t_MOST_TERMS : Tok} {a_PowerError : Addr} {a_BadPrime : Addr} {a_BadRow : Addr} {a_BadCount : Addr} {a_BadRule : Addr} {a_BadPlaces : Addr} {a_BadTerms : Addr} {a_NoPart : Addr} {a_NoInside : Addr} {a_NoRoot : Addr} {a_Answer : Addr} {a_Alike : Addr} {a_Unlike : Addr} {a_Ruled : Addr} {a_Barred : Addr} (B : Blt K mg a_PRIMES t_MOST_CUT t_MOST_RULED t_MOST_PLACES t_MOST_TERMS a_PowerError a_BadPrime a_BadRow a_BadCount a_BadRule a_BadPlaces a_BadTerms a_NoPart a_NoInside a_NoRoot a_Answer a_Alike a_Unlike a_Ruled a_Barred) (X_BadPrime : ExcF K a_BadPrime) (C_is_number_g : Cal P w K mg base CX0 "is_number" 1 ["thing"] spNumG) : Cal P w K mg base (L2N.CX P w) "need_prime" 2 ["prime"] (spNeedPrimeX a_BadPrime) := by
  have C_is_number := C_is_number_g
  refine D.cal (okN D.F sc_need_prime (fun vs H Q E h => ?_) (fun cdv A outer s H vs Q E hr h => ?_))
  · obtain ⟨x, rfl, _⟩ := h
    rfl
  · obtain ⟨x, rfl, ⟨hx, hb⟩, q⟩ := h
    refine ⟨_, (pss_one (ps_if (PW.pt (pw_or (pt_not (pt_val (pe_c0 C_is_number (hr.mono (by decide)) (pa_cons (pv 0) pa_nil)))) (pw_or1 (pt_cmpR (r := rIn K true) op_notIn_seq (pv 0) (pe_glob (v := .ref a_PRIMES) rfl B.PRIMES rfl) rfl)))) (pss_one (L2N.ps_raise rfl (L2N.takes_of rfl rfl rfl rfl) (L2N.pmk_own PySem.F.excBase_ValueError X_BadPrime.exc B.BadPrime B.BadPrime_k (raises_own X_BadPrime.sb X_BadPrime.ty) rfl))) pss_nil)), ?_⟩
    refine s_when (b := true) (et_isV (et_or (a := !numB x) (b := true) (et_not (et_B (ev_call (by walk_at "ev") (spv_num_g hx)))) fun hn => ?_) (by cases numB x <;> rfl)) (fun _ H1 e1 => q H1 e1) fun z => Bool.noConfusion z
    obtain ⟨i, rfl⟩ := numB_int (by simpa using hn)
    exact et_test (ev_is (ev_op (ev_var rfl) ev_c (rv_niT (B.PRIMES_T H) rfl rfl)) (by show V.bl (!inV (.int i) (primes.map V.int)) = V.bl true; rw [not_prm (hb i rfl)]; rfl))
def spNeedX (C : Addr) (R : Hp → Int → V → Prop) : Sp := fun vs H Q E => ∃ (p : Int) (x : V), vs = [.int p, x] ∧ R H p x ∧ Refs C H E
def RowNo (H : Hp) (p : Int) (x : V) : Prop := AreR H p 1 20 x false
def PlacesNo (H : Hp) (p : Int) (x : V) : Prop := AreR H p 0 24 x false
def RuleNo (H : Hp) (p : Int) (x : V) : Prop := RuleR H p x false
theorem ok_need_row_x {f : Addr} {fd : FuncData} (D : Dat K mg "need_row" s_need_row ["prime", "row"] f fd) {a_PRIMES : Addr} {t_MOST_CUT : Tok} {t_MOST_RULED : Tok} {t_MOST_PLACES : Tok} {t_MOST_TERMS : Tok} {a_PowerError : Addr} {a_BadPrime : Addr} {a_BadRow : Addr} {a_BadCount : Addr} {a_BadRule : Addr} {a_BadPlaces : Addr} {a_BadTerms : Addr} {a_NoPart : Addr} {a_NoInside : Addr} {a_NoRoot : Addr} {a_Answer : Addr} {a_Alike : Addr} {a_Unlike : Addr} {a_Ruled : Addr} {a_Barred : Addr} (B : Blt K mg a_PRIMES t_MOST_CUT t_MOST_RULED t_MOST_PLACES t_MOST_TERMS a_PowerError a_BadPrime a_BadRow a_BadCount a_BadRule a_BadPlaces a_BadTerms a_NoPart a_NoInside a_NoRoot a_Answer a_Alike a_Unlike a_Ruled a_Barred) (X_BadRow : ExcF K a_BadRow) (C_are_rests_g : Cal P w K mg base CX0 "are_rests" 4 ["prime", "thing", "least", "most"] spAreG) : Cal P w K mg base (L2N.CX P w) "need_row" 5 ["prime", "row"] (spNeedX a_BadRow RowNo) := by
  have C_are_rests := C_are_rests_g
  refine D.cal (okN D.F sc_need_row (fun vs H Q E h => ?_) (fun cdv A outer s H vs Q E hr h => ?_))
  · obtain ⟨p, x, rfl, _⟩ := h
    rfl
  · obtain ⟨p, x, rfl, hx, q⟩ := h
    refine ⟨_, (pss_one (ps_if (pt_not (pt_val (pe_c0 C_are_rests (hr.mono (by decide)) (pa_cons (pv 0) (pa_cons (pv 1) (pa_cons pe_int (pa_cons (pe_glob (v := .int 20) rfl B.MOST_CUT ⟨_, rfl⟩) pa_nil))))))) (pss_one (L2N.ps_raise rfl (L2N.takes_of rfl rfl rfl rfl) (L2N.pmk_own PySem.F.excBase_ValueError X_BadRow.exc B.BadRow B.BadRow_k (raises_own X_BadRow.sb X_BadRow.ty) rfl))) pss_nil)), ?_⟩
    exact s_when (b := true) (et_not (a := false) (et_B (ev_call (by walk_at "ev") (spv_are_g hx)))) (fun _ H1 e1 => q H1 e1) fun z => Bool.noConfusion z
theorem ok_need_places_x {f : Addr} {fd : FuncData} (D : Dat K mg "need_places" s_need_places ["prime", "places"] f fd) {a_PRIMES : Addr} {t_MOST_CUT : Tok} {t_MOST_RULED : Tok} {t_MOST_PLACES : Tok} {t_MOST_TERMS : Tok} {a_PowerError : Addr} {a_BadPrime : Addr} {a_BadRow : Addr} {a_BadCount : Addr} {a_BadRule : Addr} {a_BadPlaces : Addr} {a_BadTerms : Addr} {a_NoPart : Addr} {a_NoInside : Addr} {a_NoRoot : Addr} {a_Answer : Addr} {a_Alike : Addr} {a_Unlike : Addr} {a_Ruled : Addr} {a_Barred : Addr} (B : Blt K mg a_PRIMES t_MOST_CUT t_MOST_RULED t_MOST_PLACES t_MOST_TERMS a_PowerError a_BadPrime a_BadRow a_BadCount a_BadRule a_BadPlaces a_BadTerms a_NoPart a_NoInside a_NoRoot a_Answer a_Alike a_Unlike a_Ruled a_Barred) (X_BadPlaces : ExcF K a_BadPlaces) (C_are_rests_g : Cal P w K mg base CX0 "are_rests" 4 ["prime", "thing", "least", "most"] spAreG) : Cal P w K mg base (L2N.CX P w) "need_places" 5 ["prime", "places"] (spNeedX a_BadPlaces PlacesNo) := by
  have C_are_rests := C_are_rests_g
  refine D.cal (okN D.F sc_need_places (fun vs H Q E h => ?_) (fun cdv A outer s H vs Q E hr h => ?_))
  · obtain ⟨p, x, rfl, _⟩ := h
    rfl
  · obtain ⟨p, x, rfl, hx, q⟩ := h
    refine ⟨_, (pss_one (ps_if (pt_not (pt_val (pe_c0 C_are_rests (hr.mono (by decide)) (pa_cons (pv 0) (pa_cons (pv 1) (pa_cons pe_int (pa_cons (pe_glob (v := .int 24) rfl B.MOST_PLACES ⟨_, rfl⟩) pa_nil))))))) (pss_one (L2N.ps_raise rfl (L2N.takes_of rfl rfl rfl rfl) (L2N.pmk_own PySem.F.excBase_ValueError X_BadPlaces.exc B.BadPlaces B.BadPlaces_k (raises_own X_BadPlaces.sb X_BadPlaces.ty) rfl))) pss_nil)), ?_⟩
    exact s_when (b := true) (et_not (a := false) (et_B (ev_call (by walk_at "ev") (spv_are_g hx)))) (fun _ H1 e1 => q H1 e1) fun z => Bool.noConfusion z
theorem ok_need_rule_x {f : Addr} {fd : FuncData} (D : Dat K mg "need_rule" s_need_rule ["prime", "rule"] f fd) {a_PRIMES : Addr} {t_MOST_CUT : Tok} {t_MOST_RULED : Tok} {t_MOST_PLACES : Tok} {t_MOST_TERMS : Tok} {a_PowerError : Addr} {a_BadPrime : Addr} {a_BadRow : Addr} {a_BadCount : Addr} {a_BadRule : Addr} {a_BadPlaces : Addr} {a_BadTerms : Addr} {a_NoPart : Addr} {a_NoInside : Addr} {a_NoRoot : Addr} {a_Answer : Addr} {a_Alike : Addr} {a_Unlike : Addr} {a_Ruled : Addr} {a_Barred : Addr} (B : Blt K mg a_PRIMES t_MOST_CUT t_MOST_RULED t_MOST_PLACES t_MOST_TERMS a_PowerError a_BadPrime a_BadRow a_BadCount a_BadRule a_BadPlaces a_BadTerms a_NoPart a_NoInside a_NoRoot a_Answer a_Alike a_Unlike a_Ruled a_Barred) (X_BadRule : ExcF K a_BadRule) (C_is_rule_g : Cal P w K mg base CX0 "is_rule" 5 ["prime", "thing"] spRuleG) : Cal P w K mg base (L2N.CX P w) "need_rule" 6 ["prime", "rule"] (spNeedX a_BadRule RuleNo) := by
  have C_is_rule := C_is_rule_g
  refine D.cal (okN D.F sc_need_rule (fun vs H Q E h => ?_) (fun cdv A outer s H vs Q E hr h => ?_))
  · obtain ⟨p, x, rfl, _⟩ := h
    rfl
  · obtain ⟨p, x, rfl, hx, q⟩ := h
    refine ⟨_, (pss_one (ps_if (pt_not (pt_val (pe_c0 C_is_rule (hr.mono (by decide)) (pa_cons (pv 0) (pa_cons (pv 1) pa_nil))))) (pss_one (L2N.ps_raise rfl (L2N.takes_of rfl rfl rfl rfl) (L2N.pmk_own PySem.F.excBase_ValueError X_BadRule.exc B.BadRule B.BadRule_k (raises_own X_BadRule.sb X_BadRule.ty) rfl))) pss_nil)), ?_⟩
    exact s_when (b := true) (et_not (a := false) (et_B (ev_call (by walk_at "ev") (spv_rule_g hx)))) (fun _ H1 e1 => q H1 e1) fun z => Bool.noConfusion z
theorem ok_need_terms_x {f : Addr} {fd : FuncData} (D : Dat K mg "need_terms" s_need_terms ["prime", "terms"] f fd) {a_PRIMES : Addr} {t_MOST_CUT : Tok} {t_MOST_RULED : Tok} {t_MOST_PLACES : Tok} {t_MOST_TERMS : Tok} {a_PowerError : Addr} {a_BadPrime : Addr} {a_BadRow : Addr} {a_BadCount : Addr} {a_BadRule : Addr} {a_BadPlaces : Addr} {a_BadTerms : Addr} {a_NoPart : Addr} {a_NoInside : Addr} {a_NoRoot : Addr} {a_Answer : Addr} {a_Alike : Addr} {a_Unlike : Addr} {a_Ruled : Addr} {a_Barred : Addr} (B : Blt K mg a_PRIMES t_MOST_CUT t_MOST_RULED t_MOST_PLACES t_MOST_TERMS a_PowerError a_BadPrime a_BadRow a_BadCount a_BadRule a_BadPlaces a_BadTerms a_NoPart a_NoInside a_NoRoot a_Answer a_Alike a_Unlike a_Ruled a_Barred) (X_BadTerms : ExcF K a_BadTerms) (C_are_terms_g : Cal P w K mg base CX0 "are_terms" 5 ["prime", "thing"] spTermsNo) : Cal P w K mg base (L2N.CX P w) "need_terms" 6 ["prime", "terms"] (spNeedX a_BadTerms TermsNo) := by
  have C_are_terms := C_are_terms_g
  refine D.cal (okN D.F sc_need_terms (fun vs H Q E h => ?_) (fun cdv A outer s H vs Q E hr h => ?_))
  · obtain ⟨p, x, rfl, _⟩ := h
    rfl
  · obtain ⟨p, x, rfl, hx, q⟩ := h
    refine ⟨_, (pss_one (ps_if (pt_not (pt_val (pe_c0 C_are_terms (hr.mono (by decide)) (pa_cons (pv 0) (pa_cons (pv 1) pa_nil))))) (pss_one (L2N.ps_raise rfl (L2N.takes_of rfl rfl rfl rfl) (L2N.pmk_own PySem.F.excBase_ValueError X_BadTerms.exc B.BadTerms B.BadTerms_k (raises_own X_BadTerms.sb X_BadTerms.ty) rfl))) pss_nil)), ?_⟩
    exact s_when (b := true) (et_not (a := false) (et_B (ev_call (by walk_at "ev") (spv_terms_no hx)))) (fun _ H1 e1 => q H1 e1) fun z => Bool.noConfusion z
def CountNo (H : Hp) (x : V) : Prop := Any H x ∧ ∀ i, x = .int i → i < 0
theorem CountNo.ex {H H' : Hp} {x : V} (e : Ex H H') (h : CountNo H x) : CountNo H' x := ⟨h.1.ex e, h.2⟩
def spNeedCountX (C : Addr) : Sp := fun vs H Q E => ∃ x, vs = [x] ∧ CountNo H x ∧ Refs C H E
theorem ok_need_count_x {f : Addr} {fd : FuncData} (D : Dat K mg "need_count" s_need_count ["many"] f fd) {a_PRIMES : Addr} {t_MOST_CUT : Tok} {t_MOST_RULED : Tok} {t_MOST_PLACES : Tok} {t_MOST_TERMS : Tok} {a_PowerError : Addr} {a_BadPrime : Addr} {a_BadRow : Addr} {a_BadCount : Addr} {a_BadRule : Addr} {a_BadPlaces : Addr} {a_BadTerms : Addr} {a_NoPart : Addr} {a_NoInside : Addr} {a_NoRoot : Addr} {a_Answer : Addr} {a_Alike : Addr} {a_Unlike : Addr} {a_Ruled : Addr} {a_Barred : Addr} (B : Blt K mg a_PRIMES t_MOST_CUT t_MOST_RULED t_MOST_PLACES t_MOST_TERMS a_PowerError a_BadPrime a_BadRow a_BadCount a_BadRule a_BadPlaces a_BadTerms a_NoPart a_NoInside a_NoRoot a_Answer a_Alike a_Unlike a_Ruled a_Barred) (X_BadCount : ExcF K a_BadCount) (C_is_number_g : Cal P w K mg base CX0 "is_number" 1 ["thing"] spNumG) : Cal P w K mg base (L2N.CX P w) "need_count" 2 ["many"] (spNeedCountX a_BadCount) := by
  have C_is_number := C_is_number_g
  refine D.cal (okN D.F sc_need_count (fun vs H Q E h => ?_) (fun cdv A outer s H vs Q E hr h => ?_))
  · obtain ⟨x, rfl, _⟩ := h
    rfl
  · obtain ⟨x, rfl, ⟨hx, hb⟩, q⟩ := h
    refine ⟨_, (pss_one (ps_if (PW.pt (pw_or (pt_not (pt_val (pe_c0 C_is_number (hr.mono (by decide)) (pa_cons (pv 0) pa_nil)))) (pw_or1 (pt_cmpR op_lt (pv 0) pe_int (nomark _))))) (pss_one (L2N.ps_raise rfl (L2N.takes_of rfl rfl rfl rfl) (L2N.pmk_own PySem.F.excBase_ValueError X_BadCount.exc B.BadCount B.BadCount_k (raises_own X_BadCount.sb X_BadCount.ty) rfl))) pss_nil)), ?_⟩
    refine s_when (b := true) (et_isV (et_or (a := !numB x) (b := true) (et_not (et_B (ev_call (by walk_at "ev") (spv_num_g hx)))) fun hn => ?_) (by cases numB x <;> rfl)) (fun _ H1 e1 => q H1 e1) fun z => Bool.noConfusion z
    obtain ⟨i, rfl⟩ := numB_int (by simpa using hn)
    exact et_test (ev_is (ev_op (ev_var rfl) ev_c rv_I0) (by show V.bl (decide (i < 0)) = V.bl true; rw [decide_eq_true (hb i rfl)]))
def CountNoW (H : Hp) (lo hi : Int) (x : V) : Prop := Any H x ∧ withinB lo hi x = false
theorem CountNoW.ex {H H' : Hp} {lo hi : Int} {x : V} (e : Ex H H') (h : CountNoW H lo hi x) : CountNoW H' lo hi x := ⟨h.1.ex e, h.2⟩
def spNeedCountWX (C : Addr) : Sp := fun vs H Q E => ∃ (x : V) (lo hi : Int), vs = [x, .int lo, .int hi] ∧ ((lo = 0 ∧ hi = 400) ∨ (lo = 0 ∧ hi = 8) ∨ (lo = 1 ∧ hi = 20)) ∧ CountNoW H lo hi x ∧ Refs C H E
theorem ok_need_count_within_x {f : Addr} {fd : FuncData} (D : Dat K mg "need_count_within" s_need_count_within ["many", "least", "most"] f fd) {a_PRIMES : Addr} {t_MOST_CUT : Tok} {t_MOST_RULED : Tok} {t_MOST_PLACES : Tok} {t_MOST_TERMS : Tok} {a_PowerError : Addr} {a_BadPrime : Addr} {a_BadRow : Addr} {a_BadCount : Addr} {a_BadRule : Addr} {a_BadPlaces : Addr} {a_BadTerms : Addr} {a_NoPart : Addr} {a_NoInside : Addr} {a_NoRoot : Addr} {a_Answer : Addr} {a_Alike : Addr} {a_Unlike : Addr} {a_Ruled : Addr} {a_Barred : Addr} (B : Blt K mg a_PRIMES t_MOST_CUT t_MOST_RULED t_MOST_PLACES t_MOST_TERMS a_PowerError a_BadPrime a_BadRow a_BadCount a_BadRule a_BadPlaces a_BadTerms a_NoPart a_NoInside a_NoRoot a_Answer a_Alike a_Unlike a_Ruled a_Barred) (X_BadCount : ExcF K a_BadCount) (C_is_within_g : Cal P w K mg base CX0 "is_within" 2 ["thing", "least", "most"] spWithinG) : Cal P w K mg base (L2N.CX P w) "need_count_within" 3 ["many", "least", "most"] (spNeedCountWX a_BadCount) := by
  have C_is_within := C_is_within_g
  refine D.cal (okN D.F sc_need_count_within (fun vs H Q E h => ?_) (fun cdv A outer s H vs Q E hr h => ?_))
  · obtain ⟨x, lo, hi, rfl, _⟩ := h
    rfl
  · obtain ⟨x, lo, hi, rfl, hl, ⟨hx, hb⟩, q⟩ := h
    refine ⟨_, (pss_one (ps_if (pt_not (pt_val (pe_c0 C_is_within (hr.mono (by decide)) (pa_cons (pv 0) (pa_cons (pv 1) (pa_cons (pv 2) pa_nil)))))) (pss_one (L2N.ps_raise rfl (L2N.takes_of rfl rfl rfl rfl) (pmk_ownE PySem.F.excBase_ValueError X_BadCount.exc B.BadCount B.BadCount_k (raises_own X_BadCount.sb X_BadCount.ty) rfl (pe_joined (PJ.cons pe_str (PJ.cons (pe_fmt (pv 1)) (PJ.cons pe_str (PJ.cons (pe_fmt (pv 2)) PJ.nil)))))))) pss_nil)), ?_⟩
    refine s_when (b := true) (et_not (a := false) (et_B (ev_is (ev_call (by walk_at "ev") (spv_within_g hx)) (by rw [hb])))) (fun _ H1 e1 => ?_) fun z => Bool.noConfusion z
    have q1 := q H1 e1
    rcases hl with ⟨rfl, rfl⟩ | ⟨rfl, rfl⟩ | ⟨rfl, rfl⟩
    · exact ⟨_, rfl, by decide +kernel, _, rfl, .inr ⟨0, rfl, by decide +kernel, _, rfl, by decide +kernel, _, rfl, by decide +kernel, _, rfl, .inr ⟨400, rfl, by decide +kernel, _, rfl, by decide +kernel, q1⟩⟩⟩
    · exact ⟨_, rfl, by decide +kernel, _, rfl, .inr ⟨0, rfl, by decide +kernel, _, rfl, by decide +kernel, _, rfl, by decide +kernel, _, rfl, .inr ⟨8, rfl, by decide +kernel, _, rfl, by decide +kernel, q1⟩⟩⟩
    · exact ⟨_, rfl, by decide +kernel, _, rfl, .inr ⟨1, rfl, by decide +kernel, _, rfl, by decide +kernel, _, rfl, by decide +kernel, _, rfl, .inr ⟨20, rfl, by decide +kernel, _, rfl, by decide +kernel, q1⟩⟩⟩

/-! ### the doors, refusing -/
theorem RowNo.ex {H H' : Hp} {p : Int} {x : V} (e : Ex H H') (h : RowNo H p x) : RowNo H' p x := AreR.ex e h
theorem PlacesNo.ex {H H' : Hp} {p : Int} {x : V} (e : Ex H H') (h : PlacesNo H p x) : PlacesNo H' p x := AreR.ex e h
theorem RuleNo.ex {H H' : Hp} {p : Int} {x : V} (e : Ex H H') (h : RuleNo H p x) : RuleNo H' p x := RuleR.ex e h
def RowOkV (H : Hp) (p : Int) (x : V) : Prop := ∃ (a : Addr) (xs : List Int), x = .ref a ∧ H a = some (.lst (xs.map V.int)) ∧ Rowp p xs
theorem RowOkV.ex {H H' : Hp} {p : Int} {x : V} (e : Ex H H') (h : RowOkV H p x) : RowOkV H' p x := by
  obtain ⟨a, xs, h1, h2, h3⟩ := h
  exact ⟨a, xs, h1, e _ _ h2, h3⟩
def RuleOkV (H : Hp) (p : Int) (x : V) : Prop := ∃ (r a b : Addr) (xs ys : List Int), x = .ref r ∧ RuleAt H r a b xs ys ∧ RuleOk p xs ys
theorem RuleOkV.ex {H H' : Hp} {p : Int} {x : V} (e : Ex H H') (h : RuleOkV H p x) : RuleOkV H' p x := by
  obtain ⟨r, a, b, xs, ys, h1, h2, h3⟩ := h
  exact ⟨r, a, b, xs, ys, h1, h2.ex e, h3⟩
def PlacesOkV (H : Hp) (p : Int) (x : V) : Prop := ∃ (a : Addr) (xs : List Int), x = .ref a ∧ H a = some (.lst (xs.map V.int)) ∧ xs.length ≤ 24 ∧ ∀ x ∈ xs, 0 ≤ x ∧ x < p
theorem PlacesOkV.ex {H H' : Hp} {p : Int} {x : V} (e : Ex H H') (h : PlacesOkV H p x) : PlacesOkV H' p x := by
  obtain ⟨a, xs, h1, h2, h3⟩ := h
  exact ⟨a, xs, h1, e _ _ h2, h3⟩
def TermsOkV (H : Hp) (p : Int) (x : V) : Prop := ∃ (a : Addr) (rs : List Addr) (ts : List Tm), x = .ref a ∧ H a = some (.lst (rs.map V.ref)) ∧ TmsR H rs ts ∧ (∀ t ∈ ts, TmOk p t) ∧ 1 ≤ ts.length ∧ ts.length ≤ 6
theorem TermsOkV.ex {H H' : Hp} {p : Int} {x : V} (e : Ex H H') (h : TermsOkV H p x) : TermsOkV H' p x := by
  obtain ⟨a, rs, ts, h1, h2, h3, h4⟩ := h
  exact ⟨a, rs, ts, h1, e _ _ h2, h3.ex e, h4⟩
theorem Refs.ex {C : Addr} {H H' : Hp} {E : XK} (e : Ex H H') (h : Refs C H E) : Refs C H' E := fun H2 e2 => h H2 (e.trans e2)
/-- what a door of two refuses; of three -/
def spNo2 (cP c2 : Addr) (R2 : Hp → Int → V → Prop) : Sp := fun vs H _ E => ∃ x y, vs = [x, y] ∧ ((BadP H x ∧ Refs cP H E) ∨ ∃ p, x = .int p ∧ Prm p ∧ R2 H p y ∧ Refs c2 H E)
def spNo3 (cP c2 c3 : Addr) (R2 G2 R3 : Hp → Int → V → Prop) : Sp := fun vs H _ E => ∃ x y z, vs = [x, y, z] ∧ ((BadP H x ∧ Refs cP H E) ∨ ∃ p, x = .int p ∧ Prm p ∧ ((R2 H p y ∧ Refs c2 H E) ∨ (G2 H p y ∧ R3 H p z ∧ Refs c3 H E)))
theorem spNo3_rows_ex {cP c2 : Addr} {vs : List V} {H H' : Hp} {Q Q' : VK} {E : XK} (e : Ex H H') (h : spNo3 cP c2 c2 RowNo RowOkV RowNo vs H Q E) : spNo3 cP c2 c2 RowNo RowOkV RowNo vs H' Q' E := by
  obtain ⟨x, y, z, h0, h⟩ := h
  refine ⟨x, y, z, h0, ?_⟩
  rcases h with ⟨h1, h2⟩ | ⟨p, h1, h2, ⟨h3, h4⟩ | ⟨h3, h4, h5⟩⟩
  · exact .inl ⟨h1.ex e, h2.ex e⟩
  · exact .inr ⟨p, h1, h2, .inl ⟨AreR.ex e h3, h4.ex e⟩⟩
  · exact .inr ⟨p, h1, h2, .inr ⟨h3.ex e, AreR.ex e h4, h5.ex e⟩⟩
/-- the call that lets the error out -/
theorem x_drop {σ : L2.St} {H : Hp} {D : Ends} {sp : Sp} {E : L2.St → XK} {tA : TA} {vs : List V} (h : EvA tA σ H vs) (k : ∀ H1, Ex H H1 → ∀ Q, sp vs H1 Q (E σ)) : tDrop (tCallS sp E tA) D σ H := h H (Ex.refl H) _ fun H1 e1 => k H1 e1 _
theorem x_dropS {σ : L2.St} {H : Hp} {D : Ends} {sp : Sp} {E : L2.St → XK} {tA : TA} {vs : List V} {tz : TS} (h : EvA tA σ H vs) (k : ∀ H1, Ex H H1 → ∀ Q, sp vs H1 Q (E σ)) : tSeq (tDrop (tCallS sp E tA)) tz D σ H := x_drop h k
def CountNoP (H : Hp) (_ : Int) (x : V) : Prop := CountNo H x
def CountNo400 (H : Hp) (_ : Int) (x : V) : Prop := CountNoW H 0 400 x
def CountNo8 (H : Hp) (_ : Int) (x : V) : Prop := CountNoW H 0 8 x
def CountNo20 (H : Hp) (_ : Int) (x : V) : Prop := CountNoW H 1 20 x
theorem ok_need_prime_and_rows_x {f : Addr} {fd : FuncData} (D : Dat K mg "need_prime_and_rows" s_need_prime_and_rows ["prime", "one", "other"] f fd) {a_PRIMES : Addr} {t_MOST_CUT : Tok} {t_MOST_RULED : Tok} {t_MOST_PLACES : Tok} {t_MOST_TERMS : Tok} {a_PowerError : Addr} {a_BadPrime : Addr} {a_BadRow : Addr} {a_BadCount : Addr} {a_BadRule : Addr} {a_BadPlaces : Addr} {a_BadTerms : Addr} {a_NoPart : Addr} {a_NoInside : Addr} {a_NoRoot : Addr} {a_Answer : Addr} {a_Alike : Addr} {a_Unlike : Addr} {a_Ruled : Addr} {a_Barred : Addr} (B : Blt K mg a_PRIMES t_MOST_CUT t_MOST_RULED t_MOST_PLACES t_MOST_TERMS a_PowerError a_BadPrime a_BadRow a_BadCount a_BadRule a_BadPlaces a_BadTerms a_NoPart a_NoInside a_NoRoot a_Answer a_Alike a_Unlike a_Ruled a_Barred) (X_need_prime : Cal P w K mg base (L2N.CX P w) "need_prime" 2 ["prime"] (spNeedPrimeX a_BadPrime)) (C_need_prime : Cal P w K mg base CX0 "need_prime" 2 ["prime"] spNeedPrime) (X_need_row : Cal P w K mg base (L2N.CX P w) "need_row" 5 ["prime", "row"] (spNeedX a_BadRow RowNo)) (C_need_row : Cal P w K mg base CX0 "need_row" 5 ["prime", "row"] spNeedRow) : Cal P w K mg base (L2N.CX P w) "need_prime_and_rows" 6 ["prime", "one", "other"] (spNo3 a_BadPrime a_BadRow a_BadRow RowNo RowOkV RowNo) := by
  refine D.cal (okN D.F sc_need_prime_and_rows (fun vs H Q E h => ?_) (fun cdv A outer s H vs Q E hr h => ?_))
  · obtain ⟨x, y, z, rfl, _⟩ := h
    rfl
  · obtain ⟨x, y, z, rfl, h⟩ := h
    rcases h with ⟨hx, q⟩ | ⟨p, rfl, hp, ⟨hy, q⟩ | ⟨hy, hz, q⟩⟩
    · exact ⟨_, (pss_cons (ps_expr (pe_cS X_need_prime (hr.mono (by decide)) (fun σ => L2N.passAt (L2N.takes_of rfl rfl rfl rfl) σ) (pa_cons (pv 0) pa_nil)))
    pss_never), x_dropS (ea_cons (ev_var rfl) ea_nil) fun H1 e1 Q => ⟨x, rfl, hx.ex e1, q.ex e1⟩⟩
    · refine ⟨_, (pss_cons (ps_expr (pe_c0 C_need_prime (hr.mono (by decide)) (pa_cons (pv 0) pa_nil)))
    (pss_cons (ps_expr (pe_cS X_need_row (hr.mono (by decide)) (fun σ => L2N.passAt (L2N.takes_of rfl rfl rfl rfl) σ) (pa_cons (pv 0) (pa_cons (pv 1) pa_nil))))
    pss_never)), ?_⟩
      refine q_drop (ev_call (by walk_at "ev") (spv_need_prime hp)) fun H1 e1 => ?_
      exact x_dropS (ea_cons (ev_var rfl) (ea_cons (ev_var rfl) ea_nil)) fun H2 e2 Q => ⟨p, y, rfl, hy.ex (e1.trans e2), q.ex (e1.trans e2)⟩
    · refine ⟨_, (pss_cons (ps_expr (pe_c0 C_need_prime (hr.mono (by decide)) (pa_cons (pv 0) pa_nil)))
    (pss_cons (ps_expr (pe_c0 C_need_row (hr.mono (by decide)) (pa_cons (pv 0) (pa_cons (pv 1) pa_nil))))
    (pss_one (ps_expr (pe_cS X_need_row (hr.mono (by decide)) (fun σ => L2N.passAt (L2N.takes_of rfl rfl rfl rfl) σ) (pa_cons (pv 0) (pa_cons (pv 2) pa_nil))))))), ?_⟩
      obtain ⟨a, xs, rfl, g1, g2⟩ := hy
      refine q_drop (ev_call (by walk_at "ev") (spv_need_prime hp)) fun H1 e1 => ?_
      refine q_drop (ev_call (by walk_at "ev") (spv_need_row (e1 _ _ g1) g2)) fun H2 e2 => ?_
      exact x_drop (ea_cons (ev_var rfl) (ea_cons (ev_var rfl) ea_nil)) fun H3 e3 Q => ⟨p, z, rfl, hz.ex ((e1.trans e2).trans e3), q.ex ((e1.trans e2).trans e3)⟩
theorem ok_raised_b_x {f : Addr} {fd : FuncData} (D : Dat K mg "raised" s_raised ["prime", "row", "many"] f fd) {a_PRIMES : Addr} {t_MOST_CUT : Tok} {t_MOST_RULED : Tok} {t_MOST_PLACES : Tok} {t_MOST_TERMS : Tok} {a_PowerError : Addr} {a_BadPrime : Addr} {a_BadRow : Addr} {a_BadCount : Addr} {a_BadRule : Addr} {a_BadPlaces : Addr} {a_BadTerms : Addr} {a_NoPart : Addr} {a_NoInside : Addr} {a_NoRoot : Addr} {a_Answer : Addr} {a_Alike : Addr} {a_Unlike : Addr} {a_Ruled : Addr} {a_Barred : Addr} (B : Blt K mg a_PRIMES t_MOST_CUT t_MOST_RULED t_MOST_PLACES t_MOST_TERMS a_PowerError a_BadPrime a_BadRow a_BadCount a_BadRule a_BadPlaces a_BadTerms a_NoPart a_NoInside a_NoRoot a_Answer a_Alike a_Unlike a_Ruled a_Barred) (X_need_prime : Cal P w K mg base (L2N.CX P w) "need_prime" 2 ["prime"] (spNeedPrimeX a_BadPrime)) (C_need_prime : Cal P w K mg base CX0 "need_prime" 2 ["prime"] spNeedPrime) (X_need_row : Cal P w K mg base (L2N.CX P w) "need_row" 5 ["prime", "row"] (spNeedX a_BadRow RowNo)) (C_need_row : Cal P w K mg base CX0 "need_row" 5 ["prime", "row"] spNeedRow) (X_need_count : Cal P w K mg base (L2N.CX P w) "need_count" 2 ["many"] (spNeedCountX a_BadCount)) : Cal P w K mg base (L2N.CX P w) "raised" 10 ["prime", "row", "many"] (spNo3 a_BadPrime a_BadRow a_BadCount RowNo RowOkV CountNoP) := by
  refine D.cal (okN D.F sc_raised (fun vs H Q E h => ?_) (fun cdv A outer s H vs Q E hr h => ?_))
  · obtain ⟨x, y, z, rfl, _⟩ := h
    rfl
  · obtain ⟨x, y, z, rfl, h⟩ := h
    rcases h with ⟨hx, q⟩ | ⟨p, rfl, hp, ⟨hy, q⟩ | ⟨hy, hz, q⟩⟩
    · exact ⟨_, (pss_cons (ps_expr (pe_cS X_need_prime (hr.mono (by decide)) (fun σ => L2N.passAt (L2N.takes_of rfl rfl rfl rfl) σ) (pa_cons (pv 0) pa_nil)))
    pss_never), x_dropS (ea_cons (ev_var rfl) ea_nil) fun H1 e1 Q => ⟨x, rfl, hx.ex e1, q.ex e1⟩⟩
    · refine ⟨_, (pss_cons (ps_expr (pe_c0 C_need_prime (hr.mono (by decide)) (pa_cons (pv 0) pa_nil)))
    (pss_cons (ps_expr (pe_cS X_need_row (hr.mono (by decide)) (fun σ => L2N.passAt (L2N.takes_of rfl rfl rfl rfl) σ) (pa_cons (pv 0) (pa_cons (pv 1) pa_nil))))
    pss_never)), ?_⟩
      refine q_drop (ev_call (by walk_at "ev") (spv_need_prime hp)) fun H1 e1 => ?_
      exact x_dropS (ea_cons (ev_var rfl) (ea_cons (ev_var rfl) ea_nil)) fun H2 e2 Q => ⟨p, y, rfl, hy.ex (e1.trans e2), q.ex (e1.trans e2)⟩
    · refine ⟨_, (pss_cons (ps_expr (pe_c0 C_need_prime (hr.mono (by decide)) (pa_cons (pv 0) pa_nil)))
    (pss_cons (ps_expr (pe_c0 C_need_row (hr.mono (by decide)) (pa_cons (pv 0) (pa_cons (pv 1) pa_nil))))
    (pss_cons (ps_expr (pe_cS X_need_count (hr.mono (by decide)) (fun σ => L2N.passAt (L2N.takes_of rfl rfl rfl rfl) σ) (pa_cons (pv 2) pa_nil)))
    pss_never))), ?_⟩
      obtain ⟨a, xs, rfl, g1, g2⟩ := hy
      refine q_drop (ev_call (by walk_at "ev") (spv_need_prime hp)) fun H1 e1 => ?_
      refine q_drop (ev_call (by walk_at "ev") (spv_need_row (e1 _ _ g1) g2)) fun H2 e2 => ?_
      exact x_dropS (ea_cons (ev_var rfl) ea_nil) fun H3 e3 Q => ⟨z, rfl, CountNo.ex ((e1.trans e2).trans e3) hz, q.ex ((e1.trans e2).trans e3)⟩
theorem ok_opened_b_x {f : Addr} {fd : FuncData} (D : Dat K mg "opened" s_opened ["prime", "rule", "many"] f fd) {a_PRIMES : Addr} {t_MOST_CUT : Tok} {t_MOST_RULED : Tok} {t_MOST_PLACES : Tok} {t_MOST_TERMS : Tok} {a_PowerError : Addr} {a_BadPrime : Addr} {a_BadRow : Addr} {a_BadCount : Addr} {a_BadRule : Addr} {a_BadPlaces : Addr} {a_BadTerms : Addr} {a_NoPart : Addr} {a_NoInside : Addr} {a_NoRoot : Addr} {a_Answer : Addr} {a_Alike : Addr} {a_Unlike : Addr} {a_Ruled : Addr} {a_Barred : Addr} (B : Blt K mg a_PRIMES t_MOST_CUT t_MOST_RULED t_MOST_PLACES t_MOST_TERMS a_PowerError a_BadPrime a_BadRow a_BadCount a_BadRule a_BadPlaces a_BadTerms a_NoPart a_NoInside a_NoRoot a_Answer a_Alike a_Unlike a_Ruled a_Barred) (X_need_prime : Cal P w K mg base (L2N.CX P w) "need_prime" 2 ["prime"] (spNeedPrimeX a_BadPrime)) (C_need_prime : Cal P w K mg base CX0 "need_prime" 2 ["prime"] spNeedPrime) (X_need_rule : Cal P w K mg base (L2N.CX P w) "need_rule" 6 ["prime", "rule"] (spNeedX a_BadRule RuleNo)) (C_need_rule : Cal P w K mg base CX0 "need_rule" 6 ["prime", "rule"] spNeedRule) (X_need_count_within : Cal P w K mg base (L2N.CX P w) "need_count_within" 3 ["many", "least", "most"] (spNeedCountWX a_BadCount)) : Cal P w K mg base (L2N.CX P w) "opened" 10 ["prime", "rule", "many"] (spNo3 a_BadPrime a_BadRule a_BadCount RuleNo RuleOkV CountNo400) := by
  refine D.cal (okN D.F sc_opened (fun vs H Q E h => ?_) (fun cdv A outer s H vs Q E hr h => ?_))
  · obtain ⟨x, y, z, rfl, _⟩ := h
    rfl
  · obtain ⟨x, y, z, rfl, h⟩ := h
    rcases h with ⟨hx, q⟩ | ⟨p, rfl, hp, ⟨hy, q⟩ | ⟨hy, hz, q⟩⟩
    · exact ⟨_, (pss_cons (ps_expr (pe_cS X_need_prime (hr.mono (by decide)) (fun σ => L2N.passAt (L2N.takes_of rfl rfl rfl rfl) σ) (pa_cons (pv 0) pa_nil)))
    pss_never), x_dropS (ea_cons (ev_var rfl) ea_nil) fun H1 e1 Q => ⟨x, rfl, hx.ex e1, q.ex e1⟩⟩
    · refine ⟨_, (pss_cons (ps_expr (pe_c0 C_need_prime (hr.mono (by decide)) (pa_cons (pv 0) pa_nil)))
    (pss_cons (ps_expr (pe_cS X_need_rule (hr.mono (by decide)) (fun σ => L2N.passAt (L2N.takes_of rfl rfl rfl rfl) σ) (pa_cons (pv 0) (pa_cons (pv 1) pa_nil))))
    pss_never)), ?_⟩
      refine q_drop (ev_call (by walk_at "ev") (spv_need_prime hp)) fun H1 e1 => ?_
      exact x_dropS (ea_cons (ev_var rfl) (ea_cons (ev_var rfl) ea_nil)) fun H2 e2 Q => ⟨p, y, rfl, hy.ex (e1.trans e2), q.ex (e1.trans e2)⟩
    · refine ⟨_, (pss_cons (ps_expr (pe_c0 C_need_prime (hr.mono (by decide)) (pa_cons (pv 0) pa_nil)))
    (pss_cons (ps_expr (pe_c0 C_need_rule (hr.mono (by decide)) (pa_cons (pv 0) (pa_cons (pv 1) pa_nil))))
    (pss_cons (ps_expr (pe_cS X_need_count_within (hr.mono (by decide)) (fun σ => L2N.passAt (L2N.takes_of rfl rfl rfl rfl) σ) (pa_cons (pv 2) (pa_cons pe_int (pa_cons pe_int pa_nil)))))
    pss_never))), ?_⟩
      obtain ⟨r, a, b, xs, ys, rfl, g1, g2⟩ := hy
      refine q_drop (ev_call (by walk_at "ev") (spv_need_prime hp)) fun H1 e1 => ?_
      refine q_drop (ev_call (by walk_at "ev") (spv_need_rule (g1.ex e1) g2)) fun H2 e2 => ?_
      exact x_dropS (ea_cons (ev_var rfl) (ea_cons ev_c (ea_cons ev_c ea_nil))) fun H3 e3 Q => ⟨z, 0, 400, rfl, by decide, CountNoW.ex ((e1.trans e2).trans e3) hz, q.ex ((e1.trans e2).trans e3)⟩
theorem ok_far_place_b_x {f : Addr} {fd : FuncData} (D : Dat K mg "far_place" s_far_place ["prime", "rule", "at"] f fd) {a_PRIMES : Addr} {t_MOST_CUT : Tok} {t_MOST_RULED : Tok} {t_MOST_PLACES : Tok} {t_MOST_TERMS : Tok} {a_PowerError : Addr} {a_BadPrime : Addr} {a_BadRow : Addr} {a_BadCount : Addr} {a_BadRule : Addr} {a_BadPlaces : Addr} {a_BadTerms : Addr} {a_NoPart : Addr} {a_NoInside : Addr} {a_NoRoot : Addr} {a_Answer : Addr} {a_Alike : Addr} {a_Unlike : Addr} {a_Ruled : Addr} {a_Barred : Addr} (B : Blt K mg a_PRIMES t_MOST_CUT t_MOST_RULED t_MOST_PLACES t_MOST_TERMS a_PowerError a_BadPrime a_BadRow a_BadCount a_BadRule a_BadPlaces a_BadTerms a_NoPart a_NoInside a_NoRoot a_Answer a_Alike a_Unlike a_Ruled a_Barred) (X_need_prime : Cal P w K mg base (L2N.CX P w) "need_prime" 2 ["prime"] (spNeedPrimeX a_BadPrime)) (C_need_prime : Cal P w K mg base CX0 "need_prime" 2 ["prime"] spNeedPrime) (X_need_rule : Cal P w K mg base (L2N.CX P w) "need_rule" 6 ["prime", "rule"] (spNeedX a_BadRule RuleNo)) (C_need_rule : Cal P w K mg base CX0 "need_rule" 6 ["prime", "rule"] spNeedRule) (X_need_count : Cal P w K mg base (L2N.CX P w) "need_count" 2 ["many"] (spNeedCountX a_BadCount)) : Cal P w K mg base (L2N.CX P w) "far_place" 10 ["prime", "rule", "at"] (spNo3 a_BadPrime a_BadRule a_BadCount RuleNo RuleOkV CountNoP) := by
  refine D.cal (okN D.F sc_far_place (fun vs H Q E h => ?_) (fun cdv A outer s H vs Q E hr h => ?_))
  · obtain ⟨x, y, z, rfl, _⟩ := h
    rfl
  · obtain ⟨x, y, z, rfl, h⟩ := h
    rcases h with ⟨hx, q⟩ | ⟨p, rfl, hp, ⟨hy, q⟩ | ⟨hy, hz, q⟩⟩
    · exact ⟨_, (pss_cons (ps_expr (pe_cS X_need_prime (hr.mono (by decide)) (fun σ => L2N.passAt (L2N.takes_of rfl rfl rfl rfl) σ) (pa_cons (pv 0) pa_nil)))
    pss_never), x_dropS (ea_cons (ev_var rfl) ea_nil) fun H1 e1 Q => ⟨x, rfl, hx.ex e1, q.ex e1⟩⟩
    · refine ⟨_, (pss_cons (ps_expr (pe_c0 C_need_prime (hr.mono (by decide)) (pa_cons (pv 0) pa_nil)))
    (pss_cons (ps_expr (pe_cS X_need_rule (hr.mono (by decide)) (fun σ => L2N.passAt (L2N.takes_of rfl rfl rfl rfl) σ) (pa_cons (pv 0) (pa_cons (pv 1) pa_nil))))
    pss_never)), ?_⟩
      refine q_drop (ev_call (by walk_at "ev") (spv_need_prime hp)) fun H1 e1 => ?_
      exact x_dropS (ea_cons (ev_var rfl) (ea_cons (ev_var rfl) ea_nil)) fun H2 e2 Q => ⟨p, y, rfl, hy.ex (e1.trans e2), q.ex (e1.trans e2)⟩
    · refine ⟨_, (pss_cons (ps_expr (pe_c0 C_need_prime (hr.mono (by decide)) (pa_cons (pv 0) pa_nil)))
    (pss_cons (ps_expr (pe_c0 C_need_rule (hr.mono (by decide)) (pa_cons (pv 0) (pa_cons (pv 1) pa_nil))))
    (pss_cons (ps_expr (pe_cS X_need_count (hr.mono (by decide)) (fun σ => L2N.passAt (L2N.takes_of rfl rfl rfl rfl) σ) (pa_cons (pv 2) pa_nil)))
    pss_never))), ?_⟩
      obtain ⟨r, a, b, xs, ys, rfl, g1, g2⟩ := hy
      refine q_drop (ev_call (by walk_at "ev") (spv_need_prime hp)) fun H1 e1 => ?_
      refine q_drop (ev_call (by walk_at "ev") (spv_need_rule (g1.ex e1) g2)) fun H2 e2 => ?_
      exact x_dropS (ea_cons (ev_var rfl) ea_nil) fun H3 e3 Q => ⟨z, rfl, CountNo.ex ((e1.trans e2).trans e3) hz, q.ex ((e1.trans e2).trans e3)⟩
theorem ok_alike_b_x {f : Addr} {fd : FuncData} (D : Dat K mg "alike" s_alike ["prime", "one", "other"] f fd) {a_PRIMES : Addr} {t_MOST_CUT : Tok} {t_MOST_RULED : Tok} {t_MOST_PLACES : Tok} {t_MOST_TERMS : Tok} {a_PowerError : Addr} {a_BadPrime : Addr} {a_BadRow : Addr} {a_BadCount : Addr} {a_BadRule : Addr} {a_BadPlaces : Addr} {a_BadTerms : Addr} {a_NoPart : Addr} {a_NoInside : Addr} {a_NoRoot : Addr} {a_Answer : Addr} {a_Alike : Addr} {a_Unlike : Addr} {a_Ruled : Addr} {a_Barred : Addr} (B : Blt K mg a_PRIMES t_MOST_CUT t_MOST_RULED t_MOST_PLACES t_MOST_TERMS a_PowerError a_BadPrime a_BadRow a_BadCount a_BadRule a_BadPlaces a_BadTerms a_NoPart a_NoInside a_NoRoot a_Answer a_Alike a_Unlike a_Ruled a_Barred) (X_need_prime : Cal P w K mg base (L2N.CX P w) "need_prime" 2 ["prime"] (spNeedPrimeX a_BadPrime)) (C_need_prime : Cal P w K mg base CX0 "need_prime" 2 ["prime"] spNeedPrime) (X_need_rule : Cal P w K mg base (L2N.CX P w) "need_rule" 6 ["prime", "rule"] (spNeedX a_BadRule RuleNo)) (C_need_rule : Cal P w K mg base CX0 "need_rule" 6 ["prime", "rule"] spNeedRule)  : Cal P w K mg base (L2N.CX P w) "alike" 10 ["prime", "one", "other"] (spNo3 a_BadPrime a_BadRule a_BadRule RuleNo RuleOkV RuleNo) := by
  refine D.cal (okN D.F sc_alike (fun vs H Q E h => ?_) (fun cdv A outer s H vs Q E hr h => ?_))
  · obtain ⟨x, y, z, rfl, _⟩ := h
    rfl
  · obtain ⟨x, y, z, rfl, h⟩ := h
    rcases h with ⟨hx, q⟩ | ⟨p, rfl, hp, ⟨hy, q⟩ | ⟨hy, hz, q⟩⟩
    · exact ⟨_, (pss_cons (ps_expr (pe_cS X_need_prime (hr.mono (by decide)) (fun σ => L2N.passAt (L2N.takes_of rfl rfl rfl rfl) σ) (pa_cons (pv 0) pa_nil)))
    pss_never), x_dropS (ea_cons (ev_var rfl) ea_nil) fun H1 e1 Q => ⟨x, rfl, hx.ex e1, q.ex e1⟩⟩
    · refine ⟨_, (pss_cons (ps_expr (pe_c0 C_need_prime (hr.mono (by decide)) (pa_cons (pv 0) pa_nil)))
    (pss_cons (ps_expr (pe_cS X_need_rule (hr.mono (by decide)) (fun σ => L2N.passAt (L2N.takes_of rfl rfl rfl rfl) σ) (pa_cons (pv 0) (pa_cons (pv 1) pa_nil))))
    pss_never)), ?_⟩
      refine q_drop (ev_call (by walk_at "ev") (spv_need_prime hp)) fun H1 e1 => ?_
      exact x_dropS (ea_cons (ev_var rfl) (ea_cons (ev_var rfl) ea_nil)) fun H2 e2 Q => ⟨p, y, rfl, hy.ex (e1.trans e2), q.ex (e1.trans e2)⟩
    · refine ⟨_, (pss_cons (ps_expr (pe_c0 C_need_prime (hr.mono (by decide)) (pa_cons (pv 0) pa_nil)))
    (pss_cons (ps_expr (pe_c0 C_need_rule (hr.mono (by decide)) (pa_cons (pv 0) (pa_cons (pv 1) pa_nil))))
    (pss_cons (ps_expr (pe_cS X_need_rule (hr.mono (by decide)) (fun σ => L2N.passAt (L2N.takes_of rfl rfl rfl rfl) σ) (pa_cons (pv 0) (pa_cons (pv 2) pa_nil))))
    pss_never))), ?_⟩
      obtain ⟨r, a, b, xs, ys, rfl, g1, g2⟩ := hy
      refine q_drop (ev_call (by walk_at "ev") (spv_need_prime hp)) fun H1 e1 => ?_
      refine q_drop (ev_call (by walk_at "ev") (spv_need_rule (g1.ex e1) g2)) fun H2 e2 => ?_
      exact x_dropS (ea_cons (ev_var rfl) (ea_cons (ev_var rfl) ea_nil)) fun H3 e3 Q => ⟨p, z, rfl, hz.ex ((e1.trans e2).trans e3), q.ex ((e1.trans e2).trans e3)⟩
theorem ok_tapped_b_x {f : Addr} {fd : FuncData} (D : Dat K mg "tapped" s_tapped ["prime", "places", "many"] f fd) {a_PRIMES : Addr} {t_MOST_CUT : Tok} {t_MOST_RULED : Tok} {t_MOST_PLACES : Tok} {t_MOST_TERMS : Tok} {a_PowerError : Addr} {a_BadPrime : Addr} {a_BadRow : Addr} {a_BadCount : Addr} {a_BadRule : Addr} {a_BadPlaces : Addr} {a_BadTerms : Addr} {a_NoPart : Addr} {a_NoInside : Addr} {a_NoRoot : Addr} {a_Answer : Addr} {a_Alike : Addr} {a_Unlike : Addr} {a_Ruled : Addr} {a_Barred : Addr} (B : Blt K mg a_PRIMES t_MOST_CUT t_MOST_RULED t_MOST_PLACES t_MOST_TERMS a_PowerError a_BadPrime a_BadRow a_BadCount a_BadRule a_BadPlaces a_BadTerms a_NoPart a_NoInside a_NoRoot a_Answer a_Alike a_Unlike a_Ruled a_Barred) (X_need_prime : Cal P w K mg base (L2N.CX P w) "need_prime" 2 ["prime"] (spNeedPrimeX a_BadPrime)) (C_need_prime : Cal P w K mg base CX0 "need_prime" 2 ["prime"] spNeedPrime) (X_need_places : Cal P w K mg base (L2N.CX P w) "need_places" 5 ["prime", "places"] (spNeedX a_BadPlaces PlacesNo)) (C_need_places : Cal P w K mg base CX0 "need_places" 5 ["prime", "places"] spNeedPlaces) (X_need_count_within : Cal P w K mg base (L2N.CX P w) "need_count_within" 3 ["many", "least", "most"] (spNeedCountWX a_BadCount)) : Cal P w K mg base (L2N.CX P w) "tapped" 10 ["prime", "places", "many"] (spNo3 a_BadPrime a_BadPlaces a_BadCount PlacesNo PlacesOkV CountNo8) := by
  refine D.cal (okN D.F sc_tapped (fun vs H Q E h => ?_) (fun cdv A outer s H vs Q E hr h => ?_))
  · obtain ⟨x, y, z, rfl, _⟩ := h
    rfl
  · obtain ⟨x, y, z, rfl, h⟩ := h
    rcases h with ⟨hx, q⟩ | ⟨p, rfl, hp, ⟨hy, q⟩ | ⟨hy, hz, q⟩⟩
    · exact ⟨_, (pss_cons (ps_expr (pe_cS X_need_prime (hr.mono (by decide)) (fun σ => L2N.passAt (L2N.takes_of rfl rfl rfl rfl) σ) (pa_cons (pv 0) pa_nil)))
    pss_never), x_dropS (ea_cons (ev_var rfl) ea_nil) fun H1 e1 Q => ⟨x, rfl, hx.ex e1, q.ex e1⟩⟩
    · refine ⟨_, (pss_cons (ps_expr (pe_c0 C_need_prime (hr.mono (by decide)) (pa_cons (pv 0) pa_nil)))
    (pss_cons (ps_expr (pe_cS X_need_places (hr.mono (by decide)) (fun σ => L2N.passAt (L2N.takes_of rfl rfl rfl rfl) σ) (pa_cons (pv 0) (pa_cons (pv 1) pa_nil))))
    pss_never)), ?_⟩
      refine q_drop (ev_call (by walk_at "ev") (spv_need_prime hp)) fun H1 e1 => ?_
      exact x_dropS (ea_cons (ev_var rfl) (ea_cons (ev_var rfl) ea_nil)) fun H2 e2 Q => ⟨p, y, rfl, hy.ex (e1.trans e2), q.ex (e1.trans e2)⟩
    · refine ⟨_, (pss_cons (ps_expr (pe_c0 C_need_prime (hr.mono (by decide)) (pa_cons (pv 0) pa_nil)))
    (pss_cons (ps_expr (pe_c0 C_need_places (hr.mono (by decide)) (pa_cons (pv 0) (pa_cons (pv 1) pa_nil))))
    (pss_cons (ps_expr (pe_cS X_need_count_within (hr.mono (by decide)) (fun σ => L2N.passAt (L2N.takes_of rfl rfl rfl rfl) σ) (pa_cons (pv 2) (pa_cons pe_int (pa_cons pe_int pa_nil)))))
    pss_never))), ?_⟩
      obtain ⟨a, xs, rfl, g1, g2, g3⟩ := hy
      refine q_drop (ev_call (by walk_at "ev") (spv_need_prime hp)) fun H1 e1 => ?_
      refine q_drop (ev_call (by walk_at "ev") (spv_need_places (e1 _ _ g1) g2 g3)) fun H2 e2 => ?_
      exact x_dropS (ea_cons (ev_var rfl) (ea_cons ev_c (ea_cons ev_c ea_nil))) fun H3 e3 Q => ⟨z, 0, 8, rfl, by decide, CountNoW.ex ((e1.trans e2).trans e3) hz, q.ex ((e1.trans e2).trans e3)⟩
theorem ok_grown_b_x {f : Addr} {fd : FuncData} (D : Dat K mg "grown" s_grown ["prime", "terms", "many"] f fd) {a_PRIMES : Addr} {t_MOST_CUT : Tok} {t_MOST_RULED : Tok} {t_MOST_PLACES : Tok} {t_MOST_TERMS : Tok} {a_PowerError : Addr} {a_BadPrime : Addr} {a_BadRow : Addr} {a_BadCount : Addr} {a_BadRule : Addr} {a_BadPlaces : Addr} {a_BadTerms : Addr} {a_NoPart : Addr} {a_NoInside : Addr} {a_NoRoot : Addr} {a_Answer : Addr} {a_Alike : Addr} {a_Unlike : Addr} {a_Ruled : Addr} {a_Barred : Addr} (B : Blt K mg a_PRIMES t_MOST_CUT t_MOST_RULED t_MOST_PLACES t_MOST_TERMS a_PowerError a_BadPrime a_BadRow a_BadCount a_BadRule a_BadPlaces a_BadTerms a_NoPart a_NoInside a_NoRoot a_Answer a_Alike a_Unlike a_Ruled a_Barred) (X_need_prime : Cal P w K mg base (L2N.CX P w) "need_prime" 2 ["prime"] (spNeedPrimeX a_BadPrime)) (C_need_prime : Cal P w K mg base CX0 "need_prime" 2 ["prime"] spNeedPrime) (X_need_terms : Cal P w K mg base (L2N.CX P w) "need_terms" 6 ["prime", "terms"] (spNeedX a_BadTerms TermsNo)) (C_need_terms : Cal P w K mg base CX0 "need_terms" 6 ["prime", "terms"] spNeedTerms) (X_need_count_within : Cal P w K mg base (L2N.CX P w) "need_count_within" 3 ["many", "least", "most"] (spNeedCountWX a_BadCount)) : Cal P w K mg base (L2N.CX P w) "grown" 10 ["prime", "terms", "many"] (spNo3 a_BadPrime a_BadTerms a_BadCount TermsNo TermsOkV CountNo20) := by
  refine D.cal (okN D.F sc_grown (fun vs H Q E h => ?_) (fun cdv A outer s H vs Q E hr h => ?_))
  · obtain ⟨x, y, z, rfl, _⟩ := h
    rfl
  · obtain ⟨x, y, z, rfl, h⟩ := h
    rcases h with ⟨hx, q⟩ | ⟨p, rfl, hp, ⟨hy, q⟩ | ⟨hy, hz, q⟩⟩
    · exact ⟨_, (pss_cons (ps_expr (pe_cS X_need_prime (hr.mono (by decide)) (fun σ => L2N.passAt (L2N.takes_of rfl rfl rfl rfl) σ) (pa_cons (pv 0) pa_nil)))
    pss_never), x_dropS (ea_cons (ev_var rfl) ea_nil) fun H1 e1 Q => ⟨x, rfl, hx.ex e1, q.ex e1⟩⟩
    · refine ⟨_, (pss_cons (ps_expr (pe_c0 C_need_prime (hr.mono (by decide)) (pa_cons (pv 0) pa_nil)))
    (pss_cons (ps_expr (pe_cS X_need_terms (hr.mono (by decide)) (fun σ => L2N.passAt (L2N.takes_of rfl rfl rfl rfl) σ) (pa_cons (pv 0) (pa_cons (pv 1) pa_nil))))
    pss_never)), ?_⟩
      refine q_drop (ev_call (by walk_at "ev") (spv_need_prime hp)) fun H1 e1 => ?_
      exact x_dropS (ea_cons (ev_var rfl) (ea_cons (ev_var rfl) ea_nil)) fun H2 e2 Q => ⟨p, y, rfl, hy.ex (e1.trans e2), q.ex (e1.trans e2)⟩
    · refine ⟨_, (pss_cons (ps_expr (pe_c0 C_need_prime (hr.mono (by decide)) (pa_cons (pv 0) pa_nil)))
    (pss_cons (ps_expr (pe_c0 C_need_terms (hr.mono (by decide)) (pa_cons (pv 0) (pa_cons (pv 1) pa_nil))))
    (pss_cons (ps_expr (pe_cS X_need_count_within (hr.mono (by decide)) (fun σ => L2N.passAt (L2N.takes_of rfl rfl rfl rfl) σ) (pa_cons (pv 2) (pa_cons pe_int (pa_cons pe_int pa_nil)))))
    pss_never))), ?_⟩
      obtain ⟨a, rs, ts, rfl, g1, g2, g3, g4, g5⟩ := hy
      refine q_drop (ev_call (by walk_at "ev") (spv_need_prime hp)) fun H1 e1 => ?_
      refine q_drop (ev_call (by walk_at "ev") (spv_need_terms (e1 _ _ g1) (g2.ex e1) g3 g4 g5)) fun H2 e2 => ?_
      exact x_dropS (ea_cons (ev_var rfl) (ea_cons ev_c (ea_cons ev_c ea_nil))) fun H3 e3 Q => ⟨z, 1, 20, rfl, by decide, CountNoW.ex ((e1.trans e2).trans e3) hz, q.ex ((e1.trans e2).trans e3)⟩
theorem ok_plus_b_x {f : Addr} {fd : FuncData} (D : Dat K mg "plus" s_plus ["prime", "one", "other"] f fd) {a_PRIMES : Addr} {t_MOST_CUT : Tok} {t_MOST_RULED : Tok} {t_MOST_PLACES : Tok} {t_MOST_TERMS : Tok} {a_PowerError : Addr} {a_BadPrime : Addr} {a_BadRow : Addr} {a_BadCount : Addr} {a_BadRule : Addr} {a_BadPlaces : Addr} {a_BadTerms : Addr} {a_NoPart : Addr} {a_NoInside : Addr} {a_NoRoot : Addr} {a_Answer : Addr} {a_Alike : Addr} {a_Unlike : Addr} {a_Ruled : Addr} {a_Barred : Addr} (B : Blt K mg a_PRIMES t_MOST_CUT t_MOST_RULED t_MOST_PLACES t_MOST_TERMS a_PowerError a_BadPrime a_BadRow a_BadCount a_BadRule a_BadPlaces a_BadTerms a_NoPart a_NoInside a_NoRoot a_Answer a_Alike a_Unlike a_Ruled a_Barred) (X_need_prime_and_rows : Cal P w K mg base (L2N.CX P w) "need_prime_and_rows" 6 ["prime", "one", "other"] (spNo3 a_BadPrime a_BadRow a_BadRow RowNo RowOkV RowNo)) : Cal P w K mg base (L2N.CX P w) "plus" 10 ["prime", "one", "other"] (spNo3 a_BadPrime a_BadRow a_BadRow RowNo RowOkV RowNo) := by
  refine D.cal (okN D.F sc_plus (fun vs H Q E h => ?_) (fun cdv A outer s H vs Q E hr h => ?_))
  · obtain ⟨x, y, z, rfl, _⟩ := h
    rfl
  · obtain ⟨x, y, z, rfl, _⟩ := id h
    exact ⟨_, (pss_cons (ps_expr (pe_cS X_need_prime_and_rows (hr.mono (by decide)) (fun σ => L2N.passAt (L2N.takes_of rfl rfl rfl rfl) σ) (pa_cons (pv 0) (pa_cons (pv 1) (pa_cons (pv 2) pa_nil)))))
    pss_never), x_dropS (ea_cons (ev_var rfl) (ea_cons (ev_var rfl) (ea_cons (ev_var rfl) ea_nil))) fun H1 e1 Q => spNo3_rows_ex e1 h⟩
theorem ok_times_b_x {f : Addr} {fd : FuncData} (D : Dat K mg "times" s_times ["prime", "one", "other"] f fd) {a_PRIMES : Addr} {t_MOST_CUT : Tok} {t_MOST_RULED : Tok} {t_MOST_PLACES : Tok} {t_MOST_TERMS : Tok} {a_PowerError : Addr} {a_BadPrime : Addr} {a_BadRow : Addr} {a_BadCount : Addr} {a_BadRule : Addr} {a_BadPlaces : Addr} {a_BadTerms : Addr} {a_NoPart : Addr} {a_NoInside : Addr} {a_NoRoot : Addr} {a_Answer : Addr} {a_Alike : Addr} {a_Unlike : Addr} {a_Ruled : Addr} {a_Barred : Addr} (B : Blt K mg a_PRIMES t_MOST_CUT t_MOST_RULED t_MOST_PLACES t_MOST_TERMS a_PowerError a_BadPrime a_BadRow a_BadCount a_BadRule a_BadPlaces a_BadTerms a_NoPart a_NoInside a_NoRoot a_Answer a_Alike a_Unlike a_Ruled a_Barred) (X_need_prime_and_rows : Cal P w K mg base (L2N.CX P w) "need_prime_and_rows" 6 ["prime", "one", "other"] (spNo3 a_BadPrime a_BadRow a_BadRow RowNo RowOkV RowNo)) : Cal P w K mg base (L2N.CX P w) "times" 10 ["prime", "one", "other"] (spNo3 a_BadPrime a_BadRow a_BadRow RowNo RowOkV RowNo) := by
  refine D.cal (okN D.F sc_times (fun vs H Q E h => ?_) (fun cdv A outer s H vs Q E hr h => ?_))
  · obtain ⟨x, y, z, rfl, _⟩ := h
    rfl
  · obtain ⟨x, y, z, rfl, _⟩ := id h
    exact ⟨_, (pss_cons (ps_expr (pe_cS X_need_prime_and_rows (hr.mono (by decide)) (fun σ => L2N.passAt (L2N.takes_of rfl rfl rfl rfl) σ) (pa_cons (pv 0) (pa_cons (pv 1) (pa_cons (pv 2) pa_nil)))))
    pss_never), x_dropS (ea_cons (ev_var rfl) (ea_cons (ev_var rfl) (ea_cons (ev_var rfl) ea_nil))) fun H1 e1 Q => spNo3_rows_ex e1 h⟩
theorem ok_parted_b_x {f : Addr} {fd : FuncData} (D : Dat K mg "parted" s_parted ["prime", "one", "other"] f fd) {a_PRIMES : Addr} {t_MOST_CUT : Tok} {t_MOST_RULED : Tok} {t_MOST_PLACES : Tok} {t_MOST_TERMS : Tok} {a_PowerError : Addr} {a_BadPrime : Addr} {a_BadRow : Addr} {a_BadCount : Addr} {a_BadRule : Addr} {a_BadPlaces : Addr} {a_BadTerms : Addr} {a_NoPart : Addr} {a_NoInside : Addr} {a_NoRoot : Addr} {a_Answer : Addr} {a_Alike : Addr} {a_Unlike : Addr} {a_Ruled : Addr} {a_Barred : Addr} (B : Blt K mg a_PRIMES t_MOST_CUT t_MOST_RULED t_MOST_PLACES t_MOST_TERMS a_PowerError a_BadPrime a_BadRow a_BadCount a_BadRule a_BadPlaces a_BadTerms a_NoPart a_NoInside a_NoRoot a_Answer a_Alike a_Unlike a_Ruled a_Barred) (X_need_prime_and_rows : Cal P w K mg base (L2N.CX P w) "need_prime_and_rows" 6 ["prime", "one", "other"] (spNo3 a_BadPrime a_BadRow a_BadRow RowNo RowOkV RowNo)) : Cal P w K mg base (L2N.CX P w) "parted" 10 ["prime", "one", "other"] (spNo3 a_BadPrime a_BadRow a_BadRow RowNo RowOkV RowNo) := by
  refine D.cal (okN D.F sc_parted (fun vs H Q E h => ?_) (fun cdv A outer s H vs Q E hr h => ?_))
  · obtain ⟨x, y, z, rfl, _⟩ := h
    rfl
  · obtain ⟨x, y, z, rfl, _⟩ := id h
    exact ⟨_, (pss_cons (ps_expr (pe_cS X_need_prime_and_rows (hr.mono (by decide)) (fun σ => L2N.passAt (L2N.takes_of rfl rfl rfl rfl) σ) (pa_cons (pv 0) (pa_cons (pv 1) (pa_cons (pv 2) pa_nil)))))
    pss_never), x_dropS (ea_cons (ev_var rfl) (ea_cons (ev_var rfl) (ea_cons (ev_var rfl) ea_nil))) fun H1 e1 Q => spNo3_rows_ex e1 h⟩
theorem ok_put_in_b_x {f : Addr} {fd : FuncData} (D : Dat K mg "put_in" s_put_in ["prime", "outer", "inner"] f fd) {a_PRIMES : Addr} {t_MOST_CUT : Tok} {t_MOST_RULED : Tok} {t_MOST_PLACES : Tok} {t_MOST_TERMS : Tok} {a_PowerError : Addr} {a_BadPrime : Addr} {a_BadRow : Addr} {a_BadCount : Addr} {a_BadRule : Addr} {a_BadPlaces : Addr} {a_BadTerms : Addr} {a_NoPart : Addr} {a_NoInside : Addr} {a_NoRoot : Addr} {a_Answer : Addr} {a_Alike : Addr} {a_Unlike : Addr} {a_Ruled : Addr} {a_Barred : Addr} (B : Blt K mg a_PRIMES t_MOST_CUT t_MOST_RULED t_MOST_PLACES t_MOST_TERMS a_PowerError a_BadPrime a_BadRow a_BadCount a_BadRule a_BadPlaces a_BadTerms a_NoPart a_NoInside a_NoRoot a_Answer a_Alike a_Unlike a_Ruled a_Barred) (X_need_prime_and_rows : Cal P w K mg base (L2N.CX P w) "need_prime_and_rows" 6 ["prime", "one", "other"] (spNo3 a_BadPrime a_BadRow a_BadRow RowNo RowOkV RowNo)) : Cal P w K mg base (L2N.CX P w) "put_in" 10 ["prime", "outer", "inner"] (spNo3 a_BadPrime a_BadRow a_BadRow RowNo RowOkV RowNo) := by
  refine D.cal (okN D.F sc_put_in (fun vs H Q E h => ?_) (fun cdv A outer s H vs Q E hr h => ?_))
  · obtain ⟨x, y, z, rfl, _⟩ := h
    rfl
  · obtain ⟨x, y, z, rfl, _⟩ := id h
    exact ⟨_, (pss_cons (ps_expr (pe_cS X_need_prime_and_rows (hr.mono (by decide)) (fun σ => L2N.passAt (L2N.takes_of rfl rfl rfl rfl) σ) (pa_cons (pv 0) (pa_cons (pv 1) (pa_cons (pv 2) pa_nil)))))
    pss_never), x_dropS (ea_cons (ev_var rfl) (ea_cons (ev_var rfl) (ea_cons (ev_var rfl) ea_nil))) fun H1 e1 Q => spNo3_rows_ex e1 h⟩
theorem ok_turned_out_b_x {f : Addr} {fd : FuncData} (D : Dat K mg "turned_out" s_turned_out ["prime", "row"] f fd) {a_PRIMES : Addr} {t_MOST_CUT : Tok} {t_MOST_RULED : Tok} {t_MOST_PLACES : Tok} {t_MOST_TERMS : Tok} {a_PowerError : Addr} {a_BadPrime : Addr} {a_BadRow : Addr} {a_BadCount : Addr} {a_BadRule : Addr} {a_BadPlaces : Addr} {a_BadTerms : Addr} {a_NoPart : Addr} {a_NoInside : Addr} {a_NoRoot : Addr} {a_Answer : Addr} {a_Alike : Addr} {a_Unlike : Addr} {a_Ruled : Addr} {a_Barred : Addr} (B : Blt K mg a_PRIMES t_MOST_CUT t_MOST_RULED t_MOST_PLACES t_MOST_TERMS a_PowerError a_BadPrime a_BadRow a_BadCount a_BadRule a_BadPlaces a_BadTerms a_NoPart a_NoInside a_NoRoot a_Answer a_Alike a_Unlike a_Ruled a_Barred) (X_need_prime : Cal P w K mg base (L2N.CX P w) "need_prime" 2 ["prime"] (spNeedPrimeX a_BadPrime)) (C_need_prime : Cal P w K mg base CX0 "need_prime" 2 ["prime"] spNeedPrime) (X_need_row : Cal P w K mg base (L2N.CX P w) "need_row" 5 ["prime", "row"] (spNeedX a_BadRow RowNo)) : Cal P w K mg base (L2N.CX P w) "turned_out" 10 ["prime", "row"] (spNo2 a_BadPrime a_BadRow RowNo) := by
  refine D.cal (okN D.F sc_turned_out (fun vs H Q E h => ?_) (fun cdv A outer s H vs Q E hr h => ?_))
  · obtain ⟨x, y, rfl, _⟩ := h
    rfl
  · obtain ⟨x, y, rfl, h⟩ := h
    rcases h with ⟨hx, q⟩ | ⟨p, rfl, hp, hy, q⟩
    · exact ⟨_, (pss_cons (ps_expr (pe_cS X_need_prime (hr.mono (by decide)) (fun σ => L2N.passAt (L2N.takes_of rfl rfl rfl rfl) σ) (pa_cons (pv 0) pa_nil)))
    pss_never), x_dropS (ea_cons (ev_var rfl) ea_nil) fun H1 e1 Q => ⟨x, rfl, hx.ex e1, q.ex e1⟩⟩
    · refine ⟨_, (pss_cons (ps_expr (pe_c0 C_need_prime (hr.mono (by decide)) (pa_cons (pv 0) pa_nil)))
    (pss_cons (ps_expr (pe_cS X_need_row (hr.mono (by decide)) (fun σ => L2N.passAt (L2N.takes_of rfl rfl rfl rfl) σ) (pa_cons (pv 0) (pa_cons (pv 1) pa_nil))))
    pss_never)), ?_⟩
      refine q_drop (ev_call (by walk_at "ev") (spv_need_prime hp)) fun H1 e1 => ?_
      exact x_dropS (ea_cons (ev_var rfl) (ea_cons (ev_var rfl) ea_nil)) fun H2 e2 Q => ⟨p, y, rfl, hy.ex (e1.trans e2), q.ex (e1.trans e2)⟩
theorem ok_root_b_x {f : Addr} {fd : FuncData} (D : Dat K mg "root" s_root ["prime", "row"] f fd) {a_PRIMES : Addr} {t_MOST_CUT : Tok} {t_MOST_RULED : Tok} {t_MOST_PLACES : Tok} {t_MOST_TERMS : Tok} {a_PowerError : Addr} {a_BadPrime : Addr} {a_BadRow : Addr} {a_BadCount : Addr} {a_BadRule : Addr} {a_BadPlaces : Addr} {a_BadTerms : Addr} {a_NoPart : Addr} {a_NoInside : Addr} {a_NoRoot : Addr} {a_Answer : Addr} {a_Alike : Addr} {a_Unlike : Addr} {a_Ruled : Addr} {a_Barred : Addr} (B : Blt K mg a_PRIMES t_MOST_CUT t_MOST_RULED t_MOST_PLACES t_MOST_TERMS a_PowerError a_BadPrime a_BadRow a_BadCount a_BadRule a_BadPlaces a_BadTerms a_NoPart a_NoInside a_NoRoot a_Answer a_Alike a_Unlike a_Ruled a_Barred) (X_need_prime : Cal P w K mg base (L2N.CX P w) "need_prime" 2 ["prime"] (spNeedPrimeX a_BadPrime)) (C_need_prime : Cal P w K mg base CX0 "need_prime" 2 ["prime"] spNeedPrime) (X_need_row : Cal P w K mg base (L2N.CX P w) "need_row" 5 ["prime", "row"] (spNeedX a_BadRow RowNo)) : Cal P w K mg base (L2N.CX P w) "root" 10 ["prime", "row"] (spNo2 a_BadPrime a_BadRow RowNo) := by
  refine D.cal (okN D.F sc_root (fun vs H Q E h => ?_) (fun cdv A outer s H vs Q E hr h => ?_))
  · obtain ⟨x, y, rfl, _⟩ := h
    rfl
  · obtain ⟨x, y, rfl, h⟩ := h
    rcases h with ⟨hx, q⟩ | ⟨p, rfl, hp, hy, q⟩
    · exact ⟨_, (pss_cons (ps_expr (pe_cS X_need_prime (hr.mono (by decide)) (fun σ => L2N.passAt (L2N.takes_of rfl rfl rfl rfl) σ) (pa_cons (pv 0) pa_nil)))
    pss_never), x_dropS (ea_cons (ev_var rfl) ea_nil) fun H1 e1 Q => ⟨x, rfl, hx.ex e1, q.ex e1⟩⟩
    · refine ⟨_, (pss_cons (ps_expr (pe_c0 C_need_prime (hr.mono (by decide)) (pa_cons (pv 0) pa_nil)))
    (pss_cons (ps_expr (pe_cS X_need_row (hr.mono (by decide)) (fun σ => L2N.passAt (L2N.takes_of rfl rfl rfl rfl) σ) (pa_cons (pv 0) (pa_cons (pv 1) pa_nil))))
    pss_never)), ?_⟩
      refine q_drop (ev_call (by walk_at "ev") (spv_need_prime hp)) fun H1 e1 => ?_
      exact x_dropS (ea_cons (ev_var rfl) (ea_cons (ev_var rfl) ea_nil)) fun H2 e2 Q => ⟨p, y, rfl, hy.ex (e1.trans e2), q.ex (e1.trans e2)⟩

/-! ### a new list each of whose items keeps Z -/
def EvZ (te : TE) (σ : L2.St) (H : Hp) (Z : V → Hp → Prop) : Prop := ∀ H1, Ex H H1 → ∀ Q : VK, (∀ v H2, Ex H1 H2 → Z v H2 → Q v H2) → te σ H1 Q
theorem eaz_nil {σ : L2.St} {H : Hp} {Z : V → Hp → Prop} : EvAP tNil σ H (fun vs H2 => vs.length ≤ 0 ∧ ∀ v ∈ vs, Z v H2) := fun H1 _ Q q => q [] H1 (Ex.refl H1) ⟨Nat.le_refl 0, fun v hv => nomatch hv⟩
theorem eaz_cons {n : Nat} {σ : L2.St} {H : Hp} {te : TE} {tr : TA} {Z : V → Hp → Prop} (mono : ∀ v H1 H2, Ex H1 H2 → Z v H1 → Z v H2) (h : EvZ te σ H Z) (hr : EvAP tr σ H (fun vs H2 => vs.length ≤ n ∧ ∀ v ∈ vs, Z v H2)) : EvAP (tCons te tr) σ H (fun vs H2 => vs.length ≤ n + 1 ∧ ∀ v ∈ vs, Z v H2) := fun H1 e Q q =>
  h H1 e _ fun v H2 e2 hz => hr H2 (e.trans e2) _ fun vs H3 e3 hP => q (v :: vs) H3 (e2.trans e3) ⟨Nat.succ_le_succ hP.1, fun u hu => by
    rcases List.mem_cons.mp hu with rfl | hu
    · exact mono _ _ _ e3 hz
    · exact hP.2 u hu⟩
theorem s_forLP {K : PySem.W.Frag} {σ : L2.St} {H : Hp} {tl : TE} {tu : TS} {D : Ends} {R : List V → Hp → Prop} {j : Nat} (h : EvLP tl σ H R) (Pv : List V → Addr → Nat → L2.St → Hp → Prop) (h0 : ∀ xs p H1, H p = none → Ex H H1 → H1 p = some (.lst xs) → R xs H1 → Pv xs p 0 σ H1) (hl : ∀ xs p i σ' H', i ≤ xs.length → Pv xs p i σ' H' → SqL K H' p xs)
    (hs : ∀ xs p i x σ' H', xs[i]? = some x → Pv xs p i σ' H' → tu { D with nx := Pv xs p (i + 1), ct := Pv xs p (i + 1), bk := D.nx } (σ'.set j (some x)) H') (hd : ∀ xs p σ' H', Pv xs p xs.length σ' H' → D.nx σ' H') : tFor (iList K tl) (gName j) tu D σ H :=
  h H (Ex.refl H) _ fun xs p H1 hp e h1 hR => ⟨p, rfl, ⟨xs, sq_of h1⟩, for_list (D := D) (Pv xs p) (h0 xs p H1 hp e h1 hR) (hl xs p) (hs xs p) (hd xs p)⟩
theorem ez_ev {σ : L2.St} {H : Hp} {te : TE} {Z : V → Hp → Prop} {v : V} (h : Ev te σ H v) (hz : ∀ H1, Ex H H1 → Z v H1) : EvZ te σ H Z := fun H1 e Q q => h H1 e _ fun H2 e2 => q v H2 e2 (hz H2 (e.trans e2))
theorem ez_evL {σ : L2.St} {H : Hp} {te : TE} {Z : V → Hp → Prop} {xs : List V} (h : EvL te σ H xs) (hz : ∀ p H1, H1 p = some (.lst xs) → Z (.ref p) H1) : EvZ te σ H Z := fun H1 e Q q => h H1 e _ fun p H2 _ e2 hp => q (.ref p) H2 e2 (hz p H2 hp)

/-! ### more words: a list that may stand or be new; lists of lists -/
/-- a list's address, of which R is known -/
def EvX (te : TE) (σ : L2.St) (H : Hp) (R : Addr → Hp → Prop) : Prop := ∀ H1, Ex H H1 → ∀ Q : VK, (∀ p H2, Ex H1 H2 → R p H2 → Q (.ref p) H2) → te σ H1 Q
theorem exx_ev {σ : L2.St} {H : Hp} {te : TE} {R : Addr → Hp → Prop} {p : Addr} (h : Ev te σ H (.ref p)) (hz : ∀ H1, Ex H H1 → R p H1) : EvX te σ H R := fun H1 e Q q => h H1 e _ fun H2 e2 => q p H2 e2 (hz H2 (e.trans e2))
theorem exx_L {σ : L2.St} {H : Hp} {te : TE} {R : Addr → Hp → Prop} {xs : List V} (h : EvL te σ H xs) (hz : ∀ p H1, H1 p = some (.lst xs) → R p H1) : EvX te σ H R := fun H1 e Q q => h H1 e _ fun p H2 _ e2 hp => q p H2 e2 (hz p H2 hp)
theorem exx_if {σ : L2.St} {H : Hp} {t : TT} {ta tb : TE} {R : Addr → Hp → Prop} {b : Bool} (h : EvT t σ H b) (h1 : b = true → EvX ta σ H R) (h2 : b = false → EvX tb σ H R) : EvX (tIf t ta tb) σ H R := fun H1 e Q q => h H1 e _ fun H2 e2 => by
  cases b with
  | true =>
    show ta σ H2 Q
    exact h1 rfl H2 (e.trans e2) Q fun p H3 e3 hp => q p H3 (e2.trans e3) hp
  | false =>
    show tb σ H2 Q
    exact h2 rfl H2 (e.trans e2) Q fun p H3 e3 hp => q p H3 (e2.trans e3) hp
theorem q_asgX {σ : L2.St} {H : Hp} {te : TE} {D : Ends} {tz : TS} {i : Nat} {R : Addr → Hp → Prop} (h : EvX te σ H R) (k : ∀ p H1, Ex H H1 → R p H1 → tz D (σ.set i (some (.ref p))) H1) : tSeq (tAsg te (gName i)) tz D σ H := h H (Ex.refl H) _ k
/-- a list whose items keep Z -/
theorem elp_z {K : PySem.W.Frag} {n : Nat} {σ : L2.St} {H : Hp} {tA : TA} {Z : V → Hp → Prop} (mono : ∀ v H1 H2, Ex H1 H2 → Z v H1 → Z v H2) (hn : n ≤ 1000) (h : EvAP tA σ H (fun vs H2 => vs.length ≤ n ∧ ∀ v ∈ vs, Z v H2)) : EvLP (tLst tA) σ H (fun xs H3 => xs.length ≤ n ∧ ∀ v ∈ xs, Z v H3) := fun H1 e Q q =>
  elp_lst h (fun vs J hP => Nat.le_trans hP.1 (by omega)) H1 e Q fun xs p H2 n2 e2 hp hR => q xs p H2 n2 e2 hp ⟨hR.choose_spec.2.1, fun v hv => mono v _ _ hR.choose_spec.1 (hR.choose_spec.2.2 v hv)⟩
theorem elp_cat {K : PySem.W.Frag} {n m : Nat} {σ : L2.St} {H : Hp} {ta tb : TE} {Z : V → Hp → Prop} {a : Addr} {xs : List V} (mono : ∀ v H1 H2, Ex H1 H2 → Z v H1 → Z v H2) (hn : n + m ≤ 1000) (h : Ev ta σ H (.ref a)) (ha : H a = some (.lst xs)) (hz : xs.length ≤ n ∧ ∀ v ∈ xs, Z v H) (h2 : EvLP tb σ H (fun ys H3 => ys.length ≤ m ∧ ∀ v ∈ ys, Z v H3)) : EvLP (tOp rCat ta tb) σ H (fun zs H3 => zs.length ≤ n + m ∧ ∀ v ∈ zs, Z v H3) := fun H1 e Q q =>
  h H1 e _ fun H2 e2 => h2 H2 (e.trans e2) _ fun ys b H3 n3 e3 hb hY => ⟨a, b, xs, ys, rfl, rfl, ((e.trans e2).trans e3) a _ ha, hb, sz_of (by have := hz.1; have := hY.1; omega), fun p hp => q _ p _ (fresh_back (e2.trans e3) hp) ((e2.trans e3).trans (Ex.new hp)) upd_same ⟨by rw [List.length_append]; have := hz.1; have := hY.1; omega, fun v hv => by
    rcases List.mem_append.mp hv with hv | hv
    · exact mono v _ _ (((e.trans e2).trans e3).trans (Ex.new hp)) (hz.2 v hv)
    · exact mono v _ _ (Ex.new hp) (hY.2 v hv)⟩⟩
theorem q_asgLP {σ : L2.St} {H : Hp} {te : TE} {D : Ends} {tz : TS} {i : Nat} {R : List V → Hp → Prop} (h : EvLP te σ H R) (k : ∀ xs p H1, H p = none → Ex H H1 → H1 p = some (.lst xs) → R xs H1 → tz D (σ.set i (some (.ref p))) H1) : tSeq (tAsg te (gName i)) tz D σ H := h H (Ex.refl H) _ fun xs p H1 np e1 hp hR => k xs p H1 np e1 hp hR
/-- a, b = a new list, a value -/
theorem q_parLE {σ : L2.St} {H : Hp} {te te2 : TE} {D : Ends} {tz : TS} {i j : Nat} {xs : List V} {y : V} (h1 : EvL te σ H xs) (h2 : Ev te2 σ H y) (k : ∀ p H1, H p = none → Ex H H1 → H1 p = some (.lst xs) → tz D ((σ.set i (some (.ref p))).set j (some y)) H1) : tSeq (tPar i j (tCons te (tCons te2 tNil))) tz D σ H :=
  h1 H (Ex.refl H) _ fun p H1 np e1 hp => h2 H1 e1 _ fun H2 e2 => ⟨.ref p, y, rfl, k p H2 np (e1.trans e2) (e2 _ _ hp)⟩
/-- an if without else, what is known behind it said once -/
theorem q_ifP {σ : L2.St} {H : Hp} {t : TT} {tu tz : TS} {D : Ends} {b : Bool} (M : L2.St → Hp → Prop) (h : EvT t σ H b) (h1 : b = true → ∀ H1, Ex H H1 → ∀ N : L2.St → Hp → Prop, (∀ σ' H', M σ' H' → N σ' H') → tu { D with nx := N } σ H1) (h2 : b = false → ∀ H1, Ex H H1 → M σ H1) (k : ∀ σ' H', M σ' H' → tz D σ' H') : tSeq (tIfS t tu tNext) tz D σ H :=
  q_when h (fun hb H1 e1 => h1 hb H1 e1 _ k) fun hb H1 e1 => k _ _ (h2 hb H1 e1)
theorem el_repI {σ : L2.St} {H : Hp} {te tb : TE} {n : Nat} {x : Int} (h : Ev te σ H (.int x)) (hb : Ev tb σ H (.int (n : Int))) (hn : n ≤ 1000) : EvL (tOp rRep (tLst (tCons te tNil)) tb) σ H ((List.replicate n x).map V.int) :=
  el_is (el_rep (n := (n : Int)) (el_lst (vs := [.int x]) (ea_cons h ea_nil) (by show (1 : Nat) ≤ 100000; decide)) hb (by omega) rfl) (by rw [Int.toNat_natCast, rep_one, List.map_replicate])
theorem sml_rep {x : Int} (h : -1000000 < x ∧ x < 1000000) (n : Nat) : Sml (List.replicate n x) := fun y hy => by
  rw [(List.mem_replicate.mp hy).2]
  exact h

/-! ### refused, by its class alone -/
open LamX NdefX
def spRefused (P : Program) (w : World) (K : PySem.W.Frag) (mg : Str → Option Value) (base : Heap) (cs : List Addr) : Sp := fun vs H Q _ => ∃ (f1 : Addr) (x : V) (d : Nat) (Bd : V → Hp → Prop) (C : Addr), vs = [.ref f1, x, .int (d : Int)] ∧ AskAt P w K mg base Bd C H f1 ∧ (∀ H1, Ex H H1 → Bd x H1) ∧ cs[d]? = some C ∧ d < 9 ∧ RetV (.bl true) H Q
theorem ok_law_refused {f : Addr} {fd : FuncData} (D : Dat K mg "_law_refused" s_law_refused ["_law_ask", "_law_thing", "_law_due"] f fd) {a_PRIMES : Addr} {t_MOST_CUT : Tok} {t_MOST_RULED : Tok} {t_MOST_PLACES : Tok} {t_MOST_TERMS : Tok} {a_PowerError : Addr} {a_BadPrime : Addr} {a_BadRow : Addr} {a_BadCount : Addr} {a_BadRule : Addr} {a_BadPlaces : Addr} {a_BadTerms : Addr} {a_NoPart : Addr} {a_NoInside : Addr} {a_NoRoot : Addr} {a_Answer : Addr} {a_Alike : Addr} {a_Unlike : Addr} {a_Ruled : Addr} {a_Barred : Addr} (B : Blt K mg a_PRIMES t_MOST_CUT t_MOST_RULED t_MOST_PLACES t_MOST_TERMS a_PowerError a_BadPrime a_BadRow a_BadCount a_BadRule a_BadPlaces a_BadTerms a_NoPart a_NoInside a_NoRoot a_Answer a_Alike a_Unlike a_Ruled a_Barred)
    (E_BadPrime : ExcC K a_BadPrime) (E_BadRow : ExcC K a_BadRow) (E_BadCount : ExcC K a_BadCount) (E_BadRule : ExcC K a_BadRule) (E_BadPlaces : ExcC K a_BadPlaces) (E_BadTerms : ExcC K a_BadTerms) (E_NoPart : ExcC K a_NoPart) (E_NoInside : ExcC K a_NoInside) (E_NoRoot : ExcC K a_NoRoot)
    (M_BadPrime_PowerError : PySem.W.exmOne K (.ref a_BadPrime) (.ref a_PowerError) = some true) (M_BadRow_PowerError : PySem.W.exmOne K (.ref a_BadRow) (.ref a_PowerError) = some true) (M_BadCount_PowerError : PySem.W.exmOne K (.ref a_BadCount) (.ref a_PowerError) = some true) (M_BadRule_PowerError : PySem.W.exmOne K (.ref a_BadRule) (.ref a_PowerError) = some true) (M_BadPlaces_PowerError : PySem.W.exmOne K (.ref a_BadPlaces) (.ref a_PowerError) = some true) (M_BadTerms_PowerError : PySem.W.exmOne K (.ref a_BadTerms) (.ref a_PowerError) = some true) (M_NoPart_PowerError : PySem.W.exmOne K (.ref a_NoPart) (.ref a_PowerError) = some true) (M_NoInside_PowerError : PySem.W.exmOne K (.ref a_NoInside) (.ref a_PowerError) = some true) (M_NoRoot_PowerError : PySem.W.exmOne K (.ref a_NoRoot) (.ref a_PowerError) = some true)
    (V_BadPrime : PySem.W.kitOne K (.ref a_BadPrime) (.type "ValueError") = some true) (V_BadRow : PySem.W.kitOne K (.ref a_BadRow) (.type "ValueError") = some true) (V_BadCount : PySem.W.kitOne K (.ref a_BadCount) (.type "ValueError") = some true) (V_BadRule : PySem.W.kitOne K (.ref a_BadRule) (.type "ValueError") = some true) (V_BadPlaces : PySem.W.kitOne K (.ref a_BadPlaces) (.type "ValueError") = some true) (V_BadTerms : PySem.W.kitOne K (.ref a_BadTerms) (.type "ValueError") = some true) (V_NoPart : PySem.W.kitOne K (.ref a_NoPart) (.type "ValueError") = some true) (V_NoInside : PySem.W.kitOne K (.ref a_NoInside) (.type "ValueError") = some true) (V_NoRoot : PySem.W.kitOne K (.ref a_NoRoot) (.type "ValueError") = some true)
    (K_BadPrime_BadPrime : PySem.W.kitOne K (.ref a_BadPrime) (.ref a_BadPrime) = some true) (K_BadPrime_BadRow : PySem.W.kitOne K (.ref a_BadPrime) (.ref a_BadRow) = some false) (K_BadPrime_BadCount : PySem.W.kitOne K (.ref a_BadPrime) (.ref a_BadCount) = some false) (K_BadPrime_BadRule : PySem.W.kitOne K (.ref a_BadPrime) (.ref a_BadRule) = some false) (K_BadPrime_BadPlaces : PySem.W.kitOne K (.ref a_BadPrime) (.ref a_BadPlaces) = some false) (K_BadPrime_BadTerms : PySem.W.kitOne K (.ref a_BadPrime) (.ref a_BadTerms) = some false) (K_BadPrime_NoPart : PySem.W.kitOne K (.ref a_BadPrime) (.ref a_NoPart) = some false) (K_BadPrime_NoInside : PySem.W.kitOne K (.ref a_BadPrime) (.ref a_NoInside) = some false) (K_BadPrime_NoRoot : PySem.W.kitOne K (.ref a_BadPrime) (.ref a_NoRoot) = some false) (K_BadRow_BadPrime : PySem.W.kitOne K (.ref a_BadRow) (.ref a_BadPrime) = some false) (K_BadRow_BadRow : PySem.W.kitOne K (.ref a_BadRow) (.ref a_BadRow) = some true) (K_BadRow_BadCount : PySem.W.kitOne K (.ref a_BadRow) (.ref a_BadCount) = some false) (K_BadRow_BadRule : PySem.W.kitOne K (.ref a_BadRow) (.ref a_BadRule) = some false) (K_BadRow_BadPlaces : PySem.W.kitOne K (.ref a_BadRow) (.ref a_BadPlaces) = some false) (K_BadRow_BadTerms : PySem.W.kitOne K (.ref a_BadRow) (.ref a_BadTerms) = some false) (K_BadRow_NoPart : PySem.W.kitOne K (.ref a_BadRow) (.ref a_NoPart) = some false) (K_BadRow_NoInside : PySem.W.kitOne K (.ref a_BadRow) (.ref a_NoInside) = some false) (K_BadRow_NoRoot : PySem.W.kitOne K (.ref a_BadRow) (.ref a_NoRoot) = some false) (K_BadCount_BadPrime : PySem.W.kitOne K (.ref a_BadCount) (.ref a_BadPrime) = some false) (K_BadCount_BadRow : PySem.W.kitOne K (.ref a_BadCount) (.ref a_BadRow) = some false) (K_BadCount_BadCount : PySem.W.kitOne K (.ref a_BadCount) (.ref a_BadCount) = some true) (K_BadCount_BadRule : PySem.W.kitOne K (.ref a_BadCount) (.ref a_BadRule) = some false) (K_BadCount_BadPlaces : PySem.W.kitOne K (.ref a_BadCount) (.ref a_BadPlaces) = some false) (K_BadCount_BadTerms : PySem.W.kitOne K (.ref a_BadCount) (.ref a_BadTerms) = some false) (K_BadCount_NoPart : PySem.W.kitOne K (.ref a_BadCount) (.ref a_NoPart) = some false) (K_BadCount_NoInside : PySem.W.kitOne K (.ref a_BadCount) (.ref a_NoInside) = some false) (K_BadCount_NoRoot : PySem.W.kitOne K (.ref a_BadCount) (.ref a_NoRoot) = some false) (K_BadRule_BadPrime : PySem.W.kitOne K (.ref a_BadRule) (.ref a_BadPrime) = some false) (K_BadRule_BadRow : PySem.W.kitOne K (.ref a_BadRule) (.ref a_BadRow) = some false) (K_BadRule_BadCount : PySem.W.kitOne K (.ref a_BadRule) (.ref a_BadCount) = some false) (K_BadRule_BadRule : PySem.W.kitOne K (.ref a_BadRule) (.ref a_BadRule) = some true) (K_BadRule_BadPlaces : PySem.W.kitOne K (.ref a_BadRule) (.ref a_BadPlaces) = some false) (K_BadRule_BadTerms : PySem.W.kitOne K (.ref a_BadRule) (.ref a_BadTerms) = some false) (K_BadRule_NoPart : PySem.W.kitOne K (.ref a_BadRule) (.ref a_NoPart) = some false) (K_BadRule_NoInside : PySem.W.kitOne K (.ref a_BadRule) (.ref a_NoInside) = some false) (K_BadRule_NoRoot : PySem.W.kitOne K (.ref a_BadRule) (.ref a_NoRoot) = some false) (K_BadPlaces_BadPrime : PySem.W.kitOne K (.ref a_BadPlaces) (.ref a_BadPrime) = some false) (K_BadPlaces_BadRow : PySem.W.kitOne K (.ref a_BadPlaces) (.ref a_BadRow) = some false) (K_BadPlaces_BadCount : PySem.W.kitOne K (.ref a_BadPlaces) (.ref a_BadCount) = some false) (K_BadPlaces_BadRule : PySem.W.kitOne K (.ref a_BadPlaces) (.ref a_BadRule) = some false) (K_BadPlaces_BadPlaces : PySem.W.kitOne K (.ref a_BadPlaces) (.ref a_BadPlaces) = some true) (K_BadPlaces_BadTerms : PySem.W.kitOne K (.ref a_BadPlaces) (.ref a_BadTerms) = some false) (K_BadPlaces_NoPart : PySem.W.kitOne K (.ref a_BadPlaces) (.ref a_NoPart) = some false) (K_BadPlaces_NoInside : PySem.W.kitOne K (.ref a_BadPlaces) (.ref a_NoInside) = some false) (K_BadPlaces_NoRoot : PySem.W.kitOne K (.ref a_BadPlaces) (.ref a_NoRoot) = some false) (K_BadTerms_BadPrime : PySem.W.kitOne K (.ref a_BadTerms) (.ref a_BadPrime) = some false) (K_BadTerms_BadRow : PySem.W.kitOne K (.ref a_BadTerms) (.ref a_BadRow) = some false) (K_BadTerms_BadCount : PySem.W.kitOne K (.ref a_BadTerms) (.ref a_BadCount) = some false) (K_BadTerms_BadRule : PySem.W.kitOne K (.ref a_BadTerms) (.ref a_BadRule) = some false) (K_BadTerms_BadPlaces : PySem.W.kitOne K (.ref a_BadTerms) (.ref a_BadPlaces) = some false) (K_BadTerms_BadTerms : PySem.W.kitOne K (.ref a_BadTerms) (.ref a_BadTerms) = some true) (K_BadTerms_NoPart : PySem.W.kitOne K (.ref a_BadTerms) (.ref a_NoPart) = some false) (K_BadTerms_NoInside : PySem.W.kitOne K (.ref a_BadTerms) (.ref a_NoInside) = some false) (K_BadTerms_NoRoot : PySem.W.kitOne K (.ref a_BadTerms) (.ref a_NoRoot) = some false) (K_NoPart_BadPrime : PySem.W.kitOne K (.ref a_NoPart) (.ref a_BadPrime) = some false) (K_NoPart_BadRow : PySem.W.kitOne K (.ref a_NoPart) (.ref a_BadRow) = some false) (K_NoPart_BadCount : PySem.W.kitOne K (.ref a_NoPart) (.ref a_BadCount) = some false) (K_NoPart_BadRule : PySem.W.kitOne K (.ref a_NoPart) (.ref a_BadRule) = some false) (K_NoPart_BadPlaces : PySem.W.kitOne K (.ref a_NoPart) (.ref a_BadPlaces) = some false) (K_NoPart_BadTerms : PySem.W.kitOne K (.ref a_NoPart) (.ref a_BadTerms) = some false) (K_NoPart_NoPart : PySem.W.kitOne K (.ref a_NoPart) (.ref a_NoPart) = some true) (K_NoPart_NoInside : PySem.W.kitOne K (.ref a_NoPart) (.ref a_NoInside) = some false) (K_NoPart_NoRoot : PySem.W.kitOne K (.ref a_NoPart) (.ref a_NoRoot) = some false) (K_NoInside_BadPrime : PySem.W.kitOne K (.ref a_NoInside) (.ref a_BadPrime) = some false) (K_NoInside_BadRow : PySem.W.kitOne K (.ref a_NoInside) (.ref a_BadRow) = some false) (K_NoInside_BadCount : PySem.W.kitOne K (.ref a_NoInside) (.ref a_BadCount) = some false) (K_NoInside_BadRule : PySem.W.kitOne K (.ref a_NoInside) (.ref a_BadRule) = some false) (K_NoInside_BadPlaces : PySem.W.kitOne K (.ref a_NoInside) (.ref a_BadPlaces) = some false) (K_NoInside_BadTerms : PySem.W.kitOne K (.ref a_NoInside) (.ref a_BadTerms) = some false) (K_NoInside_NoPart : PySem.W.kitOne K (.ref a_NoInside) (.ref a_NoPart) = some false) (K_NoInside_NoInside : PySem.W.kitOne K (.ref a_NoInside) (.ref a_NoInside) = some true) (K_NoInside_NoRoot : PySem.W.kitOne K (.ref a_NoInside) (.ref a_NoRoot) = some false) (K_NoRoot_BadPrime : PySem.W.kitOne K (.ref a_NoRoot) (.ref a_BadPrime) = some false) (K_NoRoot_BadRow : PySem.W.kitOne K (.ref a_NoRoot) (.ref a_BadRow) = some false) (K_NoRoot_BadCount : PySem.W.kitOne K (.ref a_NoRoot) (.ref a_BadCount) = some false) (K_NoRoot_BadRule : PySem.W.kitOne K (.ref a_NoRoot) (.ref a_BadRule) = some false) (K_NoRoot_BadPlaces : PySem.W.kitOne K (.ref a_NoRoot) (.ref a_BadPlaces) = some false) (K_NoRoot_BadTerms : PySem.W.kitOne K (.ref a_NoRoot) (.ref a_BadTerms) = some false) (K_NoRoot_NoPart : PySem.W.kitOne K (.ref a_NoRoot) (.ref a_NoPart) = some false) (K_NoRoot_NoInside : PySem.W.kitOne K (.ref a_NoRoot) (.ref a_NoInside) = some false) (K_NoRoot_NoRoot : PySem.W.kitOne K (.ref a_NoRoot) (.ref a_NoRoot) = some true) : Cal P w K mg base CX0 "_law_refused" 15 ["_law_ask", "_law_thing", "_law_due"] (spRefused P w K mg base [a_BadPrime, a_BadRow, a_BadCount, a_BadRule, a_BadPlaces, a_BadTerms, a_NoPart, a_NoInside, a_NoRoot]) := by
  refine D.cal (D.F.ok sc_law_refused (fun vs H Q E h => ?_) (fun cdv A outer s H vs Q E hr h => ?_))
  · obtain ⟨f1, x, d, Bd, C, rfl, _⟩ := h
    rfl
  · obtain ⟨f1, x, d, Bd, C, rfl, hA, hB, hC, hd, q⟩ := h
    have kk : ∀ (i d : Nat) (Di Dd : Addr), [a_BadPrime, a_BadRow, a_BadCount, a_BadRule, a_BadPlaces, a_BadTerms, a_NoPart, a_NoInside, a_NoRoot][i]? = some Di → [a_BadPrime, a_BadRow, a_BadCount, a_BadRule, a_BadPlaces, a_BadTerms, a_NoPart, a_NoInside, a_NoRoot][d]? = some Dd → PySem.W.kitOne K (.ref Dd) (.ref Di) = some (decide (i = d)) := by
      intro i d Di Dd h1 h2
      match i, h1 with
      | 0, h1 =>
        cases h1
        match d, h2 with
        | 0, h2 => cases h2; exact K_BadPrime_BadPrime
        | 1, h2 => cases h2; exact K_BadRow_BadPrime
        | 2, h2 => cases h2; exact K_BadCount_BadPrime
        | 3, h2 => cases h2; exact K_BadRule_BadPrime
        | 4, h2 => cases h2; exact K_BadPlaces_BadPrime
        | 5, h2 => cases h2; exact K_BadTerms_BadPrime
        | 6, h2 => cases h2; exact K_NoPart_BadPrime
        | 7, h2 => cases h2; exact K_NoInside_BadPrime
        | 8, h2 => cases h2; exact K_NoRoot_BadPrime
      | 1, h1 =>
        cases h1
        match d, h2 with
        | 0, h2 => cases h2; exact K_BadPrime_BadRow
        | 1, h2 => cases h2; exact K_BadRow_BadRow
        | 2, h2 => cases h2; exact K_BadCount_BadRow
        | 3, h2 => cases h2; exact K_BadRule_BadRow
        | 4, h2 => cases h2; exact K_BadPlaces_BadRow
        | 5, h2 => cases h2; exact K_BadTerms_BadRow
        | 6, h2 => cases h2; exact K_NoPart_BadRow
        | 7, h2 => cases h2; exact K_NoInside_BadRow
        | 8, h2 => cases h2; exact K_NoRoot_BadRow
      | 2, h1 =>
        cases h1
        match d, h2 with
        | 0, h2 => cases h2; exact K_BadPrime_BadCount
        | 1, h2 => cases h2; exact K_BadRow_BadCount
        | 2, h2 => cases h2; exact K_BadCount_BadCount
        | 3, h2 => cases h2; exact K_BadRule_BadCount
        | 4, h2 => cases h2; exact K_BadPlaces_BadCount
        | 5, h2 => cases h2; exact K_BadTerms_BadCount
        | 6, h2 => cases h2; exact K_NoPart_BadCount
        | 7, h2 => cases h2; exact K_NoInside_BadCount
        | 8, h2 => cases h2; exact K_NoRoot_BadCount
      | 3, h1 =>
        cases h1
        match d, h2 with
        | 0, h2 => cases h2; exact K_BadPrime_BadRule
        | 1, h2 => cases h2; exact K_BadRow_BadRule
        | 2, h2 => cases h2; exact K_BadCount_BadRule
        | 3, h2 => cases h2; exact K_BadRule_BadRule
        | 4, h2 => cases h2; exact K_BadPlaces_BadRule
        | 5, h2 => cases h2; exact K_BadTerms_BadRule
        | 6, h2 => cases h2; exact K_NoPart_BadRule
        | 7, h2 => cases h2; exact K_NoInside_BadRule
        | 8, h2 => cases h2; exact K_NoRoot_BadRule
      | 4, h1 =>
        cases h1
        match d, h2 with
        | 0, h2 => cases h2; exact K_BadPrime_BadPlaces
        | 1, h2 => cases h2; exact K_BadRow_BadPlaces
        | 2, h2 => cases h2; exact K_BadCount_BadPlaces
        | 3, h2 => cases h2; exact K_BadRule_BadPlaces
        | 4, h2 => cases h2; exact K_BadPlaces_BadPlaces
        | 5, h2 => cases h2; exact K_BadTerms_BadPlaces
        | 6, h2 => cases h2; exact K_NoPart_BadPlaces
        | 7, h2 => cases h2; exact K_NoInside_BadPlaces
        | 8, h2 => cases h2; exact K_NoRoot_BadPlaces
      | 5, h1 =>
        cases h1
        match d, h2 with
        | 0, h2 => cases h2; exact K_BadPrime_BadTerms
        | 1, h2 => cases h2; exact K_BadRow_BadTerms
        | 2, h2 => cases h2; exact K_BadCount_BadTerms
        | 3, h2 => cases h2; exact K_BadRule_BadTerms
        | 4, h2 => cases h2; exact K_BadPlaces_BadTerms
        | 5, h2 => cases h2; exact K_BadTerms_BadTerms
        | 6, h2 => cases h2; exact K_NoPart_BadTerms
        | 7, h2 => cases h2; exact K_NoInside_BadTerms
        | 8, h2 => cases h2; exact K_NoRoot_BadTerms
      | 6, h1 =>
        cases h1
        match d, h2 with
        | 0, h2 => cases h2; exact K_BadPrime_NoPart
        | 1, h2 => cases h2; exact K_BadRow_NoPart
        | 2, h2 => cases h2; exact K_BadCount_NoPart
        | 3, h2 => cases h2; exact K_BadRule_NoPart
        | 4, h2 => cases h2; exact K_BadPlaces_NoPart
        | 5, h2 => cases h2; exact K_BadTerms_NoPart
        | 6, h2 => cases h2; exact K_NoPart_NoPart
        | 7, h2 => cases h2; exact K_NoInside_NoPart
        | 8, h2 => cases h2; exact K_NoRoot_NoPart
      | 7, h1 =>
        cases h1
        match d, h2 with
        | 0, h2 => cases h2; exact K_BadPrime_NoInside
        | 1, h2 => cases h2; exact K_BadRow_NoInside
        | 2, h2 => cases h2; exact K_BadCount_NoInside
        | 3, h2 => cases h2; exact K_BadRule_NoInside
        | 4, h2 => cases h2; exact K_BadPlaces_NoInside
        | 5, h2 => cases h2; exact K_BadTerms_NoInside
        | 6, h2 => cases h2; exact K_NoPart_NoInside
        | 7, h2 => cases h2; exact K_NoInside_NoInside
        | 8, h2 => cases h2; exact K_NoRoot_NoInside
      | 8, h1 =>
        cases h1
        match d, h2 with
        | 0, h2 => cases h2; exact K_BadPrime_NoRoot
        | 1, h2 => cases h2; exact K_BadRow_NoRoot
        | 2, h2 => cases h2; exact K_BadCount_NoRoot
        | 3, h2 => cases h2; exact K_BadRule_NoRoot
        | 4, h2 => cases h2; exact K_BadPlaces_NoRoot
        | 5, h2 => cases h2; exact K_BadTerms_NoRoot
        | 6, h2 => cases h2; exact K_NoPart_NoRoot
        | 7, h2 => cases h2; exact K_NoInside_NoRoot
        | 8, h2 => cases h2; exact K_NoRoot_NoRoot
    have xx : ∀ (d : Nat) (Dd : Addr), [a_BadPrime, a_BadRow, a_BadCount, a_BadRule, a_BadPlaces, a_BadTerms, a_NoPart, a_NoInside, a_NoRoot][d]? = some Dd → ExcC K Dd ∧ PySem.W.exmOne K (.ref Dd) (.ref a_PowerError) = some true ∧ PySem.W.kitOne K (.ref Dd) (.type "ValueError") = some true := by
      intro d Dd h2
      match d, h2 with
      | 0, h2 => cases h2; exact ⟨E_BadPrime, M_BadPrime_PowerError, V_BadPrime⟩
      | 1, h2 => cases h2; exact ⟨E_BadRow, M_BadRow_PowerError, V_BadRow⟩
      | 2, h2 => cases h2; exact ⟨E_BadCount, M_BadCount_PowerError, V_BadCount⟩
      | 3, h2 => cases h2; exact ⟨E_BadRule, M_BadRule_PowerError, V_BadRule⟩
      | 4, h2 => cases h2; exact ⟨E_BadPlaces, M_BadPlaces_PowerError, V_BadPlaces⟩
      | 5, h2 => cases h2; exact ⟨E_BadTerms, M_BadTerms_PowerError, V_BadTerms⟩
      | 6, h2 => cases h2; exact ⟨E_NoPart, M_NoPart_PowerError, V_NoPart⟩
      | 7, h2 => cases h2; exact ⟨E_NoInside, M_NoInside_PowerError, V_NoInside⟩
      | 8, h2 => cases h2; exact ⟨E_NoRoot, M_NoRoot_PowerError, V_NoRoot⟩
    obtain ⟨L1, ps1, hf, hc, hcl, FN1⟩ := hA.ex
    obtain ⟨hE, hM, hV⟩ := xx d C hC
    have CC1 : CellsAt L1.cl [] [] s.heap H := by
      rw [hcl]
      exact cells_nil
    let ws1 : List (Option V) := []
    let sp1 := AskSp Bd C
    refine ⟨_, (pss_cons (L2N.ps_try_as (i := 3) (tb := fun W => (tDrop (tAsk 0 f1 L1 ws1 sp1 (WE W) (tCons (tVar 1) tNil)))) (ts := fun a cls d => (tSeq (tAsg (tLst (tCons (tCB (rIsX K a cls d) (tCons (tVar 3) (tCons (tC (.ref a_BadPrime)) tNil))) (tCons (tCB (rIsX K a cls d) (tCons (tVar 3) (tCons (tC (.ref a_BadRow)) tNil))) (tCons (tCB (rIsX K a cls d) (tCons (tVar 3) (tCons (tC (.ref a_BadCount)) tNil))) tNil)))) (gName 4)) (tSeq (tAsg (tOp rCat (tVar 4) (tLst (tCons (tCB (rIsX K a cls d) (tCons (tVar 3) (tCons (tC (.ref a_BadRule)) tNil))) (tCons (tCB (rIsX K a cls d) (tCons (tVar 3) (tCons (tC (.ref a_BadPlaces)) tNil))) (tCons (tCB (rIsX K a cls d) (tCons (tVar 3) (tCons (tC (.ref a_BadTerms)) tNil))) tNil))))) (gName 4)) (tSeq (tAsg (tOp rCat (tVar 4) (tLst (tCons (tCB (rIsX K a cls d) (tCons (tVar 3) (tCons (tC (.ref a_NoPart)) tNil))) (tCons (tCB (rIsX K a cls d) (tCons (tVar 3) (tCons (tC (.ref a_NoInside)) tNil))) (tCons (tCB (rIsX K a cls d) (tCons (tVar 3) (tCons (tC (.ref a_NoRoot)) tNil))) tNil))))) (gName 4)) (tRet (tAndV (tOp (rEqD K) (tVar 4) (tLc (iRng1 (tCons (tC (.int 9)) tNil)) (gName 5) tYes (tOp rEq (tVar 5) (tVar 2)) [5])) (tCB (rIsX K a cls d) (tCons (tVar 3) (tCons (tC (.ty "ValueError")) tNil))))))))) rfl rfl sc_law_refused.nd rfl rfl ⟨rfl, by decide, .inl B.PowerError⟩ takes0N (fun W pn xe tk _ => (pss_one (ps_expr (pe_ask FN1 CC1 rfl (hr.mono (by decide)) (fun σ => L2N.passAt tk σ) rfl (Or.inl rfl) (pa_cons (pv 1) pa_nil))))) (fun a oe cls d pn hz hf => (pss_cons (ps_set (i := 4) sc_law_refused.nd rfl (Or.inl rfl) (pe_lst (pa_cons (pe_callB (r := rIsX K a cls d) (call_isX hz.zc hf) (by rfl) B.isinstance (by decide +kernel) (pa_cons (pv 3) (pa_cons (pe_glob (v := .ref a_BadPrime) rfl B.BadPrime rfl) pa_nil))) (pa_cons (pe_callB (r := rIsX K a cls d) (call_isX hz.zc hf) (by rfl) B.isinstance (by decide +kernel) (pa_cons (pv 3) (pa_cons (pe_glob (v := .ref a_BadRow) rfl B.BadRow rfl) pa_nil))) (pa_cons (pe_callB (r := rIsX K a cls d) (call_isX hz.zc hf) (by rfl) B.isinstance (by decide +kernel) (pa_cons (pv 3) (pa_cons (pe_glob (v := .ref a_BadCount) rfl B.BadCount rfl) pa_nil))) pa_nil)))))
    (pss_cons (ps_set (i := 4) sc_law_refused.nd rfl (Or.inl rfl) (pe_op op_cat (pv 4) (pe_lst (pa_cons (pe_callB (r := rIsX K a cls d) (call_isX hz.zc hf) (by rfl) B.isinstance (by decide +kernel) (pa_cons (pv 3) (pa_cons (pe_glob (v := .ref a_BadRule) rfl B.BadRule rfl) pa_nil))) (pa_cons (pe_callB (r := rIsX K a cls d) (call_isX hz.zc hf) (by rfl) B.isinstance (by decide +kernel) (pa_cons (pv 3) (pa_cons (pe_glob (v := .ref a_BadPlaces) rfl B.BadPlaces rfl) pa_nil))) (pa_cons (pe_callB (r := rIsX K a cls d) (call_isX hz.zc hf) (by rfl) B.isinstance (by decide +kernel) (pa_cons (pv 3) (pa_cons (pe_glob (v := .ref a_BadTerms) rfl B.BadTerms rfl) pa_nil))) pa_nil))))))
    (pss_cons (ps_set (i := 4) sc_law_refused.nd rfl (Or.inl rfl) (pe_op op_cat (pv 4) (pe_lst (pa_cons (pe_callB (r := rIsX K a cls d) (call_isX hz.zc hf) (by rfl) B.isinstance (by decide +kernel) (pa_cons (pv 3) (pa_cons (pe_glob (v := .ref a_NoPart) rfl B.NoPart rfl) pa_nil))) (pa_cons (pe_callB (r := rIsX K a cls d) (call_isX hz.zc hf) (by rfl) B.isinstance (by decide +kernel) (pa_cons (pv 3) (pa_cons (pe_glob (v := .ref a_NoInside) rfl B.NoInside rfl) pa_nil))) (pa_cons (pe_callB (r := rIsX K a cls d) (call_isX hz.zc hf) (by rfl) B.isinstance (by decide +kernel) (pa_cons (pv 3) (pa_cons (pe_glob (v := .ref a_NoRoot) rfl B.NoRoot rfl) pa_nil))) pa_nil))))))
    (pss_one (ps_ret (pe_and (pe_cmpR (r := rEqD K) (op_eqD hr.units) (pv 4) (pe_lcH (own := [("_law_kind", 5)]) (g := gName 5) (hotc_of hz hf) sc_law_refused.nd (L2H.pi_range1H rfl B.range (pa_cons pe_int pa_nil)) (blkOk_by (N := nm_law_refused) (sc := defScope s_law_refused) (by decide +kernel)) (fun _ _ _ _ _ => pg_name (i := 5) sc_law_refused.nd rfl (Or.inl rfl)) (fun _ _ _ _ _ => (pe_cmpR op_eq (pv 5) (pv 2) (nomark _)))) (nomark _)) (pe_one (pe_callB (r := rIsX K a cls d) (call_isX hz.zc hf) (by rfl) B.isinstance (by decide +kernel) (pa_cons (pv 3) (pa_cons (pe_bltn (v := .ty "ValueError") (by rfl) B.ValueError (by decide +kernel) rfl) pa_nil))))))))))))
    (pss_one (ps_ret pe_bl))), ?_⟩
    refine q_trya (by walk_at "ev") rfl hf hc fun H1 e1 => ⟨x, rfl, hB H1 e1, fun H2 e2 => ⟨true, hM, fun _ xe hx => ?_, fun z => Bool.noConfusion z⟩⟩
    have is : ∀ {σ : L2.St} {J : Hp} {te : TE} (i : Nat) (Di : Addr), [a_BadPrime, a_BadRow, a_BadCount, a_BadRule, a_BadPlaces, a_BadTerms, a_NoPart, a_NoInside, a_NoRoot][i]? = some Di → Ev te σ J (.ref xe) → Ev (tCB (rIsX K xe (.ref C) none) (tCons te (tCons (tC (.ref Di)) tNil))) σ J (.bl (decide (i = d))) := fun i Di h1 h => ev_cb (ea_cons h (ea_cons ev_c ea_nil)) (rc_isX hE (kk i d Di C h1 hC))
    refine q_asgL (xs := ([decide (0 = d), decide (1 = d), decide (2 = d)] : List Bool).map V.bl) (el_lst (ea_cons (is 0 _ rfl (ev_var rfl)) (ea_cons (is 1 _ rfl (ev_var rfl)) (ea_cons (is 2 _ rfl (ev_var rfl)) ea_nil))) (by show (3 : Nat) ≤ 100000; decide)) fun l3 H3 n3 e3 h3 => ?_
    refine q_asgL (xs := ([decide (0 = d), decide (1 = d), decide (2 = d), decide (3 = d), decide (4 = d), decide (5 = d)] : List Bool).map V.bl) (el_is (el_catR (ev_var rfl) h3 (el_lst (vs := ([decide (3 = d), decide (4 = d), decide (5 = d)] : List Bool).map V.bl) (ea_cons (is 3 _ rfl (ev_var rfl)) (ea_cons (is 4 _ rfl (ev_var rfl)) (ea_cons (is 5 _ rfl (ev_var rfl)) ea_nil))) (by show (3 : Nat) ≤ 100000; decide)) (by show (3 : Nat) + 3 ≤ 100000; decide)) rfl) fun l4 H4 n4 e4 h4 => ?_
    refine q_asgL (xs := ((List.range 9).map fun i => decide (i = d)).map V.bl) (el_is (el_catR (ev_var rfl) h4 (el_lst (vs := ([decide (6 = d), decide (7 = d), decide (8 = d)] : List Bool).map V.bl) (ea_cons (is 6 _ rfl (ev_var rfl)) (ea_cons (is 7 _ rfl (ev_var rfl)) (ea_cons (is 8 _ rfl (ev_var rfl)) ea_nil))) (by show (3 : Nat) ≤ 100000; decide)) (by show (6 : Nat) + 3 ≤ 100000; decide)) rfl) fun l5 H5 n5 e5 h5 => ?_
    have sh : SeqAt.shaped (.list (((List.range 9).map fun i => decide (i = d)).map PyData.bool)) = true := by
      refine (fit_list (n := 0) fun z hz => ?_).shaped (by decide)
      obtain ⟨b, _, rfl⟩ := List.mem_map.mp hz
      exact ⟨rfl, Nat.zero_le _⟩
    refine s_ret (v := .bl true) (ev_andV (a := true) (b := true) (ev_opL (xs := ((List.range 9).map fun i => decide (i = d)).map V.bl) (ev_var rfl) (el_is (el_mapR (n := 9) (fun i => V.bl (decide (i = d))) (by walk_at "ev") (by decide) (fun _ => rfl) fun i H6 e6 hi => ev_is (ev_eqN (ev_var rfl) (ev_var rfl)) (by congr 1; exact decide_eq_decide.mpr (by omega))) (by rw [map_map_bl]; rfl)) fun t H6 h6 e6 => rv_eqSame (.lst (sq_of (e6 _ _ h5)) (dp_bools _)) (.lst (sq_of h6) (dp_bools _)) sh) fun _ => ev_cb (ea_cons (ev_var rfl) (ea_cons ev_c ea_nil)) (rc_isXT hE hV)) fun H6 e6 => q H6 (((((e1.trans e2).trans e3).trans e4).trans e5).trans e6)

/-! ### lambdas that refuse, in lists -/
open LamX NdefX
theorem tabs_extN {T : List (Addr × Str)} {H H' : Hp} (e : Ex H H') (h : Tabs T H) : Tabs T H' := h.ext e
/-- nothing stands there but, it may be, a table -/
def Nn (H : Hp) (p : Addr) : Prop := ∀ o, H p = some o → ∃ ps, o = .tbl ps
theorem none_backN {H H' : Hp} {p : Addr} (e : ExtN H H') (n : H' p = none) : Nn H p := fun o ho => Classical.byContradiction fun z => by
  rw [e p o ho fun ps q => z ⟨ps, q⟩] at n
  cases n
theorem Nn.back {H H' : Hp} {p : Addr} (n : Nn H' p) (e : ExtN H H') : Nn H p := fun o ho => Classical.byContradiction fun z => z (n o (e p o ho fun ps q => z ⟨ps, q⟩))
theorem ExtN.mut {H0 H : Hp} {p : Addr} {o : HO} (e : ExtN H0 H) (n : Nn H0 p) : ExtN H0 (upd H p o) := fun b u hb ht => by
  rw [upd_ne fun z => by obtain ⟨ps, q⟩ := n u (by rw [← z]; exact hb); exact ht ps q]
  exact e b u hb ht
theorem tabs_mut {T : List (Addr × Str)} {H : Hp} {p : Addr} {xs ys : List V} (t : Tabs T H) (hp : H p = some (.lst xs)) : Tabs T (upd H p (.lst ys)) := fun q hq => by
  obtain ⟨ps, h1, h2, h3⟩ := t q hq
  have ne : q.1 ≠ p := fun z => by
    rw [z, hp] at h1
    cases h1
  refine ⟨ps, by rw [upd_ne ne]; exact h1, h2, fun pos cv hcv => ?_⟩
  obtain ⟨c, e1, e2⟩ := h3 pos cv hcv
  refine ⟨c, e1, ?_⟩
  rw [upd_ne fun z => by rw [z, hp] at e2; cases e2]
  exact e2
def Ask (P : Program) (w : World) (K : PySem.W.Frag) (mg : Str → Option Value) (base : Heap) (Bd : V → Hp → Prop) (C : Addr) (v : V) (H : Hp) : Prop := ∃ f, v = .ref f ∧ AskAt P w K mg base Bd C H f
theorem Ask.extN {Bd : V → Hp → Prop} {C : Addr} {v : V} {H H' : Hp} (e : ExtN H H') (h : Ask P w K mg base Bd C v H) : Ask P w K mg base Bd C v H' := ⟨h.choose, h.choose_spec.1, h.choose_spec.2.extN e⟩
theorem Ask.mut {Bd : V → Hp → Prop} {C p : Addr} {v : V} {H : Hp} {xs : List V} {o : HO} (hp : H p = some (.lst xs)) (h : Ask P w K mg base Bd C v H) : Ask P w K mg base Bd C v (upd H p o) := by
  obtain ⟨f, rfl, ⟨L, ps, h1, h2, h3, h4⟩⟩ := h
  refine ⟨f, rfl, ⟨L, ps, ?_, ?_, h3, h4⟩⟩
  · rw [upd_ne fun z => by rw [z, hp] at h1; unfold LamO at h1; cases h1]
    exact h1
  · rw [upd_ne fun z => by rw [z, hp] at h2; cases h2]
    exact h2
theorem lam_ask {x : Str} {L : LM} {f C : Addr} {Bd : V → Hp → Prop} (S : NScope [x] [x] [] L.scope) (hb : ∀ (pm ctv : Value) (us : List Value), us.length = [x].length → bindArgs (L.fd pm ctv) ⟨us, []⟩ = pure ([x].zip us))
    (hbody : ∀ (A : Around) (outer : List Env) (s : Shared) (H : Hp) (v : V) (Q : VK) (E : XK), Room 12 (A.deeper (envF L.nf f s.heap.objs.size)) → Bd v H → Refs C H E → ∃ t, PE (ncx (L2N.CX P w) P w K mg base [x] L.nf f A outer s H E) L.body t ∧ t (startF [x] [v] []) H Q) : LOk P w K mg base (L2N.CX P w) 13 f L [x] [] (AskSp Bd C) :=
  lok_of S hb (fun ws vs H Q E h => by obtain ⟨v, rfl, _⟩ := h; rfl) fun A outer s H vs ws Q E hr hws h => by
    obtain ⟨v, rfl, hB, q⟩ := h
    obtain rfl : ws = [] := List.eq_nil_of_length_eq_zero hws
    exact hbody A outer s H v Q E hr hB q
theorem x_call {σ : L2.St} {H : Hp} {Q : VK} {sp : Sp} {E : L2.St → XK} {tA : TA} {R : List V → Hp → Prop} (h : EvAP tA σ H R) (k : ∀ vs H1, Ex H H1 → R vs H1 → sp vs H1 Q (E σ)) : tCallS sp E tA σ H Q := h H (Ex.refl H) _ fun vs H1 e1 hp => k vs H1 e1 hp
/-- what makes lambdas: the tables may grow -/
def EzN (T : List (Addr × Str)) (te : TE) (σ : L2.St) (H : Hp) (Z : V → Hp → Prop) : Prop := ∀ H1, ExtN H H1 → Tabs T H1 → ∀ Q : VK, (∀ v H2, ExtN H1 H2 → Tabs T H2 → Z v H2 → Q v H2) → te σ H1 Q
def EzNA (T : List (Addr × Str)) (ta : TA) (σ : L2.St) (H : Hp) (Z : V → Hp → Prop) (n : Nat) : Prop := ∀ H1, ExtN H H1 → Tabs T H1 → ∀ Q : List V → Hp → Prop, (∀ vs H2, ExtN H1 H2 → Tabs T H2 → vs.length ≤ n → (∀ v ∈ vs, Z v H2) → Q vs H2) → ta σ H1 Q
def EzNL (T : List (Addr × Str)) (te : TE) (σ : L2.St) (H : Hp) (Z : V → Hp → Prop) (n : Nat) : Prop := ∀ H1, ExtN H H1 → Tabs T H1 → ∀ Q : VK, (∀ vs p H2, Nn H1 p → ExtN H1 H2 → Tabs T H2 → H2 p = some (.lst vs) → vs.length ≤ n → (∀ v ∈ vs, Z v H2) → Q (.ref p) H2) → te σ H1 Q
section
variable {T : List (Addr × Str)} {σ : L2.St} {H : Hp} {te : TE} {ta : TA} {C : Addr} {Bd : V → Hp → Prop} {n m : Nat}
theorem ezn_lam {x : Str} {mk : Addr → LM} (hl : ∀ f c', LOk P w K mg base (L2N.CX P w) 13 f (mk c') [x] [] (AskSp Bd C)) (hc : ∀ c', (mk c').cl = []) (hcc : ∀ c', (mk c').c = c') : EzN T (tLamE T mk) σ H (Ask P w K mg base Bd C) := fun H1 e hT Q q =>
  ⟨hT, fun f c' H2 e2 T2 _ hf h2 => q (.ref f) H2 e2 T2 ⟨f, rfl, ⟨mk c', [x], hf, by rw [hcc]; exact h2, hc c', hl f c'⟩⟩⟩
theorem ezn_nil {Z : V → Hp → Prop} : EzNA T tNil σ H Z 0 := fun H1 e hT Q q => q [] H1 (ExtN.of (Ex.refl H1)) hT (Nat.le_refl 0) fun v hv => nomatch hv
theorem ezn_cons (h : EzN T te σ H (Ask P w K mg base Bd C)) (hr : EzNA T ta σ H (Ask P w K mg base Bd C) n) : EzNA T (tCons te ta) σ H (Ask P w K mg base Bd C) (n + 1) := fun H1 e hT Q q =>
  h H1 e hT _ fun v H2 e2 T2 hz => hr H2 (e.trans e2) T2 _ fun vs H3 e3 T3 hl hv => q (v :: vs) H3 (e2.trans e3) T3 (Nat.succ_le_succ hl) fun u hu => by
    rcases List.mem_cons.mp hu with rfl | hu
    · exact hz.extN e3
    · exact hv u hu
theorem ezn_lst (hn : n ≤ 1000) (h : EzNA T ta σ H (Ask P w K mg base Bd C) n) : EzNL T (tLst ta) σ H (Ask P w K mg base Bd C) n := fun H1 e hT Q q =>
  h H1 e hT _ fun vs H2 e2 T2 hl hv => ⟨sz_of (by omega), fun p hp => q vs p _ (none_backN e2 hp) (e2.trans (ExtN.of (Ex.new hp))) (tabs_upd T2 hp) upd_same hl fun v hv2 => (hv v hv2).extN (ExtN.of (Ex.new hp))⟩
/-- a list that a slot holds + a new one -/
theorem ezn_cat {i : Nat} {a : Addr} {xs : List V} (hs : σ[i]? = some (some (.ref a))) (ha : H a = some (.lst xs)) (hx : xs.length ≤ m) (hz : ∀ v ∈ xs, Ask P w K mg base Bd C v H) (hn : m + n ≤ 1000) (h : EzNL T te σ H (Ask P w K mg base Bd C) n) : EzNL T (tOp rCat (tVar i) te) σ H (Ask P w K mg base Bd C) (m + n) := fun H1 e hT Q q =>
  ⟨.ref a, hs, h H1 e hT _ fun ys b H3 n3 e3 T3 hb hl hv => ⟨a, b, xs, ys, rfl, rfl, exn_lst (e.trans e3) ha, hb, sz_of (by omega), fun p hp => q _ p _ (none_backN e3 hp) (e3.trans (ExtN.of (Ex.new hp))) (tabs_upd T3 hp) upd_same (by rw [List.length_append]; omega) fun v hv2 => by
    rcases List.mem_append.mp hv2 with hv2 | hv2
    · exact (hz v hv2).extN ((e.trans e3).trans (ExtN.of (Ex.new hp)))
    · exact (hv v hv2).extN (ExtN.of (Ex.new hp))⟩⟩
variable {D : Ends} {tz tu : TS}
theorem q_asgN {i : Nat} (hT : Tabs T H) (h : EzNL T te σ H (Ask P w K mg base Bd C) n) (k : ∀ vs p H1, Nn H p → ExtN H H1 → Tabs T H1 → H1 p = some (.lst vs) → vs.length ≤ n → (∀ v ∈ vs, Ask P w K mg base Bd C v H1) → tz D (σ.set i (some (.ref p))) H1) : tSeq (tAsg te (gName i)) tz D σ H :=
  h H (ExtN.of (Ex.refl H)) hT _ fun vs p H1 np e1 T1 hp hl hv => k vs p H1 np e1 T1 hp hl hv
/-- asks.append(lambda ..): asks new since H0 -/
theorem q_appN {i : Nat} {a : Addr} {xs : List V} (hs : σ[i]? = some (some (.ref a))) (ha : H a = some (.lst xs)) (hx : xs.length ≤ 1000) (hz : ∀ v ∈ xs, Ask P w K mg base Bd C v H) (hT : Tabs T H) (h : EzN T te σ H (Ask P w K mg base Bd C))
    (k : ∀ v H1, (∀ H0, ExtN H0 H → Nn H0 a → ExtN H0 H1) → Tabs T H1 → H1 a = some (.lst (xs ++ [v])) → (∀ u ∈ xs ++ [v], Ask P w K mg base Bd C u H1) → tz D σ H1) : tSeq (tDrop (tBM K "list" rAppend (tVar i) (tCons te tNil))) tz D σ H :=
  ⟨.ref a, hs, Or.inl ⟨rfl, xs, sq_of ha⟩, h H (ExtN.of (Ex.refl H)) hT _ fun v H2 e2 T2 hv => ⟨a, xs, v, rfl, rfl, exn_lst e2 ha, sz_lt (by omega), k v _ (fun H0 e0 n0 => ExtN.mut (e0.trans e2) n0) (tabs_mut T2 (exn_lst e2 ha)) upd_same fun u hu => by
    rcases List.mem_append.mp hu with hu | hu
    · exact Ask.mut (exn_lst e2 ha) ((hz u hu).extN e2)
    · rw [List.mem_singleton.mp hu]
      exact Ask.mut (exn_lst e2 ha) hv⟩⟩
/-- the same, of a list that may stand already -/
def EzX (T : List (Addr × Str)) (te : TE) (σ : L2.St) (H : Hp) (Z : V → Hp → Prop) (n : Nat) : Prop := ∀ H1, ExtN H H1 → Tabs T H1 → ∀ Q : VK, (∀ vs p H2, ExtN H1 H2 → Tabs T H2 → H2 p = some (.lst vs) → vs.length ≤ n → (∀ v ∈ vs, Z v H2) → Q (.ref p) H2) → te σ H1 Q
theorem ezx_of {Z : V → Hp → Prop} (h : EzNL T te σ H Z n) : EzX T te σ H Z n := fun H1 e hT Q q => h H1 e hT Q fun vs p H2 _ e2 T2 hp hl hv => q vs p H2 e2 T2 hp hl hv
theorem ezx_var {i : Nat} {a : Addr} {xs : List V} (hs : σ[i]? = some (some (.ref a))) (ha : H a = some (.lst xs)) (hx : xs.length ≤ n) (hz : ∀ v ∈ xs, Ask P w K mg base Bd C v H) : EzX T (tVar i) σ H (Ask P w K mg base Bd C) n := fun H1 e hT Q q => ⟨.ref a, hs, q xs a H1 (ExtN.refl _) hT (exn_lst e ha) hx fun v hv => (hz v hv).extN e⟩
/-! the look at each with each -/
def spEach (P : Program) (w : World) (K : PySem.W.Frag) (mg : Str → Option Value) (base : Heap) (cs : List Addr) : Sp := fun vs H Q _ => ∃ (a b : Addr) (fs bs : List V) (d : Nat) (Bd : V → Hp → Prop) (C : Addr), vs = [.ref a, .ref b, .int (d : Int)] ∧ H a = some (.lst fs) ∧ fs.length ≤ 1000 ∧ (∀ v ∈ fs, Ask P w K mg base Bd C v H) ∧ H b = some (.lst bs) ∧ bs.length ≤ 1000 ∧ (∀ v ∈ bs, Bd v H) ∧
  (∀ v H1 H2, Ex H1 H2 → Bd v H1 → Bd v H2) ∧ cs[d]? = some C ∧ d < 9 ∧ RetV (.bl true) H Q
/-- a list each of whose items keeps Z -/
def Bads (Bd : V → Hp → Prop) (p : Addr) (H : Hp) : Prop := ∃ bs : List V, H p = some (.lst bs) ∧ bs.length ≤ 1000 ∧ ∀ v ∈ bs, Bd v H
theorem x_each {E : XK} {t2 : TE} {d : Nat} {cs : List Addr} {Q : VK} (hT : Tabs T H) (h1 : EzX T te σ H (Ask P w K mg base Bd C) n) (hn : n ≤ 1000) (h2 : ∀ H1, ExtN H H1 → EvX t2 σ H1 (Bads Bd)) (mono : ∀ v H1 H2, Ex H1 H2 → Bd v H1 → Bd v H2) (hC : cs[d]? = some C) (hd : d < 9)
    (k : ∀ H3, ExtN H H3 → Tabs T H3 → Q (.bl true) H3) : tCall (spEach P w K mg base cs) [] E (tCons te (tCons t2 (tCons (tC (.int (d : Int))) tNil))) σ H Q :=
  h1 H (ExtN.of (Ex.refl H)) hT _ fun fs p H1 e1 T1 hp hl hv => h2 H1 e1 H1 (Ex.refl H1) _ fun b H2 e2 hb => by
    obtain ⟨bs, g1, g2, g3⟩ := hb
    exact ⟨p, b, fs, bs, d, Bd, C, rfl, e2 _ _ hp, by omega, fun v hv2 => (hv v hv2).extN (ExtN.of e2), g1, g2, g3, mono, hC, hd, fun H3 e3 => k H3 (e1.trans (ExtN.of (e2.trans e3))) (tabs_extN (e2.trans e3) T1)⟩
/-- if not each(..): return False -/
theorem q_each {E : XK} {t2 : TE} {d : Nat} {cs : List Addr} (hT : Tabs T H) (h1 : EzX T te σ H (Ask P w K mg base Bd C) n) (hn : n ≤ 1000) (h2 : ∀ H1, ExtN H H1 → EvX t2 σ H1 (Bads Bd)) (mono : ∀ v H1 H2, Ex H1 H2 → Bd v H1 → Bd v H2) (hC : cs[d]? = some C) (hd : d < 9)
    (k : ∀ H3, ExtN H H3 → Tabs T H3 → tz D σ H3) : tSeq (tIfS (tNot (tB (tCall (spEach P w K mg base cs) [] E (tCons te (tCons t2 (tCons (tC (.int (d : Int))) tNil)))))) tu tNext) tz D σ H :=
  x_each hT h1 hn h2 mono hC hd fun H3 e3 T3 => ⟨true, rfl, k H3 e3 T3⟩
theorem s_retEach {E : XK} {t2 : TE} {d : Nat} {cs : List Addr} (hT : Tabs T H) (h1 : EzX T te σ H (Ask P w K mg base Bd C) n) (hn : n ≤ 1000) (h2 : ∀ H1, ExtN H H1 → EvX t2 σ H1 (Bads Bd)) (mono : ∀ v H1 H2, Ex H1 H2 → Bd v H1 → Bd v H2) (hC : cs[d]? = some C) (hd : d < 9)
    (k : ∀ H3, ExtN H H3 → Tabs T H3 → D.rt (.bl true) H3) : tRet (tCall (spEach P w K mg base cs) [] E (tCons te (tCons t2 (tCons (tC (.int (d : Int))) tNil)))) D σ H := x_each hT h1 hn h2 mono hC hd k
end

/-! ### each with each -/
open LamX NdefX
theorem spv_refused {cs : List Addr} {H : Hp} {f1 : Addr} {x : V} {d : Nat} {Bd : V → Hp → Prop} {C : Addr} (hA : AskAt P w K mg base Bd C H f1) (hB : ∀ H1, Ex H H1 → Bd x H1) (hC : cs[d]? = some C) (hd : d < 9) : SpV (spRefused P w K mg base cs) [.ref f1, x, .int (d : Int)] H (.bl true) := fun H1 e Q q E => ⟨f1, x, d, Bd, C, rfl, hA.mono e, fun H2 e2 => hB H2 (e.trans e2), hC, hd, q⟩
theorem all_trueR : ∀ n : Nat, ((List.range n).map fun _ => true).all id = true := fun n => by
  rw [List.all_eq_true]
  intro x hx
  obtain ⟨_, _, rfl⟩ := List.mem_map.mp hx
  rfl
theorem ok_law_each {f : Addr} {fd : FuncData} (D : Dat K mg "_law_each" s_law_each ["_law_asks", "_law_things", "_law_due"] f fd) {a_PRIMES : Addr} {t_MOST_CUT : Tok} {t_MOST_RULED : Tok} {t_MOST_PLACES : Tok} {t_MOST_TERMS : Tok} {a_PowerError : Addr} {a_BadPrime : Addr} {a_BadRow : Addr} {a_BadCount : Addr} {a_BadRule : Addr} {a_BadPlaces : Addr} {a_BadTerms : Addr} {a_NoPart : Addr} {a_NoInside : Addr} {a_NoRoot : Addr} {a_Answer : Addr} {a_Alike : Addr} {a_Unlike : Addr} {a_Ruled : Addr} {a_Barred : Addr} (B : Blt K mg a_PRIMES t_MOST_CUT t_MOST_RULED t_MOST_PLACES t_MOST_TERMS a_PowerError a_BadPrime a_BadRow a_BadCount a_BadRule a_BadPlaces a_BadTerms a_NoPart a_NoInside a_NoRoot a_Answer a_Alike a_Unlike a_Ruled a_Barred) (C_law_refused : Cal P w K mg base CX0 "_law_refused" 15 ["_law_ask", "_law_thing", "_law_due"] (spRefused P w K mg base [a_BadPrime, a_BadRow, a_BadCount, a_BadRule, a_BadPlaces, a_BadTerms, a_NoPart, a_NoInside, a_NoRoot])) :
    Cal P w K mg base CX0 "_law_each" 17 ["_law_asks", "_law_things", "_law_due"] (spEach P w K mg base [a_BadPrime, a_BadRow, a_BadCount, a_BadRule, a_BadPlaces, a_BadTerms, a_NoPart, a_NoInside, a_NoRoot]) := by
  refine D.cal (D.F.ok sc_law_each (fun vs H Q E h => ?_) (fun cdv A outer s H vs Q E hr h => ?_))
  · obtain ⟨a, b, fs, bs, d, Bd, C, rfl, _⟩ := h
    rfl
  · obtain ⟨a, b, fs, bs, d, Bd, C, rfl, ha, hl, hf, hb, hl2, hv, mono, hC, hd, q⟩ := h
    refine ⟨_, (pss_cons (ps_for PassesOwn.never rfl (pi_list (pv 0)) (pg_name (i := 3) sc_law_each.nd rfl (Or.inr rfl)) (pss_one (ps_if (pt_not (pt_val (pe_callB (r := rAll K) (cr_all rfl) (by rfl) B.all (by decide +kernel) (pa_cons (pe_lc (own := [("_law_thing", 4)]) (g := gName 4) (tt := tYes) (by rfl) sc_law_each.nd (pi_list (pv 1)) (blkOk_by (N := nm_law_each) (sc := defScope s_law_each) (by decide +kernel)) (fun _ _ _ _ _ => pg_name (i := 4) sc_law_each.nd rfl (Or.inl rfl)) (fun _ _ _ _ _ => pts_nil) (fun _ _ _ _ _ => (pe_c0 C_law_refused (hr.mono (by decide)) (pa_cons (pv 3) (pa_cons (pv 4) (pa_cons (pv 2) pa_nil)))))) pa_nil)))) (pss_one (ps_ret pe_bl)) pss_nil)))
    (pss_one (ps_ret pe_bl))), ?_⟩
    refine q_forI ((eg_list (ev_var rfl) (sq_of ha)).i fun H1 e => sq_of (e _ _ ha)) (fun i σ' H' => ∃ z3 z4, σ' = [some (.ref a), some (.ref b), some (.int (d : Int)), z3, z4] ∧ Ex H H') (fun H1 e1 => ⟨_, _, rfl, e1⟩) (fun H1 e1 i x σ' H' H2 hi e hP y => ?_) fun σ' H' e hP => ?_
    · obtain ⟨z3, z4, rfl, e2⟩ := hP
      obtain ⟨rfl, hx⟩ := y
      obtain ⟨fa, rfl, hA⟩ := hf _ (List.mem_of_getElem? hx)
      refine s_when (b := false) (et_not (a := true) (et_B (ev_cbL (xs := ((List.range bs.length).map fun _ => true).map V.bl) (el_is (el_lcL (fun _ => true) (fun _ => V.bl true) (ev_var rfl) (sq_of (e2 _ _ hb)) (by omega) (fun _ => rfl) (fun _ _ _ _ _ => et_yes) fun i v H3 e3 hi3 _ => ?_) (by rw [given_all, map_map_bl (f := fun _ => true)])) fun p H3 h3 e3 => ?_))) (fun z => Bool.noConfusion z) fun _ H3 e3 => ?_
      · exact ev_call (by walk_at "ev") (spv_refused (hA.mono (e2.trans e3)) (fun H4 e4 => mono v H H4 ((e2.trans e3).trans e4) (hv v (List.mem_of_getElem? hi3))) hC hd)
      · have g := rc_all (K := K) (sq_of h3)
        rw [all_trueR] at g
        exact g
      · exact ⟨e.trans e3, _, _, rfl, e2.trans e3⟩
    · obtain ⟨z3, z4, rfl, e2⟩ := hP
      exact s_ret (v := .bl true) ev_c fun H3 e3 => q H3 (e2.trans e3)

/-! ### new things of any sort, one list left out of sight -/
/-- the heap without p -/
def Hw (H : Hp) (p : Addr) : Hp := fun b => if b = p then none else H b
theorem hw_ex {H H2 : Hp} {p : Addr} (e : Ex H H2) : Ex (Hw H p) (Hw H2 p) := fun b u h => by
  unfold Hw at h ⊢
  by_cases z : b = p
  · rw [if_pos z] at h
    cases h
  · rw [if_neg z] at h ⊢
    exact e b u h
theorem hw_le {H : Hp} {p : Addr} : Ex (Hw H p) H := fun b u h => by
  unfold Hw at h
  by_cases z : b = p
  · rw [if_pos z] at h
    cases h
  · rw [if_neg z] at h
    exact h
theorem hw_upd {H : Hp} {p : Addr} {o : HO} : Hw (upd H p o) p = Hw H p := by
  funext b
  unfold Hw
  by_cases z : b = p
  · rw [if_pos z, if_pos z]
  · rw [if_neg z, if_neg z, upd_ne z]
theorem hw_new {H : Hp} {p : Addr} (h : H p = none) : Ex H (Hw H p) := fun b u hb => by
  unfold Hw
  rw [if_neg (ne_of_none hb h)]
  exact hb
theorem hw_at {H : Hp} {p b : Addr} (h : b ≠ p) : Hw H p b = H b := by
  unfold Hw
  rw [if_neg h]
structure View (H : Hp) (φ : Hp → Hp) : Prop where
  ex : ∀ J J2, Ex J J2 → Ex (φ J) (φ J2)
  new : ∀ J p o, Ex H J → J p = none → φ (upd J p o) p = some o
  loc : ∀ J p o, Hw (φ (upd J p o)) p = Hw (φ J) p
  non : ∀ (J : Hp) (p : Addr), J p = none → φ J p = none
theorem view_id {H : Hp} : View H id := ⟨fun _ _ e => e, fun _ _ _ _ _ => upd_same, fun _ _ _ => hw_upd, fun _ _ h => h⟩
theorem View.off {H : Hp} {φ : Hp → Hp} {p : Addr} {o : HO} (V : View H φ) (h : H p = some o) : View H fun J => Hw (φ J) p := by
  refine ⟨fun J J2 e => hw_ex (V.ex J J2 e), fun J b u e hb => ?_, fun J q u => ?_, fun J b hb => ?_⟩
  · show Hw (φ (upd J b u)) p b = some u
    rw [hw_at (ne_of_none (e _ _ h) hb).symm]
    exact V.new J b u e hb
  · funext b
    have g := congrFun (V.loc J q u) b
    unfold Hw at g ⊢
    by_cases z : b = q
    · rw [if_pos z, if_pos z]
    · rw [if_neg z, if_neg z] at g ⊢
      by_cases z2 : b = p
      · rw [if_pos z2, if_pos z2]
      · rw [if_neg z2, if_neg z2]
        exact g
  · show Hw (φ J) p b = none
    unfold Hw
    by_cases z : b = p
    · rw [if_pos z]
    · rw [if_neg z]
      exact V.non J b hb
theorem View.mono {H H2 : Hp} {φ : Hp → Hp} (e : Ex H H2) (V : View H φ) : View H2 φ := ⟨V.ex, fun J p o e2 h => V.new J p o (e.trans e2) h, V.loc, V.non⟩
def Mono (Z : V → Hp → Prop) : Prop := ∀ v H1 H2, Ex H1 H2 → Z v H1 → Z v H2
def MonoL (R : List V → Hp → Prop) : Prop := ∀ vs H1 H2, Ex H1 H2 → R vs H1 → R vs H2
def Rn : List V → Hp → Prop := fun vs _ => vs = []
def Rc (Z : V → Hp → Prop) (R : List V → Hp → Prop) : List V → Hp → Prop := fun vs J => ∃ v r, vs = v :: r ∧ Z v J ∧ R r J
def Is (x : V) : V → Hp → Prop := fun v _ => v = x
theorem mono_is {x : V} : Mono (Is x) := fun _ _ _ _ h => h
theorem mono_n : MonoL Rn := fun _ _ _ _ h => h
theorem mono_c {Z : V → Hp → Prop} {R : List V → Hp → Prop} (m : Mono Z) (n : MonoL R) : MonoL (Rc Z R) := fun vs H1 H2 e ⟨v, r, h1, h2, h3⟩ => ⟨v, r, h1, m _ _ _ e h2, n _ _ _ e h3⟩
section
variable {φ : Hp → Hp} {σ : L2.St} {H : Hp} {te : TE} {ta : TA} {Z Z2 : V → Hp → Prop} {R : List V → Hp → Prop} {n m : Nat}
theorem ez_imp {Z' : V → Hp → Prop} (h : EvZ te σ H Z) (i : ∀ v J, Z v J → Z' v J) : EvZ te σ H Z' := fun H1 e Q q => h H1 e Q fun v H2 e2 hz => q v H2 e2 (i v H2 hz)
theorem ezv_is {x : V} (h : Ev te σ H x) : EvZ te σ H (fun v J => Is x v (φ J)) := ez_ev h fun _ _ => rfl
theorem eapv_nil : EvAP tNil σ H (fun vs J => Rn vs (φ J)) := fun H1 _ Q q => q [] H1 (Ex.refl H1) rfl
theorem eapv_cons (V : View H φ) (m : Mono Z) (h : EvZ te σ H (fun v J => Z v (φ J))) (hr : EvAP ta σ H (fun vs J => R vs (φ J))) : EvAP (tCons te ta) σ H (fun vs J => Rc Z R vs (φ J)) := fun H1 e Q q =>
  h H1 e _ fun v H2 e2 hz => hr H2 (e.trans e2) _ fun vs H3 e3 hR => q (v :: vs) H3 (e2.trans e3) ⟨v, vs, rfl, m _ _ _ (V.ex _ _ e3) hz, hR⟩
theorem ezv_lst (V : View H φ) (mR : MonoL R) (hn : ∀ vs J, R vs J → vs.length ≤ 1000) (h : EvAP ta σ H (fun vs J => R vs (φ J))) (hz : ∀ vs p J, J p = some (.lst vs) → R vs J → Z (.ref p) J) : EvZ (tLst ta) σ H (fun v J => Z v (φ J)) := fun H1 e Q q =>
  h H1 e _ fun vs H2 e2 hR => ⟨sz_of (by have := hn _ _ hR; omega), fun p hp => q (.ref p) _ (e2.trans (Ex.new hp)) (hz vs p _ (V.new H2 p _ (e.trans e2) hp) (mR _ _ _ (V.ex _ _ (Ex.new hp)) hR))⟩
theorem ezv_tup (V : View H φ) (mR : MonoL R) (hn : ∀ vs J, R vs J → vs.length ≤ 1000) (h : EvAP ta σ H (fun vs J => R vs (φ J))) (hz : ∀ vs p J, J p = some (.tup vs) → R vs J → Z (.ref p) J) : EvZ (tTup ta) σ H (fun v J => Z v (φ J)) := fun H1 e Q q =>
  h H1 e _ fun vs H2 e2 hR => ⟨sz_of (by have := hn _ _ hR; omega), fun p hp => q (.ref p) _ (e2.trans (Ex.new hp)) (hz vs p _ (V.new H2 p _ (e.trans e2) hp) (mR _ _ _ (V.ex _ _ (Ex.new hp)) hR))⟩
theorem ezv_dict (V : View H φ) (hz : ∀ p J, J p = some (.dK []) → Z (.ref p) J) : EvZ tDNewK σ H (fun v J => Z v (φ J)) := fun H1 e Q q p hp => q (.ref p) _ (Ex.new hp) (hz p _ (V.new H1 p _ e hp))
theorem ezv_L {xs : List V} (V : View H φ) (h : EvL te σ H xs) (hz : ∀ p J, J p = some (.lst xs) → Z (.ref p) J) (m : Mono Z) : EvZ te σ H (fun v J => Z v (φ J)) := fun H1 e Q q => h H1 e _ fun p H2 n2 e2 hp => q (.ref p) H2 e2 (by
  have hu : Ex (upd H1 p (.lst xs)) H2 := fun b u hb => by
    by_cases z : b = p
    · rw [z, upd_same] at hb
      rw [z, ← hb]
      exact hp
    · rw [upd_ne z] at hb
      exact e2 b u hb
  exact m _ _ _ (V.ex _ _ hu) (hz p _ (V.new H1 p _ e n2)))
/-- a new list's items: at most n, each keeps Z -/
def Al (Z : V → Hp → Prop) (n : Nat) : List V → Hp → Prop := fun vs J => vs.length ≤ n ∧ ∀ v ∈ vs, Z v J
theorem mono_al (m : Mono Z) : MonoL (Al Z n) := fun vs H1 H2 e h => ⟨h.1, fun v hv => m _ _ _ e (h.2 v hv)⟩
theorem eal_nil : EvAP tNil σ H (fun vs J => Al Z 0 vs (φ J)) := fun H1 _ Q q => q [] H1 (Ex.refl H1) ⟨Nat.le_refl 0, fun v hv => nomatch hv⟩
theorem eal_cons (V : View H φ) (m : Mono Z) (h : EvZ te σ H (fun v J => Z v (φ J))) (hr : EvAP ta σ H (fun vs J => Al Z n vs (φ J))) : EvAP (tCons te ta) σ H (fun vs J => Al Z (n + 1) vs (φ J)) := fun H1 e Q q =>
  h H1 e _ fun v H2 e2 hz => hr H2 (e.trans e2) _ fun vs H3 e3 hP => q (v :: vs) H3 (e2.trans e3) ⟨Nat.succ_le_succ hP.1, fun u hu => by
    rcases List.mem_cons.mp hu with rfl | hu
    · exact m _ _ _ (V.ex _ _ e3) hz
    · exact hP.2 u hu⟩
theorem elp_al (V : View H φ) (m : Mono Z) (hn : n ≤ 1000) (h : EvAP ta σ H (fun vs J => Al Z n vs (φ J))) : EvLP (tLst ta) σ H (fun vs J => Al Z n vs (φ J)) := fun H1 e Q q =>
  h H1 e _ fun vs H2 e2 hR => ⟨sz_of (by have := hR.1; omega), fun p hp => q vs p _ (fresh_back e2 hp) (e2.trans (Ex.new hp)) upd_same (mono_al m _ _ _ (V.ex _ _ (Ex.new hp)) hR)⟩
theorem elp_imp {R' : List V → Hp → Prop} (h : EvLP te σ H R) (i : ∀ vs J, R vs J → R' vs J) : EvLP te σ H R' := fun H1 e Q q => h H1 e Q fun xs p H2 n2 e2 hp hR => q xs p H2 n2 e2 hp (i xs H2 hR)
theorem elp_cat2 {te2 : TE} (V : View H φ) (mz : Mono Z) (hn : n + m ≤ 1000) (h1 : EvLP te σ H (fun vs J => Al Z n vs (φ J))) (h2 : EvLP te2 σ H (fun vs J => Al Z m vs (φ J))) : EvLP (tOp rCat te te2) σ H (fun vs J => Al Z (n + m) vs (φ J)) := fun H1 e Q q =>
  h1 H1 e _ fun xs a H2 n2 e2 ha hX => h2 H2 (e.trans e2) _ fun ys b H3 n3 e3 hb hY => ⟨a, b, xs, ys, rfl, rfl, e3 a _ ha, hb, sz_of (by have := hX.1; have := hY.1; omega), fun p hp => q _ p _ (fresh_back (e2.trans e3) hp) ((e2.trans e3).trans (Ex.new hp)) upd_same ⟨by rw [List.length_append]; have := hX.1; have := hY.1; omega, fun v hv => by
    rcases List.mem_append.mp hv with hv | hv
    · exact mz _ _ _ (V.ex _ _ (e3.trans (Ex.new hp))) (hX.2 v hv)
    · exact mz _ _ _ (V.ex _ _ (Ex.new hp)) (hY.2 v hv)⟩⟩
theorem elp_var {a : Addr} {xs : List V} {te2 : TE} (V : View H φ) (mz : Mono Z) (hn : n + m ≤ 1000) (h : Ev te σ H (.ref a)) (ha : H a = some (.lst xs)) (hz : Al Z n xs (φ H)) (h2 : EvLP te2 σ H (fun vs J => Al Z m vs (φ J))) : EvLP (tOp rCat te te2) σ H (fun vs J => Al Z (n + m) vs (φ J)) := fun H1 e Q q =>
  h H1 e _ fun H2 e2 => h2 H2 (e.trans e2) _ fun ys b H3 n3 e3 hb hY => ⟨a, b, xs, ys, rfl, rfl, ((e.trans e2).trans e3) a _ ha, hb, sz_of (by have := hz.1; have := hY.1; omega), fun p hp => q _ p _ (fresh_back (e2.trans e3) hp) ((e2.trans e3).trans (Ex.new hp)) upd_same ⟨by rw [List.length_append]; have := hz.1; have := hY.1; omega, fun v hv => by
    rcases List.mem_append.mp hv with hv | hv
    · exact mz _ _ _ (V.ex _ _ (((e.trans e2).trans e3).trans (Ex.new hp))) (hz.2 v hv)
    · exact mz _ _ _ (V.ex _ _ (Ex.new hp)) (hY.2 v hv)⟩⟩
theorem elp_callZ {sp : Sp} {E : XK} {vs : List V} (h : EvA ta σ H vs) (hs : ∀ H1, Ex H H1 → ∀ Q : VK, (∀ xs p H2, H1 p = none → Ex H1 H2 → H2 p = some (.lst xs) → R xs H2 → Q (.ref p) H2) → sp (vs ++ []) H1 Q E) : EvLP (tCall sp [] E ta) σ H R := fun H1 e Q q =>
  h H1 e _ fun H2 e2 => hs H2 (e.trans e2) Q fun xs p H3 n3 e3 hp hR => q xs p H3 (fresh_back e2 n3) (e2.trans e3) hp hR
variable {D : Ends} {tz tu : TS}
theorem s_retLP (h : EvLP te σ H R) (k : ∀ xs p H1, H p = none → Ex H H1 → H1 p = some (.lst xs) → R xs H1 → D.rt (.ref p) H1) : tRet te D σ H := h H (Ex.refl H) _ k
/-! a list that grows -/
/-- what stands in the list at p: at most n, each keeps Z without a look at p -/
def Gr (p : Addr) (φ : Hp → Hp) (Z : V → Hp → Prop) (H : Hp) (n : Nat) : Prop := ∃ fs : List V, H p = some (.lst fs) ∧ Al Z n fs (Hw (φ H) p)
theorem Gr.ex {p : Addr} {H0 H H2 : Hp} (V : View H0 φ) (m : Mono Z) (e : Ex H H2) (h : Gr p φ Z H n) : Gr p φ Z H2 n := by
  obtain ⟨fs, h1, h2⟩ := h
  exact ⟨fs, e _ _ h1, mono_al m _ _ _ (hw_ex (V.ex _ _ e)) h2⟩
/-- x = [..], to grow -/
theorem q_asgGr {i : Nat} (V : View H φ) (m : Mono Z) (hn : n ≤ 1000) (h : EvAP ta σ H (fun vs J => Al Z n vs (φ J))) (k : ∀ p H1, H p = none → Ex H H1 → Gr p φ Z H1 n → tz D (σ.set i (some (.ref p))) H1) : tSeq (tAsg (tLst ta) (gName i)) tz D σ H :=
  h H (Ex.refl H) _ fun vs H2 e2 hR => ⟨sz_of (by have := hR.1; omega), fun p hp => k p _ (fresh_back e2 hp) (e2.trans (Ex.new hp)) ⟨vs, upd_same, mono_al m _ _ _ (by rw [V.loc]; exact hw_new (V.non _ _ hp)) hR⟩⟩
theorem gr_put {p : Addr} {H0 H J : Hp} {fs vs : List V} (V : View H0 φ) (mz : Mono Z) (e : Ex H J) (h : H p = some (.lst fs)) (hf : Al Z n fs (Hw (φ H) p)) (hv : Al Z m vs (Hw (φ J) p)) : Gr p φ Z (upd J p (.lst (fs ++ vs))) (n + m) := ⟨_, upd_same, by
  rw [V.loc]
  refine ⟨by rw [List.length_append]; have := hf.1; have := hv.1; omega, fun v h2 => ?_⟩
  rcases List.mem_append.mp h2 with h2 | h2
  · exact mz _ _ _ (hw_ex (V.ex _ _ e)) (hf.2 v h2)
  · exact hv.2 v h2⟩
theorem s_extend {p : Addr} {H0 : Hp} (V : View H0 φ) (mz : Mono Z) (hn : n + m ≤ 1000) (ho : Ev te σ H (.ref p)) (hg : Gr p φ Z H n) (h : EvAP ta σ H (fun vs J => Al Z m vs (Hw (φ J) p))) (k : ∀ H1, (∀ H0, Ex H0 H → H0 p = none → Ex H0 H1) → Ex (Hw (φ H) p) (Hw (φ H1) p) → (∀ b u, b ≠ p → H b = some u → H1 b = some u) → Gr p φ Z H1 (n + m) → D.nx σ H1) : tDrop (tBM K "list" rExtend te (tCons (tLst ta) tNil)) D σ H := by
  obtain ⟨fs, h1, h2⟩ := hg
  exact ho H (Ex.refl H) _ fun H1 e1 => ⟨Or.inl ⟨rfl, fs, sq_of (e1 _ _ h1)⟩, h H1 e1 _ fun vs H2 e2 hR => ⟨sz_of (by have := hR.1; omega), fun b hb => ⟨p, b, fs, vs, rfl, rfl, (Ex.new hb) _ _ (e2 _ _ (e1 _ _ h1)), upd_same, sz_of (by have := h2.1; have := hR.1; omega),
    k _ (fun H0 e0 n0 => Ex.mut (((e0.trans e1).trans e2).trans (Ex.new hb)) n0) (by rw [V.loc]; exact hw_ex (V.ex _ _ ((e1.trans e2).trans (Ex.new hb)))) (fun c u hc hu => by rw [upd_ne hc]; exact ((e1.trans e2).trans (Ex.new hb)) c u hu) (gr_put V mz ((e1.trans e2).trans (Ex.new hb)) h1 h2 (mono_al mz _ _ _ (hw_ex (V.ex _ _ (Ex.new hb))) hR))⟩⟩⟩
theorem s_appendZ {p : Addr} {H0 : Hp} (V : View H0 φ) (mz : Mono Z) (hn : n + 1 ≤ 1000) (ho : Ev te σ H (.ref p)) (hg : Gr p φ Z H n) {t2 : TE} (h : EvZ t2 σ H (fun v J => Z v (Hw (φ J) p))) (k : ∀ H1, (∀ H0, Ex H0 H → H0 p = none → Ex H0 H1) → Ex (Hw (φ H) p) (Hw (φ H1) p) → (∀ b u, b ≠ p → H b = some u → H1 b = some u) → Gr p φ Z H1 (n + 1) → D.nx σ H1) : tDrop (tBM K "list" rAppend te (tCons t2 tNil)) D σ H := by
  obtain ⟨fs, h1, h2⟩ := hg
  exact ho H (Ex.refl H) _ fun H1 e1 => ⟨Or.inl ⟨rfl, fs, sq_of (e1 _ _ h1)⟩, h H1 e1 _ fun v H2 e2 hv => ⟨p, fs, v, rfl, rfl, e2 _ _ (e1 _ _ h1), sz_lt (by have := h2.1; omega),
    k _ (fun H0 e0 n0 => Ex.mut ((e0.trans e1).trans e2) n0) (by rw [V.loc]; exact hw_ex (V.ex _ _ (e1.trans e2))) (fun c u hc hu => by rw [upd_ne hc]; exact (e1.trans e2) c u hu) (gr_put V mz (e1.trans e2) h1 h2 ⟨Nat.le_refl 1, fun u hu => by rw [List.mem_singleton.mp hu]; exact hv⟩)⟩⟩
/-- for i, x in enumerate(a new list) -/
theorem q_forEnumLP {i1 i2 : Nat} (h : EvLP te σ H R) (Pv : List V → Addr → Nat → L2.St → Hp → Prop) (h0 : ∀ xs p H1, H p = none → Ex H H1 → H1 p = some (.lst xs) → R xs H1 → Pv xs p 0 σ H1) (hl : ∀ xs p i σ' H', i ≤ xs.length → Pv xs p i σ' H' → SqL K H' p xs)
    (hs : ∀ xs p i x σ' H' H2, xs[i]? = some x → Pv xs p i σ' H' → Ex H' H2 → tu { D with nx := Pv xs p (i + 1), ct := Pv xs p (i + 1), bk := tz D } ((σ'.set i1 (some (.int (i : Nat)))).set i2 (some x)) H2) (hd : ∀ xs p σ' H', Pv xs p xs.length σ' H' → tz D σ' H') : tSeq (tFor (iEnum K (tCons te tNil)) (gTup K 2 (gCons (gName i1) (gCons (gName i2) gNil))) tu) tz D σ H :=
  h H (Ex.refl H) _ fun xs p H1 hp e h1 hR => ⟨p, xs, rfl, sq_of h1, for_it (D := { D with nx := tz D }) walk_enum (Pv xs p) (h0 xs p H1 hp e h1 hR) (hl xs p) (fun i x σ' H' H2 hi hP y => g_pair y fun y z H3 f1 f2 e3 => by
    cases f1
    exact hs xs p i z σ' H' H3 f2 hP e3) (hd xs p)⟩
/-- for x in a new list -/
theorem q_forLPn {j : Nat} (h : EvLP te σ H R) (Pv : List V → Addr → Nat → L2.St → Hp → Prop) (h0 : ∀ xs p H1, H p = none → Ex H H1 → H1 p = some (.lst xs) → R xs H1 → Pv xs p 0 σ H1) (hl : ∀ xs p i σ' H', i ≤ xs.length → Pv xs p i σ' H' → SqL K H' p xs)
    (hs : ∀ xs p i x σ' H', xs[i]? = some x → Pv xs p i σ' H' → tu { D with nx := Pv xs p (i + 1), ct := Pv xs p (i + 1), bk := tz D } (σ'.set j (some x)) H') (hd : ∀ xs p σ' H', Pv xs p xs.length σ' H' → tz D σ' H') : tSeq (tFor (iList K te) (gName j) tu) tz D σ H := q_forLP h Pv h0 hl hs hd
end

/-! ### no numbers, no lists of rests by 7 -/
def NumZ (v : V) (J : Hp) : Prop := CountNo J v
theorem mono_num : Mono NumZ := fun _ _ _ e h => CountNo.ex e h
theorem numz {x : V} {J : Hp} {t : String} (h : AnyV J x t) (n : ∀ i, x = .int i → i < 0) : NumZ x J := ⟨⟨t, h⟩, n⟩
def spNoNum : Sp := fun vs H Q _ => ∃ (m : Int) (φ : Hp → Hp), vs = [.int m] ∧ 0 ≤ m ∧ View H φ ∧ ∀ xs p H1, H p = none → Ex H H1 → H1 p = some (.lst xs) → Al NumZ 9 xs (φ H1) → Q (.ref p) H1
theorem ok_law_no_numbers {f : Addr} {fd : FuncData} (D : Dat K mg "_law_no_numbers" s_law_no_numbers ["_law_more"] f fd) {a_PRIMES : Addr} {t_MOST_CUT : Tok} {t_MOST_RULED : Tok} {t_MOST_PLACES : Tok} {t_MOST_TERMS : Tok} {a_PowerError : Addr} {a_BadPrime : Addr} {a_BadRow : Addr} {a_BadCount : Addr} {a_BadRule : Addr} {a_BadPlaces : Addr} {a_BadTerms : Addr} {a_NoPart : Addr} {a_NoInside : Addr} {a_NoRoot : Addr} {a_Answer : Addr} {a_Alike : Addr} {a_Unlike : Addr} {a_Ruled : Addr} {a_Barred : Addr} (B : Blt K mg a_PRIMES t_MOST_CUT t_MOST_RULED t_MOST_PLACES t_MOST_TERMS a_PowerError a_BadPrime a_BadRow a_BadCount a_BadRule a_BadPlaces a_BadTerms a_NoPart a_NoInside a_NoRoot a_Answer a_Alike a_Unlike a_Ruled a_Barred) : Cal P w K mg base CX0 "_law_no_numbers" 1 ["_law_more"] spNoNum := by
  refine D.cal (D.F.ok sc_law_no_numbers (fun vs H Q E h => ?_) (fun cdv A outer s H vs Q E hr h => ?_))
  · obtain ⟨m, φ, rfl, _⟩ := h
    rfl
  · obtain ⟨m, φ, rfl, h0, V, q⟩ := h
    refine ⟨_, (pss_one (ps_ret (pe_lst (pa_cons pe_non (pa_cons pe_str (pa_cons pe_bl (pa_cons pe_bl (pa_cons (pe_lst (pa_cons pe_int pa_nil)) (pa_cons (pe_tup (pa_cons pe_int pa_nil)) (pa_cons pe_dnewK (pa_cons (pe_un un_neg pe_int) (pa_cons (pe_op op_sub (pe_un un_neg pe_int) (pv 0)) pa_nil)))))))))))), ?_⟩
    exact s_retLP (elp_al V mono_num (by decide) (eal_cons V mono_num (ez_ev ev_c fun J _ => numz .non nofun) (eal_cons V mono_num (ez_ev ev_c fun J _ => numz (.str _) nofun) (eal_cons V mono_num (ez_ev ev_c fun J _ => numz (.bl _) nofun) (eal_cons V mono_num (ez_ev ev_c fun J _ => numz (.bl _) nofun)
      (eal_cons V mono_num (ezv_L (xs := [.int 1]) V (el_lst (by walk_at "ev") (by decide)) (fun p J h => numz (.lst h) nofun) mono_num)
      (eal_cons V mono_num (ezv_tup (R := Rc (Is (.int 1)) Rn) V (mono_c mono_is mono_n) (fun vs J h => by obtain ⟨_, _, rfl, _, rfl⟩ := h; exact (by decide : (1 : Nat) ≤ 1000)) (eapv_cons V mono_is (ezv_is ev_c) eapv_nil) fun vs p J h _ => numz (.tup h) nofun)
      (eal_cons V mono_num (ezv_dict V fun p J h => numz (.dct h) nofun)
      (eal_cons V mono_num (ez_ev (ev_un ev_c ru_neg) fun J _ => numz (.int _) fun i e => by cases e; decide)
      (eal_cons V mono_num (ez_ev (v := .int (-1 - m)) (ev_op (ev_un ev_c ru_neg) (ev_var rfl) rv_I0) fun J _ => numz (.int _) fun i e => by cases e; omega) eal_nil)))))))))) fun xs p H1 np e1 hp hA => q xs p H1 np e1 hp hA
theorem elp_nonum {φ : Hp → Hp} {σ : L2.St} {H : Hp} {ta : TA} {m : Int} {E : XK} (V : View H φ) (h : EvA ta σ H [.int m]) (h0 : 0 ≤ m) : EvLP (tCall spNoNum [] E ta) σ H (fun vs J => Al NumZ 9 vs (φ J)) := elp_callZ h fun H1 e1 Q q => ⟨m, φ, rfl, h0, V.mono e1, fun xs p H2 np e2 hp hA => q xs p H2 np e2 hp hA⟩
/-- of any sort, no rest by 7 -/
def Bad7 (v : V) (J : Hp) : Prop := Any J v ∧ restB 7 v = false
theorem mono_bad7 : Mono Bad7 := fun _ _ _ e h => ⟨h.1.ex e, h.2⟩
theorem CountNo.within {J : Hp} {v : V} {lo hi : Int} (h : CountNo J v) (l0 : 0 ≤ lo) : withinB lo hi v = false := by
  obtain ⟨_, h⟩ := h
  cases v with
  | int i =>
    have := h i rfl
    show (decide (lo ≤ i) && decide (i ≤ hi)) = false
    rw [decide_eq_false (by omega), Bool.false_and]
  | _ => rfl
theorem NumZ.bad7 {J : Hp} {v : V} (h : NumZ v J) : Bad7 v J := ⟨h.1, CountNo.within h (Int.le_refl 0)⟩
theorem bad7_ge {J : Hp} {i : Int} (h : 7 ≤ i) : Bad7 (.int i) J := ⟨⟨_, .int i⟩, by
  show (decide (0 ≤ i) && decide (i ≤ 7 - 1)) = false
  rw [decide_eq_false (p := i ≤ 7 - 1) (by omega), Bool.and_false]⟩
theorem Al.imp {Z Z' : V → Hp → Prop} {n : Nat} {vs : List V} {J : Hp} (h : Al Z n vs J) (i : ∀ v, Z v J → Z' v J) : Al Z' n vs J := ⟨h.1, fun v hv => i v (h.2 v hv)⟩
/-- no numbers, and what isn't below 7 -/
theorem elp_bad7 {φ : Hp → Hp} {σ : L2.St} {H : Hp} {ta : TA} {t1 t2 : TE} {m i j : Int} {E : XK} (V : View H φ) (h : EvA ta σ H [.int m]) (h0 : 0 ≤ m) (h1 : Ev t1 σ H (.int i)) (h2 : Ev t2 σ H (.int j)) (hi : 7 ≤ i) (hj : 7 ≤ j) : EvLP (tOp rCat (tCall spNoNum [] E ta) (tLst (tCons t1 (tCons t2 tNil)))) σ H (fun vs J => Al Bad7 (9 + 2) vs (φ J)) :=
  elp_cat2 V mono_bad7 (by decide) (elp_imp (elp_nonum V h h0) fun vs J hA => hA.imp fun v hv => hv.bad7) (elp_al V mono_bad7 (by decide) (eal_cons V mono_bad7 (ez_ev h1 fun J _ => bad7_ge hi) (eal_cons V mono_bad7 (ez_ev h2 fun J _ => bad7_ge hj) eal_nil)))
/-- no list of so many rests by 7 at most, whatever the least -/
def NoL (most : Nat) (v : V) (J : Hp) : Prop := ∀ lo : Int, AreR J 7 lo (most : Int) v false
theorem mono_nol {most : Nat} : Mono (NoL most) := fun _ _ _ e h lo => (h lo).ex e
theorem nol_any {most : Nat} {x : V} {J : Hp} {t : String} (h : AnyV J x t) (n : t ≠ "list") : NoL most x J := fun _ => .inr ⟨t, h, n, rfl⟩
theorem nol_long {most : Nat} {a : Addr} {xs : List Int} {J : Hp} (h : J a = some (.lst (xs.map V.int))) (hl : most < xs.length) (hu : xs.length ≤ 1000) : NoL most (.ref a) J := fun lo => .inl ⟨a, _, rfl, h, by rw [List.length_map]; exact hu, fun v hv => by
  obtain ⟨i, _, rfl⟩ := List.mem_map.mp hv
  exact ⟨_, .int i⟩, by rw [List.length_map, decide_eq_false (p := (xs.length : Int) ≤ (most : Int)) (by omega), Bool.and_false, Bool.false_and]⟩
theorem nol_bad {most : Nat} {a : Addr} {vs : List V} {J : Hp} (h : J a = some (.lst vs)) (hu : vs.length ≤ 1000) (ha : ∀ v ∈ vs, Any J v) (hb : ∃ v ∈ vs, restB 7 v = false) : NoL most (.ref a) J := fun lo => .inl ⟨a, vs, rfl, h, hu, ha, by
  have e : vs.all (restB 7) = false := by
    obtain ⟨v, hv, hr⟩ := hb
    rw [List.all_eq_false]
    exact ⟨v, hv, by rw [hr]; exact Bool.false_ne_true⟩
  rw [e, Bool.and_false]⟩
def spNoLists : Sp := fun vs H Q _ => ∃ (m : Int) (most : Nat) (φ : Hp → Hp), vs = [.int m, .int (most : Int)] ∧ 0 ≤ m ∧ most ≤ 24 ∧ View H φ ∧ ∀ xs p H1, H p = none → Ex H H1 → H1 p = some (.lst xs) → Al (NoL most) 31 xs (φ H1) → Q (.ref p) H1
theorem sl_setZ {σ : L2.St} {H : Hp} {te ti to : TE} {a : Addr} {D : Ends} {tz : TS} {xs : List V} {j : Nat} {v : V} {n : Int} (h : Ev te σ H v) (ho : Ev to σ H (.ref a)) (hi : Ev ti σ H (.int n)) (ha : H a = some (.lst xs)) (hj : ixN xs.length n = some j) (k : ∀ H1, Ex H H1 → tz D σ (upd H1 a (.lst (xs.set j v)))) : tSeq (tAsg te (gSub to ti rSetL)) tz D σ H :=
  h H (Ex.refl H) _ fun H1 e1 => ho H1 e1 _ fun H2 e2 => hi H2 (e1.trans e2) _ fun H3 e3 => ⟨a, xs, n, j, rfl, rfl, ((e1.trans e2).trans e3) _ _ ha, hj, k H3 ((e1.trans e2).trans e3)⟩
theorem three_set {v : V} {j : Nat} (hj : j < 3) : ∃ x y z, ([.int 3, .int 0, .int 6] : List V).set j v = [x, y, z] ∧ (∀ J, Any J v → Any J x ∧ Any J y ∧ Any J z) ∧ (x = v ∨ y = v ∨ z = v) := by
  have ai : ∀ J (i : Int), Any J (.int i) := fun J i => ⟨_, .int i⟩
  match j, hj with
  | 0, _ => exact ⟨v, .int 0, .int 6, rfl, fun J h => ⟨h, ai _ _, ai _ _⟩, .inl rfl⟩
  | 1, _ => exact ⟨.int 3, v, .int 6, rfl, fun J h => ⟨ai _ _, h, ai _ _⟩, .inr (.inl rfl)⟩
  | 2, _ => exact ⟨.int 3, .int 0, v, rfl, fun J h => ⟨ai _ _, ai _ _, h⟩, .inr (.inr rfl)⟩
theorem ok_law_no_lists {f : Addr} {fd : FuncData} (D : Dat K mg "_law_no_lists" s_law_no_lists ["_law_more", "_law_most"] f fd) {a_PRIMES : Addr} {t_MOST_CUT : Tok} {t_MOST_RULED : Tok} {t_MOST_PLACES : Tok} {t_MOST_TERMS : Tok} {a_PowerError : Addr} {a_BadPrime : Addr} {a_BadRow : Addr} {a_BadCount : Addr} {a_BadRule : Addr} {a_BadPlaces : Addr} {a_BadTerms : Addr} {a_NoPart : Addr} {a_NoInside : Addr} {a_NoRoot : Addr} {a_Answer : Addr} {a_Alike : Addr} {a_Unlike : Addr} {a_Ruled : Addr} {a_Barred : Addr} (B : Blt K mg a_PRIMES t_MOST_CUT t_MOST_RULED t_MOST_PLACES t_MOST_TERMS a_PowerError a_BadPrime a_BadRow a_BadCount a_BadRule a_BadPlaces a_BadTerms a_NoPart a_NoInside a_NoRoot a_Answer a_Alike a_Unlike a_Ruled a_Barred) (C_law_no_numbers : Cal P w K mg base CX0 "_law_no_numbers" 1 ["_law_more"] spNoNum) : Cal P w K mg base CX0 "_law_no_lists" 2 ["_law_more", "_law_most"] spNoLists := by
  refine D.cal (D.F.ok sc_law_no_lists (fun vs H Q E h => ?_) (fun cdv A outer s H vs Q E hr h => ?_))
  · obtain ⟨m, most, φ, rfl, _⟩ := h
    rfl
  · obtain ⟨m, most, φ, rfl, h0, h24, V, q⟩ := h
    refine ⟨_, (pss_cons (ps_set (i := 2) sc_law_no_lists.nd rfl (Or.inl rfl) (pe_lst (pa_cons pe_non (pa_cons pe_int (pa_cons pe_str (pa_cons (pe_tup pa_nil) (pa_cons (pe_tup (pa_cons pe_int (pa_cons pe_int pa_nil))) (pa_cons pe_dnewK (pa_cons pe_bl (pa_cons (pe_op op_rep (pe_lst (pa_cons pe_int pa_nil)) (pe_op op_add (pv 1) pe_int)) (pa_cons (pe_op op_rep (pe_lst (pa_cons pe_int pa_nil)) (pe_op op_add (pe_op op_add (pv 1) pe_int) (pe_op op_mod (pv 0) pe_int))) pa_nil)))))))))))
    (pss_cons (ps_for PassesOwn.never rfl (pi_enum (by rfl) B.enumerate (pa_cons (pe_op op_cat (pe_c0 C_law_no_numbers (hr.mono (by decide)) (pa_cons (pv 0) pa_nil)) (pe_lst (pa_cons pe_int (pa_cons (pe_op op_add pe_int (pv 0)) pa_nil)))) pa_nil)) (pg_tup rfl (pgs_cons (pg_name (i := 3) sc_law_no_lists.nd rfl (Or.inl rfl)) (pgs_cons (pg_name (i := 4) sc_law_no_lists.nd rfl (Or.inl rfl)) pgs_nil))) (pss_cons (ps_set (i := 5) sc_law_no_lists.nd rfl (Or.inl rfl) (pe_lst (pa_cons pe_int (pa_cons pe_int (pa_cons pe_int pa_nil)))))
    (pss_cons (ps_asg (pv 4) (pg_sub (pv 5) (pe_op op_mod (pe_op op_add (pv 3) (pv 0)) pe_int) set_list))
    (pss_one (ps_expr (pe_bm PySem.F.plainAttrs_list PySem.F.slot_list_extend PySem.F.type_list_extend mt_extend (pv 2) (pa_cons (pe_lst (pa_cons (pv 5) (pa_cons (pe_lst (pa_cons (pv 4) pa_nil)) pa_nil))) pa_nil)))))))
    (pss_one (ps_ret (pv 2))))), ?_⟩
    obtain ⟨r, hr9, hr0⟩ : ∃ r : Nat, (r : Int) = m % 9 ∧ r < 9 := ⟨(m % 9).toNat, by omega, by omega⟩
    have M := mono_nol (most := most)
    refine q_asgGr (Z := NoL most) (n := 9) V M (by decide) (eal_cons V M (ez_ev ev_c fun J _ => nol_any .non (by decide)) (eal_cons V M (ez_ev ev_c fun J _ => nol_any (.int _) (by decide)) (eal_cons V M (ez_ev ev_c fun J _ => nol_any (.str _) (by decide))
      (eal_cons V M (ezv_tup (R := Rn) V mono_n (fun vs J h => by rw [h]; exact Nat.zero_le _) eapv_nil fun vs p J h _ => nol_any (.tup h) (by decide))
      (eal_cons V M (ezv_tup (R := Rc (Is (.int 1)) (Rc (Is (.int 2)) Rn)) V (mono_c mono_is (mono_c mono_is mono_n)) (fun vs J h => by obtain ⟨_, _, rfl, _, _, _, rfl, _, rfl⟩ := h; exact (by decide : (2 : Nat) ≤ 1000)) (eapv_cons V mono_is (ezv_is ev_c) (eapv_cons V mono_is (ezv_is ev_c) eapv_nil)) fun vs p J h _ => nol_any (.tup h) (by decide))
      (eal_cons V M (ezv_dict V fun p J h => nol_any (.dct h) (by decide)) (eal_cons V M (ez_ev ev_c fun J _ => nol_any (.bl _) (by decide))
      (eal_cons V M (ezv_L V (el_repI (n := most + 1) (x := 0) ev_c (ev_op (ev_var rfl) ev_c rv_I0) (by omega)) (fun p J h => nol_long h (by rw [List.length_replicate]; omega) (by rw [List.length_replicate]; omega)) M)
      (eal_cons V M (ezv_L V (el_repI (n := most + 1 + r) (x := 1) ev_c (ev_is (ev_op (ev_op (ev_var rfl) ev_c rv_I0) (ev_op (ev_var rfl) ev_c (rv_I (by walk_at "cond"))) rv_I0) (by show L2.V.int _ = L2.V.int _; congr 1; omega)) (by omega)) (fun p J h => nol_long h (by rw [List.length_replicate]; omega) (by rw [List.length_replicate]; omega)) M) eal_nil))))))))) fun pf H1 nf e1 g1 => ?_
    obtain ⟨ff, hff, _⟩ := id g1
    have V1 := (V.mono e1).off hff
    refine q_forEnumLP (elp_bad7 V1 (m := m) (i := 7) (j := 7 + m) (by walk_at "ev") h0 ev_c (ev_op ev_c (ev_var rfl) rv_I0) (by omega) (by omega)) (fun xs p i σ' H' => ∃ z3 z4 z5, σ' = [some (.int m), some (.int (most : Int)), some (.ref pf), z3, z4, z5] ∧ Ex H H' ∧ Gr pf φ (NoL most) H' (9 + 2 * i) ∧ H' p = some (.lst xs) ∧ xs.length ≤ 11 ∧ (∀ v ∈ xs, Bad7 v (Hw (φ H') pf)) ∧ p ≠ pf)
      (fun xs p H2 np e2 hp hA => ⟨_, _, _, rfl, e1.trans e2, g1.ex V M e2, hp, hA.1, hA.2, (ne_of_none hff np).symm⟩) (fun xs p i σ' H' _ hP => ?_) (fun xs p i x σ' H' H2 hi hP e2 => ?_) fun xs p σ' H' hP => ?_
    · obtain ⟨_, _, _, _, _, _, h, _⟩ := hP
      exact sq_of h
    · obtain ⟨z3, z4, z5, rfl, e, g, hp, hl, hb, ne⟩ := hP
      have il := (List.getElem?_eq_some_iff.mp hi).1
      have hx := hb x (List.mem_of_getElem? hi)
      refine q_asgL (xs := [.int 3, .int 0, .int 6]) (el_lst (by walk_at "ev") (by decide)) fun rw H3 nr e3 h3 => ?_
      obtain ⟨j, hj, hj3⟩ : ∃ j : Nat, (j : Int) = ((i : Int) + m) % 3 ∧ j < 3 := ⟨(((i : Int) + m) % 3).toNat, by omega, by omega⟩
      refine sl_setZ (n := (j : Int)) (j := j) (ev_var rfl) (ev_var rfl) (ev_is (ev_op (ev_op (ev_var rfl) (ev_var rfl) rv_I0) ev_c (rv_I (by walk_at "cond"))) (by rw [hj])) h3 ?_ fun H4 e4 => ?_
      · show ixN 3 (j : Int) = some j
        unfold ixN
        rw [if_pos (by omega), if_pos (by omega)]
        rfl
      obtain ⟨x1, y1, z1, hs, hany, hor⟩ := three_set (v := x) hj3
      rw [hs]
      have e24 : Ex H2 (upd H4 rw (.lst [x1, y1, z1])) := Ex.mut (e3.trans e4) nr
      have ee := e2.trans e24
      obtain ⟨ff', hff', _⟩ := id g
      have nef : rw ≠ pf := (ne_of_none (e2 _ _ hff') nr).symm
      have V2 := (V.mono (e.trans ee)).off (ee _ _ hff')
      have hx2 : ∀ J, Ex (upd H4 rw (.lst [x1, y1, z1])) J → Bad7 x (Hw (φ J) pf) := fun J eJ => mono_bad7 _ _ _ (hw_ex (V.ex _ _ (ee.trans eJ))) hx
      have hrow : Hw (φ (upd H4 rw (.lst [x1, y1, z1]))) pf rw = some (.lst [x1, y1, z1]) := by
        have V0 := (V.mono (e.trans (e2.trans e3)))
        have V3 : View H2 φ := V.mono (e.trans e2)
        rw [hw_at nef]
        have u : Ex (upd H2 rw (.lst [x1, y1, z1])) (upd H4 rw (.lst [x1, y1, z1])) := fun b o hb => by
          by_cases z : b = rw
          · rw [z, upd_same] at hb ⊢
            exact hb
          · rw [upd_ne z] at hb ⊢
            exact (e3.trans e4) b o hb
        exact V.ex _ _ u _ _ (V3.new H2 rw _ (Ex.refl _) nr)
      refine s_extend (n := 9 + 2 * i) (m := 2) V M (by omega) (ev_var rfl) (g.ex V M ee) (eal_cons V2 M (ez_ev (ev_var rfl) fun J eJ => nol_bad (hw_ex (V.ex _ _ eJ) _ _ hrow) (by show (3 : Nat) ≤ 1000; decide) (fun v hv => ?_) ?_) (eal_cons V2 M (ezv_lst (R := Rc Bad7 Rn) V2 (mono_c mono_bad7 mono_n) (fun vs J h => by obtain ⟨_, _, rfl, _, rfl⟩ := h; exact (by decide : (1 : Nat) ≤ 1000)) (eapv_cons V2 mono_bad7 (ez_ev (ev_var rfl) fun J eJ => hx2 J eJ) eapv_nil) fun vs p2 J h hR => ?_) eal_nil)) fun H5 k1 k2 k3 g5 => ?_
      · obtain ⟨a1, a2, a3⟩ := hany _ (hx2 J eJ).1
        simp only [List.mem_cons, List.not_mem_nil, or_false] at hv
        rcases hv with rfl | rfl | rfl
        · exact a1
        · exact a2
        · exact a3
      · rcases hor with rfl | rfl | rfl
        · exact ⟨_, by simp, hx.2⟩
        · exact ⟨_, by simp, hx.2⟩
        · exact ⟨_, by simp, hx.2⟩
      · obtain ⟨v, _, rfl, hv, rfl⟩ := hR
        exact nol_bad h (by show (1 : Nat) ≤ 1000; decide) (fun u hu => by rw [List.mem_singleton.mp hu]; exact hv.1) ⟨v, List.mem_singleton.mpr rfl, hv.2⟩
      · exact ⟨_, _, _, rfl, k1 H (e.trans ee) nf, g5, k3 p _ ne (ee _ _ hp), hl, fun v hv => mono_bad7 _ _ _ k2 (mono_bad7 _ _ _ (hw_ex (V.ex _ _ ee)) (hb v hv)), ne⟩
    · obtain ⟨z3, z4, z5, rfl, e, ⟨fs, hfs, hA⟩, hp, hl, hb, ne⟩ := hP
      exact s_ret (v := .ref pf) (ev_var rfl) fun H3 e3 => q fs pf H3 nf (e.trans e3) (e3 _ _ hfs) ⟨by have := hA.1; omega, fun v hv => M _ _ _ (Ex.trans hw_le (V.ex _ _ e3)) (hA.2 v hv)⟩

/-! ### what is known of things of any sort stays, where lambdas are made too -/
open LamX NdefX
theorem AnyV.exN {H H' : Hp} {x : V} {t : String} (e : ExtN H H') (h : AnyV H x t) : AnyV H' x t := by
  cases h with
  | non => exact .non
  | bl b => exact .bl b
  | int i => exact .int i
  | str s => exact .str s
  | lst h => exact .lst (e _ _ h fun ps z => by cases z)
  | tup h => exact .tup (e _ _ h fun ps z => by cases z)
  | dct h => exact .dct (e _ _ h fun ps z => by cases z)
theorem Any.exN {H H' : Hp} {x : V} (e : ExtN H H') (h : Any H x) : Any H' x := ⟨h.choose, h.choose_spec.exN e⟩
theorem exn_tup {H H' : Hp} {a : Addr} {xs : List V} (e : ExtN H H') (h : H a = some (.tup xs)) : H' a = some (.tup xs) := e a _ h fun ps z => by cases z
theorem AreR.exN {H H' : Hp} {p lo hi : Int} {x : V} {b : Bool} (e : ExtN H H') (h : AreR H p lo hi x b) : AreR H' p lo hi x b := by
  rcases h with ⟨a, vs, h1, h2, h3, h4, h5⟩ | ⟨t, h1, h2⟩
  · exact .inl ⟨a, vs, h1, exn_lst e h2, h3, fun v hv => (h4 v hv).exN e, h5⟩
  · exact .inr ⟨t, h1.exN e, h2⟩
theorem RuleR.exN {H H' : Hp} {p : Int} {x : V} {b : Bool} (e : ExtN H H') (h : RuleR H p x b) : RuleR H' p x b := by
  rcases h with ⟨t, h1, h2⟩ | ⟨r, us, h1, h2, h3⟩ | ⟨r, u, v, bu, bv, h1, h2, h3, h4, h5⟩ | ⟨r, u, a, i, vs, h1, h2, h3, h4, h5, h6⟩
  · exact .inl ⟨t, h1.exN e, h2⟩
  · exact .inr (.inl ⟨r, us, h1, exn_tup e h2, h3⟩)
  · exact .inr (.inr (.inl ⟨r, u, v, bu, bv, h1, exn_tup e h2, h3.exN e, h4.exN e, h5⟩))
  · exact .inr (.inr (.inr ⟨r, u, a, i, vs, h1, exn_tup e h2, h3.exN e, h4.exN e, exn_lst e h5, h6⟩))
theorem TermR.exN {H H' : Hp} {p : Int} {x : V} {b : Bool} (e : ExtN H H') (h : TermR H p x b) : TermR H' p x b := by
  rcases h with ⟨t, h1, h2⟩ | ⟨r, us, h1, h2, h3⟩ | ⟨r, u, v, z, h1, h2, h3, h4, h5, h6⟩
  · exact .inl ⟨t, h1.exN e, h2⟩
  · exact .inr (.inl ⟨r, us, h1, exn_tup e h2, h3⟩)
  · exact .inr (.inr ⟨r, u, v, z, h1, exn_tup e h2, h3.exN e, h4.exN e, h5.exN e, h6⟩)
theorem TermsNo.exN {H H' : Hp} {p : Int} {x : V} (e : ExtN H H') (h : TermsNo H p x) : TermsNo H' p x := by
  rcases h with ⟨t, h1, h2⟩ | ⟨a, vs, bs, h1, h2, h3, h4, h5, h6⟩
  · exact .inl ⟨t, h1.exN e, h2⟩
  · exact .inr ⟨a, vs, bs, h1, exn_lst e h2, h3, h4, fun i v b g1 g2 => (h5 i v b g1 g2).exN e, h6⟩
def MonoN (Z : V → Hp → Prop) : Prop := ∀ v H1 H2, ExtN H1 H2 → Z v H1 → Z v H2
theorem MonoN.mono {Z : V → Hp → Prop} (m : MonoN Z) : Mono Z := fun v H1 H2 e h => m v H1 H2 (ExtN.of e) h
def PrimeZ (v : V) (J : Hp) : Prop := BadP J v
theorem mn_prime : MonoN PrimeZ := fun _ _ _ e h => ⟨h.1.exN e, h.2⟩
def RowZ (v : V) (J : Hp) : Prop := RowNo J 7 v
theorem mn_row : MonoN RowZ := fun _ _ _ e h => AreR.exN e h
def PlacesZ (v : V) (J : Hp) : Prop := PlacesNo J 7 v
theorem mn_places : MonoN PlacesZ := fun _ _ _ e h => AreR.exN e h
def RuleZ (v : V) (J : Hp) : Prop := RuleNo J 7 v
theorem mn_rule : MonoN RuleZ := fun _ _ _ e h => RuleR.exN e h
def TermsZ (v : V) (J : Hp) : Prop := TermsNo J 7 v
theorem mn_terms : MonoN TermsZ := fun _ _ _ e h => TermsNo.exN e h
theorem mn_num : MonoN NumZ := fun _ _ _ e h => ⟨h.1.exN e, h.2⟩
def WithinZ (lo hi : Int) (v : V) (J : Hp) : Prop := CountNoW J lo hi v
theorem mn_within {lo hi : Int} : MonoN (WithinZ lo hi) := fun _ _ _ e h => ⟨h.1.exN e, h.2⟩
/-- a row by p of which R is so -/
def RowIs (p : Int) (R : List Int → Prop) (v : V) (J : Hp) : Prop := ∃ (a : Addr) (xs : List Int), v = .ref a ∧ J a = some (.lst (xs.map V.int)) ∧ Rowp p xs ∧ R xs
theorem mn_is {p : Int} {R : List Int → Prop} : MonoN (RowIs p R) := fun _ _ _ e ⟨a, xs, h1, h2, h3⟩ => ⟨a, xs, h1, exn_lst e h2, h3⟩
theorem bads_of {Z : V → Hp → Prop} {n : Nat} {p : Addr} {xs : List V} {H J : Hp} (m : MonoN Z) (e : ExtN H J) (hp : H p = some (.lst xs)) (h : Al Z n xs H) (hn : n ≤ 1000) : Bads Z p J := ⟨xs, exn_lst e hp, Nat.le_trans h.1 hn, fun v hv => m _ _ _ e (h.2 v hv)⟩
theorem exx_al {Z : V → Hp → Prop} {n : Nat} {te : TE} {σ : L2.St} {H : Hp} (h : EvLP te σ H (fun vs J => Al Z n vs (id J))) (hn : n ≤ 1000) : EvX te σ H (Bads Z) := fun H1 e Q q => h H1 e Q fun xs p H2 _ e2 hp hA => q p H2 e2 ⟨xs, hp, Nat.le_trans hA.1 hn, hA.2⟩
/-- what a maker promises -/
def spMaker (T : List (Addr × Str)) : Sp := fun vs H Q _ => ∃ m : Int, vs = [.int m] ∧ 0 ≤ m ∧ Tabs T H ∧ ∀ H1, ExtN H H1 → Tabs T H1 → Q (.bl true) H1

/-! ### rules, compared and made anew -/
def ruleD (xs ys : List Int) : PyData := .tuple [.list (xs.map PyData.int), .list (ys.map PyData.int)]
theorem RuleAt.dp {K : PySem.W.Frag} {H : Hp} {r a b : Addr} {xs ys : List Int} (R : RuleAt H r a b xs ys) : Dp K H (.ref r) (ruleD xs ys) := .tup (st_of R.r) (.cons (dp_intsL (sq_of R.a)) (.cons (dp_intsL (sq_of R.b)) .nil))
theorem ruleD_ok (xs ys : List Int) : SeqAt.shaped (ruleD xs ys) = true := (fit_tuple (n := 1) fun d hd => by
  rcases List.mem_cons.mp hd with rfl | hd
  · exact fit_ints _
  rcases List.mem_cons.mp hd with rfl | hd
  · exact fit_ints _
  cases hd).shaped (by decide)
/-- two rules that are the same, compared -/
theorem et_neRule {K : PySem.W.Frag} {σ : L2.St} {H : Hp} {ta tb : TE} {r a b r' a' b' : Addr} {xs ys : List Int} (ha : Ev ta σ H (.ref r)) (hb : Ev tb σ H (.ref r')) (R : RuleAt H r a b xs ys) (R' : RuleAt H r' a' b' xs ys) : EvT (tTest (tOp (rNeD K) ta tb)) σ H false :=
  et_test (ev_op ha hb (rv_neSame R.dp R'.dp (ruleD_ok xs ys)))
theorem rule_list0 {K : PySem.W.Frag} {σ : L2.St} {H : Hp} {te : TE} {r a b : Addr} {xs ys : List Int} (h : Ev te σ H (.ref r)) (R : RuleAt H r a b xs ys) : Ev (tOp (rIxT K) te (tC (.int 0))) σ H (.ref a) := ev_op h ev_c (rv_ixT (v := .ref a) (st_of R.r) rfl)
theorem rule_list1 {K : PySem.W.Frag} {σ : L2.St} {H : Hp} {te : TE} {r a b : Addr} {xs ys : List Int} (h : Ev te σ H (.ref r)) (R : RuleAt H r a b xs ys) : Ev (tOp (rIxT K) te (tC (.int 1))) σ H (.ref b) := ev_op h ev_c (rv_ixT (v := .ref b) (st_of R.r) rfl)
/-- (list, list), new -/
def EvRule (te : TE) (σ : L2.St) (H : Hp) (xs ys : List Int) : Prop := ∀ H1, Ex H H1 → ∀ Q : VK, (∀ r a b H2, H1 r = none → H1 a = none → H1 b = none → a ≠ b → Ex H1 H2 → RuleAt H2 r a b xs ys → Q (.ref r) H2) → te σ H1 Q
theorem er_tup {σ : L2.St} {H : Hp} {t1 t2 : TE} {xs ys : List Int} (h1 : EvL t1 σ H (xs.map V.int)) (h2 : EvL t2 σ H (ys.map V.int)) : EvRule (tTup (tCons t1 (tCons t2 tNil))) σ H xs ys := fun H1 e Q q =>
  h1 H1 e _ fun a H2 na e2 ha => h2 H2 (e.trans e2) _ fun b H3 nb e3 hb => ⟨by show 2 ≤ sizeLine; decide, fun r hr => q r a b _ (fresh_back (e2.trans e3) hr) na (fresh_back e2 nb) (ne_of_none ha nb) ((e2.trans e3).trans (Ex.new hr)) ⟨upd_same, by rw [upd_ne (ne_of_none (e3 _ _ ha) hr)]; exact e3 _ _ ha, by rw [upd_ne (ne_of_none hb hr)]; exact hb⟩⟩
theorem eap_consR {σ : L2.St} {H : Hp} {te : TE} {tr : TA} {P : List V → Hp → Prop} {xs ys : List Int} (h : EvRule te σ H xs ys) (hr : EvAP tr σ H P) : EvAP (tCons te tr) σ H (fun vs H2 => ∃ (r a b : Addr) (us : List V), vs = .ref r :: us ∧ RuleAt H2 r a b xs ys ∧ P us H2) := fun H1 e Q q =>
  h H1 e _ fun r a b H2 n1 n2 n3 ne e2 R => hr H2 (e.trans e2) _ fun vs H3 e3 hP => q _ H3 (e2.trans e3) ⟨r, a, b, vs, rfl, R.ex e3, hP⟩
/-- x, y = rule-like tuple, int, by a tuple -/
theorem q_asgRI {σ : L2.St} {H : Hp} {t1 t2 : TE} {D : Ends} {tz : TS} {i j : Nat} {xs ys : List Int} {y : V} (h1 : EvRule t1 σ H xs ys) (h2 : Ev t2 σ H y) (k : ∀ r a b H1, H r = none → H a = none → H b = none → a ≠ b → Ex H H1 → RuleAt H1 r a b xs ys → tz D ((σ.set i (some (.ref r))).set j (some y)) H1) :
    tSeq (tPar i j (tCons t1 (tCons t2 tNil))) tz D σ H := h1 H (Ex.refl H) _ fun r a b H1 n1 n2 n3 ne e1 R => h2 H1 e1 _ fun H2 e2 => ⟨.ref r, y, rfl, k r a b H2 n1 n2 n3 ne (e1.trans e2) (R.ex e2)⟩
theorem q_asgR {σ : L2.St} {H : Hp} {te : TE} {D : Ends} {tz : TS} {i : Nat} {xs ys : List Int} (h1 : EvRule te σ H xs ys) (k : ∀ r a b H1, H r = none → H a = none → H b = none → a ≠ b → Ex H H1 → RuleAt H1 r a b xs ys → tz D (σ.set i (some (.ref r))) H1) :
    tSeq (tAsg te (gName i)) tz D σ H := h1 H (Ex.refl H) _ fun r a b H1 n1 n2 n3 ne e1 R => k r a b H1 n1 n2 n3 ne e1 R
/-- (list, list), of which the second may stand already -/
def EvRuleW (te : TE) (σ : L2.St) (H : Hp) (xs ys : List Int) : Prop := ∀ H1, Ex H H1 → ∀ Q : VK, (∀ r a b H2, H1 r = none → Ex H1 H2 → RuleAt H2 r a b xs ys → Q (.ref r) H2) → te σ H1 Q
theorem EvRule.wide {te : TE} {σ : L2.St} {H : Hp} {xs ys : List Int} (h : EvRule te σ H xs ys) : EvRuleW te σ H xs ys := fun H1 e Q q => h H1 e Q fun r a b H2 n1 _ _ _ e2 R => q r a b H2 n1 e2 R
theorem er_tupV {σ : L2.St} {H : Hp} {t1 t2 : TE} {xs ys : List Int} {b : Addr} (h1 : EvL t1 σ H (xs.map V.int)) (h2 : Ev t2 σ H (.ref b)) (hb : H b = some (.lst (ys.map V.int))) : EvRuleW (tTup (tCons t1 (tCons t2 tNil))) σ H xs ys := fun H1 e Q q =>
  h1 H1 e _ fun a H2 na e2 ha => h2 H2 (e.trans e2) _ fun H3 e3 => ⟨by show 2 ≤ sizeLine; decide, fun r hr => by
    have hb3 := ((e.trans e2).trans e3) _ _ hb
    exact q r a b _ (fresh_back (e2.trans e3) hr) ((e2.trans e3).trans (Ex.new hr)) ⟨upd_same, by rw [upd_ne (ne_of_none (e3 _ _ ha) hr)]; exact e3 _ _ ha, by rw [upd_ne (ne_of_none hb3 hr)]; exact hb3⟩⟩
theorem eap_consRW {σ : L2.St} {H : Hp} {te : TE} {tr : TA} {P : List V → Hp → Prop} {xs ys : List Int} (h : EvRuleW te σ H xs ys) (hr : EvAP tr σ H P) : EvAP (tCons te tr) σ H (fun vs H2 => ∃ (r a b : Addr) (us : List V), vs = .ref r :: us ∧ RuleAt H2 r a b xs ys ∧ P us H2) := fun H1 e Q q =>
  h H1 e _ fun r a b H2 n1 e2 R => hr H2 (e.trans e2) _ fun vs H3 e3 hP => q _ H3 (e2.trans e3) ⟨r, a, b, vs, rfl, R.ex e3, hP⟩
theorem q_asgRW {σ : L2.St} {H : Hp} {te : TE} {D : Ends} {tz : TS} {i : Nat} {xs ys : List Int} (h1 : EvRuleW te σ H xs ys) (k : ∀ r a b H1, H r = none → Ex H H1 → RuleAt H1 r a b xs ys → tz D (σ.set i (some (.ref r))) H1) :
    tSeq (tAsg te (gName i)) tz D σ H := h1 H (Ex.refl H) _ fun r a b H1 n1 e1 R => k r a b H1 n1 e1 R
theorem sq_whole_fun (p : Int) (xs ys : List Int) : sq (wholeL p xs ys) = fun n => cv (sq xs) (sq ys) n % p := funext (sq_whole p xs ys)
theorem RuleOk.cut {p : Int} {xs ys : List Int} (h : RuleOk p xs ys) (m k : Nat) (hk : 1 ≤ k) : RuleOk p (xs.take m) (ys.take k) := by
  have t8 := h.t8
  have b1 := h.b1
  have b8 := h.b8
  refine ⟨by rw [List.length_take]; omega, fun x hx => h.tr x (List.mem_of_mem_take hx), by rw [List.length_take]; omega, by rw [List.length_take]; omega, fun x hx => h.br x (List.mem_of_mem_take hx), ?_⟩
  rw [sq_take (by omega)]
  exact h.b0
theorem eap_imp {σ : L2.St} {H : Hp} {tr : TA} {P P' : List V → Hp → Prop} (h : EvAP tr σ H P) (i : ∀ vs H2, P vs H2 → P' vs H2) : EvAP tr σ H P' := fun H1 e Q q => h H1 e Q fun vs H2 e2 hp => q vs H2 e2 (i vs H2 hp)
theorem LsAt.two {H : Hp} {rs : List Addr} {xs ys : List V} (h : LsAt H rs [xs, ys]) : ∃ a b, rs = [a, b] ∧ H a = some (.lst xs) ∧ H b = some (.lst ys) := by
  obtain ⟨l1, l2⟩ := h
  match rs, l1, l2 with
  | [a, b], l1, l2 => exact ⟨a, b, rfl, l2 0 a xs rfl rfl, l2 1 b ys rfl rfl⟩
/-- row + [0] * (m - len(row)) of a row that stands -/
theorem el_padded {K : PySem.W.Frag} {σ : L2.St} {H : Hp} {te tm : TE} {a : Addr} {xs : List Int} {m : Nat} (h : Ev te σ H (.ref a)) (ha : H a = some (.lst (xs.map V.int))) (hm : Ev tm σ H (.int (m : Int))) (hl : xs.length ≤ m) (hl2 : m ≤ 1000) :
    EvL (tOp rCat te (tOp rRep (tLst (tCons (tC (.int 0)) tNil)) (tOp (rI0 fun i j => .int (i - j)) tm (tCB (rLenS K) (tCons te tNil))))) σ H ((xs ++ List.replicate (m - xs.length) 0).map V.int) := by
  refine el_is (el_catR h ha (el_rep (n := ((m - xs.length : Nat) : Int)) (el_lst (ea_cons ev_c ea_nil) (by decide)) (ev_is (ev_op hm (ev_cb (ea_cons h ea_nil) (rc_lenI (sq_of ha))) rv_I0) (by show V.int _ = V.int _; congr 1; omega)) (by omega) rfl) ?_) ?_
  · rw [Int.toNat_natCast, rep_one, List.length_replicate, List.length_map]
    omega
  · rw [Int.toNat_natCast, rep_one, List.map_append, List.map_replicate]
/-- the slots, written out -/
theorem st_is {tz : TS} {D : Ends} {σ σ' : L2.St} {H : Hp} (e : σ = σ') (h : tz D σ' H) : tz D σ H := by
  rw [e]
  exact h
theorem q_parRR {σ : L2.St} {H : Hp} {t1 t2 : TE} {D : Ends} {tz : TS} {i j : Nat} {xs ys xs' ys' : List Int} (h1 : EvRule t1 σ H xs ys) (h2 : EvRule t2 σ H xs' ys') (k : ∀ r a b r' a' b' H1, Ex H H1 → RuleAt H1 r a b xs ys → RuleAt H1 r' a' b' xs' ys' → tz D ((σ.set i (some (.ref r))).set j (some (.ref r'))) H1) :
    tSeq (tPar i j (tCons t1 (tCons t2 tNil))) tz D σ H := h1 H (Ex.refl H) _ fun r a b H1 n1 n2 n3 ne e1 R => h2 H1 e1 _ fun r' a' b' H2 n1' n2' n3' ne' e2 R' => ⟨.ref r, .ref r', rfl, k r a b r' a' b' H2 (e1.trans e2) (R.ex e2) R'⟩
theorem er_copy {K : PySem.W.Frag} {σ : L2.St} {H : Hp} {te : TE} {r a b : Addr} {xs ys : List Int} (h : Ev te σ H (.ref r)) (R : RuleAt H r a b xs ys) :
    EvRule (tTup (tCons (tCB (rListS K) (tCons (tOp (rIxT K) te (tC (.int 0))) tNil)) (tCons (tCB (rListS K) (tCons (tOp (rIxT K) te (tC (.int 1))) tNil)) tNil))) σ H xs ys :=
  er_tup (el_cb (ea_cons (rule_list0 h R) ea_nil) (rcl_list (sq_of R.a))) (el_cb (ea_cons (rule_list1 h R) ea_nil) (rcl_list (sq_of R.b)))

/-! ### no primes, at each door -/
open LamX NdefX
theorem num_prime {v : V} {J : Hp} (h : NumZ v J) : PrimeZ v J := ⟨h.1, fun i e hp => by
  have := h.2 i e
  have := hp.pos
  omega⟩
theorem int_prime {i : Int} {J : Hp} (h : ¬ Prm i) : PrimeZ (.int i) J := ⟨⟨_, .int i⟩, fun j e => by
  cases e
  exact h⟩
theorem ok_law_primes_right {f cc PP : Addr} {fd : FuncData} {T : List (Addr × Str)} (D : DatK K mg "_law_primes_right" s_law_primes_right ["_law_more"] f fd cc) {a_PRIMES : Addr} {t_MOST_CUT : Tok} {t_MOST_RULED : Tok} {t_MOST_PLACES : Tok} {t_MOST_TERMS : Tok} {a_PowerError : Addr} {a_BadPrime : Addr} {a_BadRow : Addr} {a_BadCount : Addr} {a_BadRule : Addr} {a_BadPlaces : Addr} {a_BadTerms : Addr} {a_NoPart : Addr} {a_NoInside : Addr} {a_NoRoot : Addr} {a_Answer : Addr} {a_Alike : Addr} {a_Unlike : Addr} {a_Ruled : Addr} {a_Barred : Addr} (B : Blt K mg a_PRIMES t_MOST_CUT t_MOST_RULED t_MOST_PLACES t_MOST_TERMS a_PowerError a_BadPrime a_BadRow a_BadCount a_BadRule a_BadPlaces a_BadTerms a_NoPart a_NoInside a_NoRoot a_Answer a_Alike a_Unlike a_Ruled a_Barred) (TB_law_primes_right : TabB base mg cc PP) (hm_law_primes_right : (PP, (("_law_primes_right" : Str) ++ ".<locals>." ++ "<lambda>" : Str)) ∈ T) (hu_law_primes_right : ∀ p ∈ T, p.1 = PP → p.2 = (("_law_primes_right" : Str) ++ ".<locals>." ++ "<lambda>" : Str))
    (C_law_no_numbers : Cal P w K mg base CX0 "_law_no_numbers" 1 ["_law_more"] spNoNum)
    (C_law_each : Cal P w K mg base CX0 "_law_each" 17 ["_law_asks", "_law_things", "_law_due"] (spEach P w K mg base [a_BadPrime, a_BadRow, a_BadCount, a_BadRule, a_BadPlaces, a_BadTerms, a_NoPart, a_NoInside, a_NoRoot]))
    (X_plus_b : Cal P w K mg base (L2N.CX P w) "plus" 10 ["prime", "one", "other"] (spNo3 a_BadPrime a_BadRow a_BadRow RowNo RowOkV RowNo))
    (X_times_b : Cal P w K mg base (L2N.CX P w) "times" 10 ["prime", "one", "other"] (spNo3 a_BadPrime a_BadRow a_BadRow RowNo RowOkV RowNo))
    (X_parted_b : Cal P w K mg base (L2N.CX P w) "parted" 10 ["prime", "one", "other"] (spNo3 a_BadPrime a_BadRow a_BadRow RowNo RowOkV RowNo))
    (X_put_in_b : Cal P w K mg base (L2N.CX P w) "put_in" 10 ["prime", "outer", "inner"] (spNo3 a_BadPrime a_BadRow a_BadRow RowNo RowOkV RowNo))
    (X_turned_out_b : Cal P w K mg base (L2N.CX P w) "turned_out" 10 ["prime", "row"] (spNo2 a_BadPrime a_BadRow RowNo))
    (X_raised_b : Cal P w K mg base (L2N.CX P w) "raised" 10 ["prime", "row", "many"] (spNo3 a_BadPrime a_BadRow a_BadCount RowNo RowOkV CountNoP))
    (X_root_b : Cal P w K mg base (L2N.CX P w) "root" 10 ["prime", "row"] (spNo2 a_BadPrime a_BadRow RowNo))
    (X_opened_b : Cal P w K mg base (L2N.CX P w) "opened" 10 ["prime", "rule", "many"] (spNo3 a_BadPrime a_BadRule a_BadCount RuleNo RuleOkV CountNo400))
    (X_far_place_b : Cal P w K mg base (L2N.CX P w) "far_place" 10 ["prime", "rule", "at"] (spNo3 a_BadPrime a_BadRule a_BadCount RuleNo RuleOkV CountNoP))
    (X_alike_b : Cal P w K mg base (L2N.CX P w) "alike" 10 ["prime", "one", "other"] (spNo3 a_BadPrime a_BadRule a_BadRule RuleNo RuleOkV RuleNo))
    (X_tapped_b : Cal P w K mg base (L2N.CX P w) "tapped" 10 ["prime", "places", "many"] (spNo3 a_BadPrime a_BadPlaces a_BadCount PlacesNo PlacesOkV CountNo8))
    (X_grown_b : Cal P w K mg base (L2N.CX P w) "grown" 10 ["prime", "terms", "many"] (spNo3 a_BadPrime a_BadTerms a_BadCount TermsNo TermsOkV CountNo20)) : Cal P w K mg base CX0 "_law_primes_right" 20 ["_law_more"] (spMaker T) := by
  refine D.d.cal (D.c.ok sc_law_primes_right (fun vs H Q E h => ?_) (fun A outer s H vs Q E hr h => ?_))
  · obtain ⟨m, rfl, _⟩ := h
    rfl
  · obtain ⟨m, rfl, h0, hT, q⟩ := h
    refine ⟨_, (pss_cons (ps_set (i := 1) sc_law_primes_right.nd rfl (Or.inl rfl) (pe_op op_cat (pe_c0 C_law_no_numbers (hr.mono (by decide)) (pa_cons (pv 0) pa_nil)) (pe_lst (pa_cons pe_int (pa_cons pe_int (pa_cons pe_int (pa_cons pe_int (pa_cons pe_int (pa_cons pe_int (pa_cons (pe_op op_add pe_int (pv 0)) pa_nil))))))))))
    (pss_cons (ps_set (i := 2) sc_law_primes_right.nd rfl (Or.inl rfl) (pe_lst (pa_cons (pe_lam (T := T) TB_law_primes_right rfl hm_law_primes_right hu_law_primes_right (free_of (sc := defScope s_law_primes_right) rfl (by decide +kernel))) (pa_cons (pe_lam (T := T) TB_law_primes_right rfl hm_law_primes_right hu_law_primes_right (free_of (sc := defScope s_law_primes_right) rfl (by decide +kernel))) pa_nil))))
    (pss_cons (ps_expr (pe_bm PySem.F.plainAttrs_list PySem.F.slot_list_append PySem.F.type_list_append mt_append (pv 2) (pa_cons (pe_lam (T := T) TB_law_primes_right rfl hm_law_primes_right hu_law_primes_right (free_of (sc := defScope s_law_primes_right) rfl (by decide +kernel))) pa_nil)))
    (pss_cons (ps_set (i := 2) sc_law_primes_right.nd rfl (Or.inl rfl) (pe_op op_cat (pv 2) (pe_lst (pa_cons (pe_lam (T := T) TB_law_primes_right rfl hm_law_primes_right hu_law_primes_right (free_of (sc := defScope s_law_primes_right) rfl (by decide +kernel))) (pa_cons (pe_lam (T := T) TB_law_primes_right rfl hm_law_primes_right hu_law_primes_right (free_of (sc := defScope s_law_primes_right) rfl (by decide +kernel))) pa_nil)))))
    (pss_cons (ps_set (i := 2) sc_law_primes_right.nd rfl (Or.inl rfl) (pe_op op_cat (pv 2) (pe_lst (pa_cons (pe_lam (T := T) TB_law_primes_right rfl hm_law_primes_right hu_law_primes_right (free_of (sc := defScope s_law_primes_right) rfl (by decide +kernel))) (pa_cons (pe_lam (T := T) TB_law_primes_right rfl hm_law_primes_right hu_law_primes_right (free_of (sc := defScope s_law_primes_right) rfl (by decide +kernel))) pa_nil)))))
    (pss_cons (ps_set (i := 2) sc_law_primes_right.nd rfl (Or.inl rfl) (pe_op op_cat (pv 2) (pe_lst (pa_cons (pe_lam (T := T) TB_law_primes_right rfl hm_law_primes_right hu_law_primes_right (free_of (sc := defScope s_law_primes_right) rfl (by decide +kernel))) (pa_cons (pe_lam (T := T) TB_law_primes_right rfl hm_law_primes_right hu_law_primes_right (free_of (sc := defScope s_law_primes_right) rfl (by decide +kernel))) pa_nil)))))
    (pss_cons (ps_set (i := 2) sc_law_primes_right.nd rfl (Or.inl rfl) (pe_op op_cat (pv 2) (pe_lst (pa_cons (pe_lam (T := T) TB_law_primes_right rfl hm_law_primes_right hu_law_primes_right (free_of (sc := defScope s_law_primes_right) rfl (by decide +kernel))) (pa_cons (pe_lam (T := T) TB_law_primes_right rfl hm_law_primes_right hu_law_primes_right (free_of (sc := defScope s_law_primes_right) rfl (by decide +kernel))) pa_nil)))))
    (pss_one (ps_ret (pe_c0 C_law_each (hr.mono (by decide)) (pa_cons (pe_op op_cat (pv 2) (pe_lst (pa_cons (pe_lam (T := T) TB_law_primes_right rfl hm_law_primes_right hu_law_primes_right (free_of (sc := defScope s_law_primes_right) rfl (by decide +kernel))) pa_nil))) (pa_cons (pv 1) (pa_cons pe_int pa_nil))))))))))))), ?_⟩
    have M := mn_prime.mono
    refine q_asgLP (elp_cat2 (φ := id) (Z := PrimeZ) (n := 9) (m := 7) view_id M (by decide) (elp_imp (elp_nonum view_id (by walk_at "ev") h0) fun vs J hA => hA.imp fun v hv => num_prime hv) (elp_al view_id M (by decide) (eal_cons view_id M (ez_ev ev_c fun J _ => int_prime (i := 0) (by unfold Prm; decide)) (eal_cons view_id M (ez_ev ev_c fun J _ => int_prime (i := 1) (by unfold Prm; decide)) (eal_cons view_id M (ez_ev ev_c fun J _ => int_prime (i := 4) (by unfold Prm; decide)) (eal_cons view_id M (ez_ev ev_c fun J _ => int_prime (i := 91) (by unfold Prm; decide)) (eal_cons view_id M (ez_ev ev_c fun J _ => int_prime (i := 98) (by unfold Prm; decide)) (eal_cons view_id M (ez_ev ev_c fun J _ => int_prime (i := 101) (by unfold Prm; decide)) (eal_cons view_id M (ez_ev (v := .int (101 + m)) (ev_op ev_c (ev_var rfl) rv_I0) fun J _ => int_prime fun hp => by have := hp.pos; omega) eal_nil))))))))) fun xs p H1 np e1 hp hA => ?_
    have T1 := hT.ext e1
    have N1 : ExtN H H1 := ExtN.of e1
    refine q_asgN (P := P) (w := w) (K := K) (mg := mg) (base := base) (Bd := PrimeZ) (C := a_BadPrime) (n := 2) T1 (ezn_lst (by decide) (ezn_cons (ezn_lam (fun f c' => lam_ask (x := "_law_one") (nscope_by rfl) (fun _ _ us hl => match us, hl with | [_], _ => rfl) fun A outer s H v Q E hr hB q => ⟨_, pe_cS X_plus_b (hr.mono (by decide)) (fun σ => lam_passes σ) (pa_cons (pv 0) (pa_cons pe_non (pa_cons pe_non pa_nil))), x_call (eap_cons (ev_var rfl) (eap_cons ev_c (eap_cons ev_c eap_nil))) fun vs H1 e1 hP => by
        obtain ⟨_, rfl, _, rfl, _, rfl, rfl⟩ := hP
        exact ⟨v, .non, .non, rfl, .inl ⟨BadP.ex e1 hB, fun H2 e2 => q H2 (e1.trans e2)⟩⟩⟩) (fun _ => rfl) (fun _ => rfl))
      (ezn_cons (ezn_lam (fun f c' => lam_ask (x := "_law_two") (nscope_by rfl) (fun _ _ us hl => match us, hl with | [_], _ => rfl) fun A outer s H v Q E hr hB q => ⟨_, pe_cS X_times_b (hr.mono (by decide)) (fun σ => lam_passes σ) (pa_cons (pv 0) (pa_cons pe_non (pa_cons pe_non pa_nil))), x_call (eap_cons (ev_var rfl) (eap_cons ev_c (eap_cons ev_c eap_nil))) fun vs H1 e1 hP => by
        obtain ⟨_, rfl, _, rfl, _, rfl, rfl⟩ := hP
        exact ⟨v, .non, .non, rfl, .inl ⟨BadP.ex e1 hB, fun H2 e2 => q H2 (e1.trans e2)⟩⟩⟩) (fun _ => rfl) (fun _ => rfl))
      ezn_nil))) fun l1 a1 H2 n2 e2 T2 h2 z2 v2 => ?_
    refine q_appN (P := P) (w := w) (K := K) (mg := mg) (base := base) (Bd := PrimeZ) (C := a_BadPrime) rfl h2 (by omega) v2 T2 (ezn_lam (fun f c' => lam_ask (x := "_law_this") (nscope_by rfl) (fun _ _ us hl => match us, hl with | [_], _ => rfl) fun A outer s H v Q E hr hB q => ⟨_, pe_cS X_parted_b (hr.mono (by decide)) (fun σ => lam_passes σ) (pa_cons (pv 0) (pa_cons pe_non (pa_cons pe_non pa_nil))), x_call (eap_cons (ev_var rfl) (eap_cons ev_c (eap_cons ev_c eap_nil))) fun vs H1 e1 hP => by
        obtain ⟨_, rfl, _, rfl, _, rfl, rfl⟩ := hP
        exact ⟨v, .non, .non, rfl, .inl ⟨BadP.ex e1 hB, fun H2 e2 => q H2 (e1.trans e2)⟩⟩⟩) (fun _ => rfl) (fun _ => rfl)) fun v H3 k3 T3 h3 v3 => ?_
    have e13 : ExtN H1 H3 := k3 H1 e2 n2
    have z3 : (l1 ++ [v]).length ≤ 3 := by rw [List.length_append, List.length_singleton]; omega
    refine q_asgN (P := P) (w := w) (K := K) (mg := mg) (base := base) (Bd := PrimeZ) (C := a_BadPrime) (n := 5) T3 (ezn_cat (m := 3) (n := 2) rfl h3 z3 v3 (by decide) (ezn_lst (by decide) (ezn_cons (ezn_lam (fun f c' => lam_ask (x := "_law_that") (nscope_by rfl) (fun _ _ us hl => match us, hl with | [_], _ => rfl) fun A outer s H v Q E hr hB q => ⟨_, pe_cS X_put_in_b (hr.mono (by decide)) (fun σ => lam_passes σ) (pa_cons (pv 0) (pa_cons pe_non (pa_cons pe_non pa_nil))), x_call (eap_cons (ev_var rfl) (eap_cons ev_c (eap_cons ev_c eap_nil))) fun vs H1 e1 hP => by
        obtain ⟨_, rfl, _, rfl, _, rfl, rfl⟩ := hP
        exact ⟨v, .non, .non, rfl, .inl ⟨BadP.ex e1 hB, fun H2 e2 => q H2 (e1.trans e2)⟩⟩⟩) (fun _ => rfl) (fun _ => rfl))
      (ezn_cons (ezn_lam (fun f c' => lam_ask (x := "_law_far") (nscope_by rfl) (fun _ _ us hl => match us, hl with | [_], _ => rfl) fun A outer s H v Q E hr hB q => ⟨_, pe_cS X_turned_out_b (hr.mono (by decide)) (fun σ => lam_passes σ) (pa_cons (pv 0) (pa_cons pe_non pa_nil)), x_call (eap_cons (ev_var rfl) (eap_cons ev_c eap_nil)) fun vs H1 e1 hP => by
        obtain ⟨_, rfl, _, rfl, rfl⟩ := hP
        exact ⟨v, .non, rfl, .inl ⟨BadP.ex e1 hB, fun H2 e2 => q H2 (e1.trans e2)⟩⟩⟩) (fun _ => rfl) (fun _ => rfl))
      ezn_nil)))) fun l4 a4 H4 n4 e4 T4 h4 z4 v4 => ?_
    have e14 := e13.trans e4
    refine q_asgN (P := P) (w := w) (K := K) (mg := mg) (base := base) (Bd := PrimeZ) (C := a_BadPrime) (n := 7) T4 (ezn_cat (m := 5) (n := 2) rfl h4 z4 v4 (by decide) (ezn_lst (by decide) (ezn_cons (ezn_lam (fun f c' => lam_ask (x := "_law_near") (nscope_by rfl) (fun _ _ us hl => match us, hl with | [_], _ => rfl) fun A outer s H v Q E hr hB q => ⟨_, pe_cS X_raised_b (hr.mono (by decide)) (fun σ => lam_passes σ) (pa_cons (pv 0) (pa_cons pe_non (pa_cons pe_non pa_nil))), x_call (eap_cons (ev_var rfl) (eap_cons ev_c (eap_cons ev_c eap_nil))) fun vs H1 e1 hP => by
        obtain ⟨_, rfl, _, rfl, _, rfl, rfl⟩ := hP
        exact ⟨v, .non, .non, rfl, .inl ⟨BadP.ex e1 hB, fun H2 e2 => q H2 (e1.trans e2)⟩⟩⟩) (fun _ => rfl) (fun _ => rfl))
      (ezn_cons (ezn_lam (fun f c' => lam_ask (x := "_law_here") (nscope_by rfl) (fun _ _ us hl => match us, hl with | [_], _ => rfl) fun A outer s H v Q E hr hB q => ⟨_, pe_cS X_root_b (hr.mono (by decide)) (fun σ => lam_passes σ) (pa_cons (pv 0) (pa_cons pe_non pa_nil)), x_call (eap_cons (ev_var rfl) (eap_cons ev_c eap_nil)) fun vs H1 e1 hP => by
        obtain ⟨_, rfl, _, rfl, rfl⟩ := hP
        exact ⟨v, .non, rfl, .inl ⟨BadP.ex e1 hB, fun H2 e2 => q H2 (e1.trans e2)⟩⟩⟩) (fun _ => rfl) (fun _ => rfl))
      ezn_nil)))) fun l5 a5 H5 n5 e5 T5 h5 z5 v5 => ?_
    have e15 := e14.trans e5
    refine q_asgN (P := P) (w := w) (K := K) (mg := mg) (base := base) (Bd := PrimeZ) (C := a_BadPrime) (n := 9) T5 (ezn_cat (m := 7) (n := 2) rfl h5 z5 v5 (by decide) (ezn_lst (by decide) (ezn_cons (ezn_lam (fun f c' => lam_ask (x := "_law_there") (nscope_by rfl) (fun _ _ us hl => match us, hl with | [_], _ => rfl) fun A outer s H v Q E hr hB q => ⟨_, pe_cS X_opened_b (hr.mono (by decide)) (fun σ => lam_passes σ) (pa_cons (pv 0) (pa_cons pe_non (pa_cons pe_non pa_nil))), x_call (eap_cons (ev_var rfl) (eap_cons ev_c (eap_cons ev_c eap_nil))) fun vs H1 e1 hP => by
        obtain ⟨_, rfl, _, rfl, _, rfl, rfl⟩ := hP
        exact ⟨v, .non, .non, rfl, .inl ⟨BadP.ex e1 hB, fun H2 e2 => q H2 (e1.trans e2)⟩⟩⟩) (fun _ => rfl) (fun _ => rfl))
      (ezn_cons (ezn_lam (fun f c' => lam_ask (x := "_law_once") (nscope_by rfl) (fun _ _ us hl => match us, hl with | [_], _ => rfl) fun A outer s H v Q E hr hB q => ⟨_, pe_cS X_far_place_b (hr.mono (by decide)) (fun σ => lam_passes σ) (pa_cons (pv 0) (pa_cons pe_non (pa_cons pe_non pa_nil))), x_call (eap_cons (ev_var rfl) (eap_cons ev_c (eap_cons ev_c eap_nil))) fun vs H1 e1 hP => by
        obtain ⟨_, rfl, _, rfl, _, rfl, rfl⟩ := hP
        exact ⟨v, .non, .non, rfl, .inl ⟨BadP.ex e1 hB, fun H2 e2 => q H2 (e1.trans e2)⟩⟩⟩) (fun _ => rfl) (fun _ => rfl))
      ezn_nil)))) fun l6 a6 H6 n6 e6 T6 h6 z6 v6 => ?_
    have e16 := e15.trans e6
    refine q_asgN (P := P) (w := w) (K := K) (mg := mg) (base := base) (Bd := PrimeZ) (C := a_BadPrime) (n := 11) T6 (ezn_cat (m := 9) (n := 2) rfl h6 z6 v6 (by decide) (ezn_lst (by decide) (ezn_cons (ezn_lam (fun f c' => lam_ask (x := "_law_then") (nscope_by rfl) (fun _ _ us hl => match us, hl with | [_], _ => rfl) fun A outer s H v Q E hr hB q => ⟨_, pe_cS X_alike_b (hr.mono (by decide)) (fun σ => lam_passes σ) (pa_cons (pv 0) (pa_cons pe_non (pa_cons pe_non pa_nil))), x_call (eap_cons (ev_var rfl) (eap_cons ev_c (eap_cons ev_c eap_nil))) fun vs H1 e1 hP => by
        obtain ⟨_, rfl, _, rfl, _, rfl, rfl⟩ := hP
        exact ⟨v, .non, .non, rfl, .inl ⟨BadP.ex e1 hB, fun H2 e2 => q H2 (e1.trans e2)⟩⟩⟩) (fun _ => rfl) (fun _ => rfl))
      (ezn_cons (ezn_lam (fun f c' => lam_ask (x := "_law_last") (nscope_by rfl) (fun _ _ us hl => match us, hl with | [_], _ => rfl) fun A outer s H v Q E hr hB q => ⟨_, pe_cS X_tapped_b (hr.mono (by decide)) (fun σ => lam_passes σ) (pa_cons (pv 0) (pa_cons pe_non (pa_cons pe_non pa_nil))), x_call (eap_cons (ev_var rfl) (eap_cons ev_c (eap_cons ev_c eap_nil))) fun vs H1 e1 hP => by
        obtain ⟨_, rfl, _, rfl, _, rfl, rfl⟩ := hP
        exact ⟨v, .non, .non, rfl, .inl ⟨BadP.ex e1 hB, fun H2 e2 => q H2 (e1.trans e2)⟩⟩⟩) (fun _ => rfl) (fun _ => rfl))
      ezn_nil)))) fun l7 a7 H7 n7 e7 T7 h7 z7 v7 => ?_
    have e17 := e16.trans e7
    exact s_retEach (P := P) (w := w) (K := K) (mg := mg) (base := base) (Bd := PrimeZ) (C := a_BadPrime) (d := 0) T7 (ezx_of (ezn_cat (m := 11) (n := 1) rfl h7 z7 v7 (by decide) (ezn_lst (by decide) (ezn_cons (ezn_lam (fun f c' => lam_ask (x := "_law_lone") (nscope_by rfl) (fun _ _ us hl => match us, hl with | [_], _ => rfl) fun A outer s H v Q E hr hB q => ⟨_, pe_cS X_grown_b (hr.mono (by decide)) (fun σ => lam_passes σ) (pa_cons (pv 0) (pa_cons pe_non (pa_cons pe_non pa_nil))), x_call (eap_cons (ev_var rfl) (eap_cons ev_c (eap_cons ev_c eap_nil))) fun vs H1 e1 hP => by
        obtain ⟨_, rfl, _, rfl, _, rfl, rfl⟩ := hP
        exact ⟨v, .non, .non, rfl, .inl ⟨BadP.ex e1 hB, fun H2 e2 => q H2 (e1.trans e2)⟩⟩⟩) (fun _ => rfl) (fun _ => rfl))
      ezn_nil)))) (by decide) (fun J eJ => exx_ev (ev_var rfl) fun J2 e2 => bads_of mn_prime ((e17.trans eJ).trans (ExtN.of e2)) hp hA (by decide)) M rfl (by decide) fun H9 e9 T9 => q H9 ((N1.trans e17).trans e9) T9

/-! ### no rows, at each door -/
open LamX NdefX
theorem elp_nolists {φ : Hp → Hp} {σ : L2.St} {H : Hp} {ta : TA} {m : Int} {most : Nat} {E : XK} (V : View H φ) (h : EvA ta σ H [.int m, .int (most : Int)]) (h0 : 0 ≤ m) (h24 : most ≤ 24) : EvLP (tCall spNoLists [] E ta) σ H (fun vs J => Al (NoL most) 31 vs (φ J)) := elp_callZ h fun H1 e1 Q q => ⟨m, most, φ, rfl, h0, h24, V.mono e1, fun xs p H2 np e2 hp hA => q xs p H2 np e2 hp hA⟩
theorem p7 : Prm 7 := by unfold Prm; decide
theorem p2_ : Prm 2 := by unfold Prm; decide
theorem r1_ : Rowp 7 [1] := ⟨by decide, by decide, by decide⟩
theorem r12_ : Rowp 7 [1, 2] := ⟨by decide, by decide, by decide⟩
theorem ok_law_rows_right {f cc PP : Addr} {fd : FuncData} {T : List (Addr × Str)} (D : DatK K mg "_law_rows_right" s_law_rows_right ["_law_more"] f fd cc) {a_PRIMES : Addr} {t_MOST_CUT : Tok} {t_MOST_RULED : Tok} {t_MOST_PLACES : Tok} {t_MOST_TERMS : Tok} {a_PowerError : Addr} {a_BadPrime : Addr} {a_BadRow : Addr} {a_BadCount : Addr} {a_BadRule : Addr} {a_BadPlaces : Addr} {a_BadTerms : Addr} {a_NoPart : Addr} {a_NoInside : Addr} {a_NoRoot : Addr} {a_Answer : Addr} {a_Alike : Addr} {a_Unlike : Addr} {a_Ruled : Addr} {a_Barred : Addr} (B : Blt K mg a_PRIMES t_MOST_CUT t_MOST_RULED t_MOST_PLACES t_MOST_TERMS a_PowerError a_BadPrime a_BadRow a_BadCount a_BadRule a_BadPlaces a_BadTerms a_NoPart a_NoInside a_NoRoot a_Answer a_Alike a_Unlike a_Ruled a_Barred) (TB_law_rows_right : TabB base mg cc PP) (hm_law_rows_right : (PP, (("_law_rows_right" : Str) ++ ".<locals>." ++ "<lambda>" : Str)) ∈ T) (hu_law_rows_right : ∀ p ∈ T, p.1 = PP → p.2 = (("_law_rows_right" : Str) ++ ".<locals>." ++ "<lambda>" : Str))
    (C_law_no_numbers : Cal P w K mg base CX0 "_law_no_numbers" 1 ["_law_more"] spNoNum)
    (C_law_no_lists : Cal P w K mg base CX0 "_law_no_lists" 2 ["_law_more", "_law_most"] spNoLists)
    (C_law_each : Cal P w K mg base CX0 "_law_each" 17 ["_law_asks", "_law_things", "_law_due"] (spEach P w K mg base [a_BadPrime, a_BadRow, a_BadCount, a_BadRule, a_BadPlaces, a_BadTerms, a_NoPart, a_NoInside, a_NoRoot]))
    (X_plus_b : Cal P w K mg base (L2N.CX P w) "plus" 10 ["prime", "one", "other"] (spNo3 a_BadPrime a_BadRow a_BadRow RowNo RowOkV RowNo))
    (X_times_b : Cal P w K mg base (L2N.CX P w) "times" 10 ["prime", "one", "other"] (spNo3 a_BadPrime a_BadRow a_BadRow RowNo RowOkV RowNo))
    (X_parted_b : Cal P w K mg base (L2N.CX P w) "parted" 10 ["prime", "one", "other"] (spNo3 a_BadPrime a_BadRow a_BadRow RowNo RowOkV RowNo))
    (X_put_in_b : Cal P w K mg base (L2N.CX P w) "put_in" 10 ["prime", "outer", "inner"] (spNo3 a_BadPrime a_BadRow a_BadRow RowNo RowOkV RowNo))
    (X_turned_out_b : Cal P w K mg base (L2N.CX P w) "turned_out" 10 ["prime", "row"] (spNo2 a_BadPrime a_BadRow RowNo))
    (X_raised_b : Cal P w K mg base (L2N.CX P w) "raised" 10 ["prime", "row", "many"] (spNo3 a_BadPrime a_BadRow a_BadCount RowNo RowOkV CountNoP))
    (X_root_b : Cal P w K mg base (L2N.CX P w) "root" 10 ["prime", "row"] (spNo2 a_BadPrime a_BadRow RowNo))
    (X_parted : Cal P w K mg base (L2N.CX P w) "parted" 10 ["prime", "one", "other"] (spPartedX a_NoPart))
    (X_put_in : Cal P w K mg base (L2N.CX P w) "put_in" 10 ["prime", "outer", "inner"] (spPutInX a_NoInside))
    (X_turned_out : Cal P w K mg base (L2N.CX P w) "turned_out" 10 ["prime", "row"] (spTurnedOutX a_NoInside))
    (X_root : Cal P w K mg base (L2N.CX P w) "root" 10 ["prime", "row"] (spRootX a_NoRoot)) : Cal P w K mg base CX0 "_law_rows_right" 20 ["_law_more"] (spMaker T) := by
  refine D.d.cal (D.c.ok sc_law_rows_right (fun vs H Q E h => ?_) (fun A outer s H vs Q E hr h => ?_))
  · obtain ⟨m, rfl, _⟩ := h
    rfl
  · obtain ⟨m, rfl, h0, hT, q⟩ := h
    refine ⟨_, (pss_cons (ps_set (i := 1) sc_law_rows_right.nd rfl (Or.inl rfl) (pe_op op_cat (pe_c0 C_law_no_lists (hr.mono (by decide)) (pa_cons (pv 0) (pa_cons pe_int pa_nil))) (pe_lst (pa_cons (pe_lst pa_nil) pa_nil))))
    (pss_cons (ps_set (i := 2) sc_law_rows_right.nd rfl (Or.inl rfl) (pe_lst (pa_cons (pe_lam (T := T) TB_law_rows_right rfl hm_law_rows_right hu_law_rows_right (free_of (sc := defScope s_law_rows_right) rfl (by decide +kernel))) (pa_cons (pe_lam (T := T) TB_law_rows_right rfl hm_law_rows_right hu_law_rows_right (free_of (sc := defScope s_law_rows_right) rfl (by decide +kernel))) (pa_cons (pe_lam (T := T) TB_law_rows_right rfl hm_law_rows_right hu_law_rows_right (free_of (sc := defScope s_law_rows_right) rfl (by decide +kernel))) pa_nil)))))
    (pss_cons (ps_set (i := 2) sc_law_rows_right.nd rfl (Or.inl rfl) (pe_op op_cat (pv 2) (pe_lst (pa_cons (pe_lam (T := T) TB_law_rows_right rfl hm_law_rows_right hu_law_rows_right (free_of (sc := defScope s_law_rows_right) rfl (by decide +kernel))) (pa_cons (pe_lam (T := T) TB_law_rows_right rfl hm_law_rows_right hu_law_rows_right (free_of (sc := defScope s_law_rows_right) rfl (by decide +kernel))) (pa_cons (pe_lam (T := T) TB_law_rows_right rfl hm_law_rows_right hu_law_rows_right (free_of (sc := defScope s_law_rows_right) rfl (by decide +kernel))) pa_nil))))))
    (pss_cons (ps_set (i := 2) sc_law_rows_right.nd rfl (Or.inl rfl) (pe_op op_cat (pv 2) (pe_lst (pa_cons (pe_lam (T := T) TB_law_rows_right rfl hm_law_rows_right hu_law_rows_right (free_of (sc := defScope s_law_rows_right) rfl (by decide +kernel))) (pa_cons (pe_lam (T := T) TB_law_rows_right rfl hm_law_rows_right hu_law_rows_right (free_of (sc := defScope s_law_rows_right) rfl (by decide +kernel))) (pa_cons (pe_lam (T := T) TB_law_rows_right rfl hm_law_rows_right hu_law_rows_right (free_of (sc := defScope s_law_rows_right) rfl (by decide +kernel))) pa_nil))))))
    (pss_cons (ps_set (i := 2) sc_law_rows_right.nd rfl (Or.inl rfl) (pe_op op_cat (pv 2) (pe_lst (pa_cons (pe_lam (T := T) TB_law_rows_right rfl hm_law_rows_right hu_law_rows_right (free_of (sc := defScope s_law_rows_right) rfl (by decide +kernel))) (pa_cons (pe_lam (T := T) TB_law_rows_right rfl hm_law_rows_right hu_law_rows_right (free_of (sc := defScope s_law_rows_right) rfl (by decide +kernel))) pa_nil)))))
    (pss_cons (ps_if (pt_not (pt_val (pe_c0 C_law_each (hr.mono (by decide)) (pa_cons (pv 2) (pa_cons (pv 1) (pa_cons pe_int pa_nil)))))) (pss_one (ps_ret pe_bl)) pss_nil)
    (pss_cons (ps_if (pt_not (pt_val (pe_c0 C_law_each (hr.mono (by decide)) (pa_cons (pe_lst (pa_cons (pe_lam (T := T) TB_law_rows_right rfl hm_law_rows_right hu_law_rows_right (free_of (sc := defScope s_law_rows_right) rfl (by decide +kernel))) pa_nil)) (pa_cons (pe_lst (pa_cons (pe_lst (pa_cons pe_int pa_nil)) (pa_cons (pe_lst (pa_cons pe_int (pa_cons pe_int pa_nil))) (pa_cons (pe_op op_rep (pe_lst (pa_cons pe_int pa_nil)) pe_int) pa_nil)))) (pa_cons pe_int pa_nil)))))) (pss_one (ps_ret pe_bl)) pss_nil)
    (pss_cons (ps_if (pt_not (pt_val (pe_c0 C_law_each (hr.mono (by decide)) (pa_cons (pe_lst (pa_cons (pe_lam (T := T) TB_law_rows_right rfl hm_law_rows_right hu_law_rows_right (free_of (sc := defScope s_law_rows_right) rfl (by decide +kernel))) pa_nil)) (pa_cons (pe_lst (pa_cons (pe_lst (pa_cons pe_int pa_nil)) (pa_cons (pe_lst (pa_cons pe_int (pa_cons pe_int pa_nil))) (pa_cons (pe_op op_rep (pe_lst (pa_cons pe_int pa_nil)) pe_int) pa_nil)))) (pa_cons pe_int pa_nil)))))) (pss_one (ps_ret pe_bl)) pss_nil)
    (pss_cons (ps_if (pt_not (pt_val (pe_c0 C_law_each (hr.mono (by decide)) (pa_cons (pe_lst (pa_cons (pe_lam (T := T) TB_law_rows_right rfl hm_law_rows_right hu_law_rows_right (free_of (sc := defScope s_law_rows_right) rfl (by decide +kernel))) pa_nil)) (pa_cons (pe_lst (pa_cons (pe_lst (pa_cons pe_int pa_nil)) (pa_cons (pe_lst (pa_cons pe_int pa_nil)) (pa_cons (pe_lst (pa_cons pe_int (pa_cons pe_int pa_nil))) (pa_cons (pe_lst (pa_cons pe_int (pa_cons pe_int (pa_cons pe_int pa_nil)))) pa_nil))))) (pa_cons pe_int pa_nil)))))) (pss_one (ps_ret pe_bl)) pss_nil)
    (pss_cons (ps_if (pt_not (pt_val (pe_c0 C_law_each (hr.mono (by decide)) (pa_cons (pe_lst (pa_cons (pe_lam (T := T) TB_law_rows_right rfl hm_law_rows_right hu_law_rows_right (free_of (sc := defScope s_law_rows_right) rfl (by decide +kernel))) pa_nil)) (pa_cons (pe_lst (pa_cons (pe_lst (pa_cons pe_int pa_nil)) (pa_cons (pe_lst (pa_cons pe_int (pa_cons pe_int pa_nil))) (pa_cons (pe_lst (pa_cons pe_int pa_nil)) (pa_cons (pe_op op_rep (pe_lst (pa_cons pe_int pa_nil)) pe_int) pa_nil))))) (pa_cons pe_int pa_nil)))))) (pss_one (ps_ret pe_bl)) pss_nil)
    (pss_cons (ps_if (pt_not (pt_val (pe_c0 C_law_each (hr.mono (by decide)) (pa_cons (pe_lst (pa_cons (pe_lam (T := T) TB_law_rows_right rfl hm_law_rows_right hu_law_rows_right (free_of (sc := defScope s_law_rows_right) rfl (by decide +kernel))) pa_nil)) (pa_cons (pe_lst (pa_cons (pe_lst (pa_cons pe_int pa_nil)) (pa_cons (pe_lst (pa_cons pe_int pa_nil)) (pa_cons (pe_lst (pa_cons pe_int (pa_cons pe_int (pa_cons pe_int pa_nil)))) pa_nil)))) (pa_cons pe_int pa_nil)))))) (pss_one (ps_ret pe_bl)) pss_nil)
    (pss_one (ps_ret (pe_c0 C_law_each (hr.mono (by decide)) (pa_cons (pe_lst (pa_cons (pe_lam (T := T) TB_law_rows_right rfl hm_law_rows_right hu_law_rows_right (free_of (sc := defScope s_law_rows_right) rfl (by decide +kernel))) pa_nil)) (pa_cons (pe_c0 C_law_no_numbers (hr.mono (by decide)) (pa_cons (pv 0) pa_nil)) (pa_cons pe_int pa_nil))))))))))))))))), ?_⟩
    have M := mn_row.mono
    refine q_asgLP (elp_cat2 (φ := id) (Z := RowZ) (n := 31) (m := 1) view_id M (by decide) (elp_imp (elp_nolists (most := 20) view_id (by walk_at "ev") h0 (by decide)) fun vs J hA => hA.imp fun v hv => hv 1) (elp_al view_id M (by decide) (eal_cons view_id M (ezv_L (xs := []) view_id (el_lst ea_nil (by decide)) (fun p J h => .inl ⟨p, [], rfl, h, by decide, nofun, rfl⟩) M) eal_nil))) fun xs p H1 np e1 hp hA => ?_
    have T1 := hT.ext e1
    have N1 : ExtN H H1 := ExtN.of e1
    refine q_asgN (P := P) (w := w) (K := K) (mg := mg) (base := base) (Bd := RowZ) (C := a_BadRow) (n := 3) T1 (ezn_lst (by decide) (ezn_cons (ezn_lam (fun f c' => lam_ask (x := "_law_one") (nscope_by rfl) (fun _ _ us hl => match us, hl with | [_], _ => rfl) fun A outer s H v Q E hr hB q => ⟨_, pe_cS X_plus_b (hr.mono (by decide)) (fun σ => lam_passes σ) (pa_cons pe_int (pa_cons (pv 0) (pa_cons pe_non pa_nil))), x_call (eap_cons ev_c (eap_cons (ev_var rfl) (eap_cons ev_c eap_nil))) fun vs H1 e1 hP => by
        obtain ⟨_, rfl, _, rfl, _, rfl, rfl⟩ := hP
        exact ⟨.int 7, v, .non, rfl, .inr ⟨7, rfl, p7, .inl ⟨RowNo.ex e1 hB, fun H2 e2 => q H2 (e1.trans e2)⟩⟩⟩⟩) (fun _ => rfl) (fun _ => rfl))
      (ezn_cons (ezn_lam (fun f c' => lam_ask (x := "_law_two") (nscope_by rfl) (fun _ _ us hl => match us, hl with | [_], _ => rfl) fun A outer s H v Q E hr hB q => ⟨_, pe_cS X_times_b (hr.mono (by decide)) (fun σ => lam_passes σ) (pa_cons pe_int (pa_cons (pv 0) (pa_cons pe_non pa_nil))), x_call (eap_cons ev_c (eap_cons (ev_var rfl) (eap_cons ev_c eap_nil))) fun vs H1 e1 hP => by
        obtain ⟨_, rfl, _, rfl, _, rfl, rfl⟩ := hP
        exact ⟨.int 7, v, .non, rfl, .inr ⟨7, rfl, p7, .inl ⟨RowNo.ex e1 hB, fun H2 e2 => q H2 (e1.trans e2)⟩⟩⟩⟩) (fun _ => rfl) (fun _ => rfl))
      (ezn_cons (ezn_lam (fun f c' => lam_ask (x := "_law_this") (nscope_by rfl) (fun _ _ us hl => match us, hl with | [_], _ => rfl) fun A outer s H v Q E hr hB q => ⟨_, pe_cS X_parted_b (hr.mono (by decide)) (fun σ => lam_passes σ) (pa_cons pe_int (pa_cons (pv 0) (pa_cons pe_non pa_nil))), x_call (eap_cons ev_c (eap_cons (ev_var rfl) (eap_cons ev_c eap_nil))) fun vs H1 e1 hP => by
        obtain ⟨_, rfl, _, rfl, _, rfl, rfl⟩ := hP
        exact ⟨.int 7, v, .non, rfl, .inr ⟨7, rfl, p7, .inl ⟨RowNo.ex e1 hB, fun H2 e2 => q H2 (e1.trans e2)⟩⟩⟩⟩) (fun _ => rfl) (fun _ => rfl))
      ezn_nil)))) fun l1 a1 H2 n2 e2 T2 h2 z2 v2 => ?_
    have e12 := e2
    refine q_asgN (P := P) (w := w) (K := K) (mg := mg) (base := base) (Bd := RowZ) (C := a_BadRow) (n := 6) T2 (ezn_cat (m := 3) (n := 3) rfl h2 z2 v2 (by decide) (ezn_lst (by decide) (ezn_cons (ezn_lam (fun f c' => lam_ask (x := "_law_one") (nscope_by rfl) (fun _ _ us hl => match us, hl with | [_], _ => rfl) fun A outer s H v Q E hr hB q => ⟨_, pe_cS X_plus_b (hr.mono (by decide)) (fun σ => lam_passes σ) (pa_cons pe_int (pa_cons (pe_lst (pa_cons pe_int pa_nil)) (pa_cons (pv 0) pa_nil))), x_call (eap_cons ev_c (eap_consL (xs := ([1] : List Int).map V.int) (el_lst (ea_cons ev_c ea_nil) (by decide)) (eap_cons (ev_var rfl) eap_nil))) fun vs H1 e1 hP => by
        obtain ⟨_, rfl, aL, _, rfl, hL, _, _, rfl, rfl⟩ := hP
        exact ⟨.int 7, .ref aL, v, rfl, .inr ⟨7, rfl, p7, .inr ⟨⟨aL, [1], rfl, hL, r1_⟩, RowNo.ex e1 hB, fun H2 e2 => q H2 (e1.trans e2)⟩⟩⟩⟩) (fun _ => rfl) (fun _ => rfl))
      (ezn_cons (ezn_lam (fun f c' => lam_ask (x := "_law_two") (nscope_by rfl) (fun _ _ us hl => match us, hl with | [_], _ => rfl) fun A outer s H v Q E hr hB q => ⟨_, pe_cS X_times_b (hr.mono (by decide)) (fun σ => lam_passes σ) (pa_cons pe_int (pa_cons (pe_lst (pa_cons pe_int pa_nil)) (pa_cons (pv 0) pa_nil))), x_call (eap_cons ev_c (eap_consL (xs := ([1] : List Int).map V.int) (el_lst (ea_cons ev_c ea_nil) (by decide)) (eap_cons (ev_var rfl) eap_nil))) fun vs H1 e1 hP => by
        obtain ⟨_, rfl, aL, _, rfl, hL, _, _, rfl, rfl⟩ := hP
        exact ⟨.int 7, .ref aL, v, rfl, .inr ⟨7, rfl, p7, .inr ⟨⟨aL, [1], rfl, hL, r1_⟩, RowNo.ex e1 hB, fun H2 e2 => q H2 (e1.trans e2)⟩⟩⟩⟩) (fun _ => rfl) (fun _ => rfl))
      (ezn_cons (ezn_lam (fun f c' => lam_ask (x := "_law_this") (nscope_by rfl) (fun _ _ us hl => match us, hl with | [_], _ => rfl) fun A outer s H v Q E hr hB q => ⟨_, pe_cS X_parted_b (hr.mono (by decide)) (fun σ => lam_passes σ) (pa_cons pe_int (pa_cons (pe_lst (pa_cons pe_int pa_nil)) (pa_cons (pv 0) pa_nil))), x_call (eap_cons ev_c (eap_consL (xs := ([1] : List Int).map V.int) (el_lst (ea_cons ev_c ea_nil) (by decide)) (eap_cons (ev_var rfl) eap_nil))) fun vs H1 e1 hP => by
        obtain ⟨_, rfl, aL, _, rfl, hL, _, _, rfl, rfl⟩ := hP
        exact ⟨.int 7, .ref aL, v, rfl, .inr ⟨7, rfl, p7, .inr ⟨⟨aL, [1], rfl, hL, r1_⟩, RowNo.ex e1 hB, fun H2 e2 => q H2 (e1.trans e2)⟩⟩⟩⟩) (fun _ => rfl) (fun _ => rfl))
      ezn_nil))))) fun l3 a3 H3 n3 e3 T3 h3 z3 v3 => ?_
    have e13 := e12.trans e3
    refine q_asgN (P := P) (w := w) (K := K) (mg := mg) (base := base) (Bd := RowZ) (C := a_BadRow) (n := 9) T3 (ezn_cat (m := 6) (n := 3) rfl h3 z3 v3 (by decide) (ezn_lst (by decide) (ezn_cons (ezn_lam (fun f c' => lam_ask (x := "_law_one") (nscope_by rfl) (fun _ _ us hl => match us, hl with | [_], _ => rfl) fun A outer s H v Q E hr hB q => ⟨_, pe_cS X_put_in_b (hr.mono (by decide)) (fun σ => lam_passes σ) (pa_cons pe_int (pa_cons (pv 0) (pa_cons pe_non pa_nil))), x_call (eap_cons ev_c (eap_cons (ev_var rfl) (eap_cons ev_c eap_nil))) fun vs H1 e1 hP => by
        obtain ⟨_, rfl, _, rfl, _, rfl, rfl⟩ := hP
        exact ⟨.int 7, v, .non, rfl, .inr ⟨7, rfl, p7, .inl ⟨RowNo.ex e1 hB, fun H2 e2 => q H2 (e1.trans e2)⟩⟩⟩⟩) (fun _ => rfl) (fun _ => rfl))
      (ezn_cons (ezn_lam (fun f c' => lam_ask (x := "_law_two") (nscope_by rfl) (fun _ _ us hl => match us, hl with | [_], _ => rfl) fun A outer s H v Q E hr hB q => ⟨_, pe_cS X_put_in_b (hr.mono (by decide)) (fun σ => lam_passes σ) (pa_cons pe_int (pa_cons (pe_lst (pa_cons pe_int pa_nil)) (pa_cons (pv 0) pa_nil))), x_call (eap_cons ev_c (eap_consL (xs := ([1] : List Int).map V.int) (el_lst (ea_cons ev_c ea_nil) (by decide)) (eap_cons (ev_var rfl) eap_nil))) fun vs H1 e1 hP => by
        obtain ⟨_, rfl, aL, _, rfl, hL, _, _, rfl, rfl⟩ := hP
        exact ⟨.int 7, .ref aL, v, rfl, .inr ⟨7, rfl, p7, .inr ⟨⟨aL, [1], rfl, hL, r1_⟩, RowNo.ex e1 hB, fun H2 e2 => q H2 (e1.trans e2)⟩⟩⟩⟩) (fun _ => rfl) (fun _ => rfl))
      (ezn_cons (ezn_lam (fun f c' => lam_ask (x := "_law_this") (nscope_by rfl) (fun _ _ us hl => match us, hl with | [_], _ => rfl) fun A outer s H v Q E hr hB q => ⟨_, pe_cS X_turned_out_b (hr.mono (by decide)) (fun σ => lam_passes σ) (pa_cons pe_int (pa_cons (pv 0) pa_nil)), x_call (eap_cons ev_c (eap_cons (ev_var rfl) eap_nil)) fun vs H1 e1 hP => by
        obtain ⟨_, rfl, _, rfl, rfl⟩ := hP
        exact ⟨.int 7, v, rfl, .inr ⟨7, rfl, p7, RowNo.ex e1 hB, fun H2 e2 => q H2 (e1.trans e2)⟩⟩⟩) (fun _ => rfl) (fun _ => rfl))
      ezn_nil))))) fun l4 a4 H4 n4 e4 T4 h4 z4 v4 => ?_
    have e14 := e13.trans e4
    refine q_asgN (P := P) (w := w) (K := K) (mg := mg) (base := base) (Bd := RowZ) (C := a_BadRow) (n := 11) T4 (ezn_cat (m := 9) (n := 2) rfl h4 z4 v4 (by decide) (ezn_lst (by decide) (ezn_cons (ezn_lam (fun f c' => lam_ask (x := "_law_one") (nscope_by rfl) (fun _ _ us hl => match us, hl with | [_], _ => rfl) fun A outer s H v Q E hr hB q => ⟨_, pe_cS X_raised_b (hr.mono (by decide)) (fun σ => lam_passes σ) (pa_cons pe_int (pa_cons (pv 0) (pa_cons pe_non pa_nil))), x_call (eap_cons ev_c (eap_cons (ev_var rfl) (eap_cons ev_c eap_nil))) fun vs H1 e1 hP => by
        obtain ⟨_, rfl, _, rfl, _, rfl, rfl⟩ := hP
        exact ⟨.int 7, v, .non, rfl, .inr ⟨7, rfl, p7, .inl ⟨RowNo.ex e1 hB, fun H2 e2 => q H2 (e1.trans e2)⟩⟩⟩⟩) (fun _ => rfl) (fun _ => rfl))
      (ezn_cons (ezn_lam (fun f c' => lam_ask (x := "_law_two") (nscope_by rfl) (fun _ _ us hl => match us, hl with | [_], _ => rfl) fun A outer s H v Q E hr hB q => ⟨_, pe_cS X_root_b (hr.mono (by decide)) (fun σ => lam_passes σ) (pa_cons pe_int (pa_cons (pv 0) pa_nil)), x_call (eap_cons ev_c (eap_cons (ev_var rfl) eap_nil)) fun vs H1 e1 hP => by
        obtain ⟨_, rfl, _, rfl, rfl⟩ := hP
        exact ⟨.int 7, v, rfl, .inr ⟨7, rfl, p7, RowNo.ex e1 hB, fun H2 e2 => q H2 (e1.trans e2)⟩⟩⟩) (fun _ => rfl) (fun _ => rfl))
      ezn_nil)))) fun l5 a5 H5 n5 e5 T5 h5 z5 v5 => ?_
    have e15 := e14.trans e5
    refine q_each (P := P) (w := w) (K := K) (mg := mg) (base := base) (Bd := RowZ) (C := a_BadRow) (n := 11) (d := 1) T5 (ezx_var rfl h5 z5 v5) (by decide) (fun J eJ => exx_ev (ev_var rfl) fun J2 e2 => bads_of mn_row ((e15.trans eJ).trans (ExtN.of e2)) hp hA (by decide)) M rfl (by decide) fun H6 e6 T6 => ?_
    have e16 := e15.trans e6
    refine q_each (P := P) (w := w) (K := K) (mg := mg) (base := base) (Bd := RowIs 7 (fun ys => sq ys 0 = 0)) (C := a_NoPart) (n := 1) (d := 6) T6 (ezx_of (ezn_lst (by decide) (ezn_cons (ezn_lam (fun f c' => lam_ask (x := "_law_row") (nscope_by rfl) (fun _ _ us hl => match us, hl with | [_], _ => rfl) fun A outer s H v Q E hr hB q => ⟨_, pe_cS X_parted (hr.mono (by decide)) (fun σ => lam_passes σ) (pa_cons pe_int (pa_cons (pe_lst (pa_cons pe_int pa_nil)) (pa_cons (pv 0) pa_nil))), x_call (eap_cons ev_c (eap_consL (xs := ([1] : List Int).map V.int) (el_lst (ea_cons ev_c ea_nil) (by decide)) (eap_cons (ev_var rfl) eap_nil))) fun vs H1 e1 hP => by
        obtain ⟨_, rfl, aL, _, rfl, hL, _, _, rfl, rfl⟩ := hP
        obtain ⟨ab, ys, rfl, hb, Ry, hR⟩ := hB
        exact ⟨7, aL, ab, [1], ys, rfl, p7, hL, e1 _ _ hb, r1_, Ry, hR, fun H2 e2 => q H2 (e1.trans e2)⟩⟩) (fun _ => rfl) (fun _ => rfl))
      ezn_nil))) (by decide) (fun J eJ => exx_al (n := 3) (elp_al (φ := id) (Z := RowIs 7 (fun ys => sq ys 0 = 0)) view_id mn_is.mono (by decide) (eal_cons view_id mn_is.mono (ezv_L (xs := ([0] : List Int).map V.int) view_id (el_lst (ea_cons ev_c ea_nil) (by show (1 : Nat) ≤ 100000; decide)) (fun q J h => ⟨q, [0], rfl, h, ⟨by decide, by decide, by decide⟩, by decide⟩) mn_is.mono) (eal_cons view_id mn_is.mono (ezv_L (xs := ([0, 1] : List Int).map V.int) view_id (el_lst (ea_cons ev_c (ea_cons ev_c ea_nil)) (by show (2 : Nat) ≤ 100000; decide)) (fun q J h => ⟨q, [0, 1], rfl, h, ⟨by decide, by decide, by decide⟩, by decide⟩) mn_is.mono) (eal_cons view_id mn_is.mono (ezv_L (xs := (List.replicate 20 0 : List Int).map V.int) view_id (el_repI (n := 20) (x := 0) ev_c ev_c (by decide)) (fun q J h => ⟨q, List.replicate 20 0, rfl, h, ⟨by decide, by decide, by decide⟩, by decide⟩) mn_is.mono) eal_nil)))) (by decide)) mn_is.mono rfl (by decide) fun H7 e7 T7 => ?_
    have e17 := e16.trans e7
    refine q_each (P := P) (w := w) (K := K) (mg := mg) (base := base) (Bd := RowIs 7 (fun ys => sq ys 0 ≠ 0)) (C := a_NoInside) (n := 1) (d := 7) T7 (ezx_of (ezn_lst (by decide) (ezn_cons (ezn_lam (fun f c' => lam_ask (x := "_law_row") (nscope_by rfl) (fun _ _ us hl => match us, hl with | [_], _ => rfl) fun A outer s H v Q E hr hB q => ⟨_, pe_cS X_put_in (hr.mono (by decide)) (fun σ => lam_passes σ) (pa_cons pe_int (pa_cons (pe_lst (pa_cons pe_int pa_nil)) (pa_cons (pv 0) pa_nil))), x_call (eap_cons ev_c (eap_consL (xs := ([1] : List Int).map V.int) (el_lst (ea_cons ev_c ea_nil) (by decide)) (eap_cons (ev_var rfl) eap_nil))) fun vs H1 e1 hP => by
        obtain ⟨_, rfl, aL, _, rfl, hL, _, _, rfl, rfl⟩ := hP
        obtain ⟨ab, ys, rfl, hb, Ry, hR⟩ := hB
        exact ⟨7, aL, ab, [1], ys, rfl, p7, hL, e1 _ _ hb, r1_, Ry, hR, fun H2 e2 => q H2 (e1.trans e2)⟩⟩) (fun _ => rfl) (fun _ => rfl))
      ezn_nil))) (by decide) (fun J eJ => exx_al (n := 3) (elp_al (φ := id) (Z := RowIs 7 (fun ys => sq ys 0 ≠ 0)) view_id mn_is.mono (by decide) (eal_cons view_id mn_is.mono (ezv_L (xs := ([1] : List Int).map V.int) view_id (el_lst (ea_cons ev_c ea_nil) (by show (1 : Nat) ≤ 100000; decide)) (fun q J h => ⟨q, [1], rfl, h, ⟨by decide, by decide, by decide⟩, by decide⟩) mn_is.mono) (eal_cons view_id mn_is.mono (ezv_L (xs := ([6, 0] : List Int).map V.int) view_id (el_lst (ea_cons ev_c (ea_cons ev_c ea_nil)) (by show (2 : Nat) ≤ 100000; decide)) (fun q J h => ⟨q, [6, 0], rfl, h, ⟨by decide, by decide, by decide⟩, by decide⟩) mn_is.mono) (eal_cons view_id mn_is.mono (ezv_L (xs := (List.replicate 20 1 : List Int).map V.int) view_id (el_repI (n := 20) (x := 1) ev_c ev_c (by decide)) (fun q J h => ⟨q, List.replicate 20 1, rfl, h, ⟨by decide, by decide, by decide⟩, by decide⟩) mn_is.mono) eal_nil)))) (by decide)) mn_is.mono rfl (by decide) fun H8 e8 T8 => ?_
    have e18 := e17.trans e8
    refine q_each (P := P) (w := w) (K := K) (mg := mg) (base := base) (Bd := RowIs 7 (fun ys => ys.length < 2 ∨ sq ys 0 ≠ 0 ∨ sq ys 1 = 0)) (C := a_NoInside) (n := 1) (d := 7) T8 (ezx_of (ezn_lst (by decide) (ezn_cons (ezn_lam (fun f c' => lam_ask (x := "_law_row") (nscope_by rfl) (fun _ _ us hl => match us, hl with | [_], _ => rfl) fun A outer s H v Q E hr hB q => ⟨_, pe_cS X_turned_out (hr.mono (by decide)) (fun σ => lam_passes σ) (pa_cons pe_int (pa_cons (pv 0) pa_nil)), x_call (eap_cons ev_c (eap_cons (ev_var rfl) eap_nil)) fun vs H1 e1 hP => by
        obtain ⟨_, rfl, _, rfl, rfl⟩ := hP
        obtain ⟨ab, ys, rfl, hb, Ry, hR⟩ := hB
        exact ⟨7, ab, ys, rfl, p7, e1 _ _ hb, Ry, hR, fun H2 e2 => q H2 (e1.trans e2)⟩⟩) (fun _ => rfl) (fun _ => rfl))
      ezn_nil))) (by decide) (fun J eJ => exx_al (n := 4) (elp_al (φ := id) (Z := RowIs 7 (fun ys => ys.length < 2 ∨ sq ys 0 ≠ 0 ∨ sq ys 1 = 0)) view_id mn_is.mono (by decide) (eal_cons view_id mn_is.mono (ezv_L (xs := ([0] : List Int).map V.int) view_id (el_lst (ea_cons ev_c ea_nil) (by show (1 : Nat) ≤ 100000; decide)) (fun q J h => ⟨q, [0], rfl, h, ⟨by decide, by decide, by decide⟩, by decide⟩) mn_is.mono) (eal_cons view_id mn_is.mono (ezv_L (xs := ([1] : List Int).map V.int) view_id (el_lst (ea_cons ev_c ea_nil) (by show (1 : Nat) ≤ 100000; decide)) (fun q J h => ⟨q, [1], rfl, h, ⟨by decide, by decide, by decide⟩, by decide⟩) mn_is.mono) (eal_cons view_id mn_is.mono (ezv_L (xs := ([1, 1] : List Int).map V.int) view_id (el_lst (ea_cons ev_c (ea_cons ev_c ea_nil)) (by show (2 : Nat) ≤ 100000; decide)) (fun q J h => ⟨q, [1, 1], rfl, h, ⟨by decide, by decide, by decide⟩, by decide⟩) mn_is.mono) (eal_cons view_id mn_is.mono (ezv_L (xs := ([0, 0, 1] : List Int).map V.int) view_id (el_lst (ea_cons ev_c (ea_cons ev_c (ea_cons ev_c ea_nil))) (by show (3 : Nat) ≤ 100000; decide)) (fun q J h => ⟨q, [0, 0, 1], rfl, h, ⟨by decide, by decide, by decide⟩, by decide⟩) mn_is.mono) eal_nil))))) (by decide)) mn_is.mono rfl (by decide) fun H9 e9 T9 => ?_
    have e19 := e18.trans e9
    refine q_each (P := P) (w := w) (K := K) (mg := mg) (base := base) (Bd := RowIs 7 (fun ys => lroot 7 (sq ys 0) = 0)) (C := a_NoRoot) (n := 1) (d := 8) T9 (ezx_of (ezn_lst (by decide) (ezn_cons (ezn_lam (fun f c' => lam_ask (x := "_law_row") (nscope_by rfl) (fun _ _ us hl => match us, hl with | [_], _ => rfl) fun A outer s H v Q E hr hB q => ⟨_, pe_cS X_root (hr.mono (by decide)) (fun σ => lam_passes σ) (pa_cons pe_int (pa_cons (pv 0) pa_nil)), x_call (eap_cons ev_c (eap_cons (ev_var rfl) eap_nil)) fun vs H1 e1 hP => by
        obtain ⟨_, rfl, _, rfl, rfl⟩ := hP
        obtain ⟨ab, ys, rfl, hb, Ry, hR⟩ := hB
        exact ⟨7, ab, ys, rfl, p7, e1 _ _ hb, Ry, .inr hR, fun H2 e2 => q H2 (e1.trans e2)⟩⟩) (fun _ => rfl) (fun _ => rfl))
      ezn_nil))) (by decide) (fun J eJ => exx_al (n := 4) (elp_al (φ := id) (Z := RowIs 7 (fun ys => lroot 7 (sq ys 0) = 0)) view_id mn_is.mono (by decide) (eal_cons view_id mn_is.mono (ezv_L (xs := ([0] : List Int).map V.int) view_id (el_lst (ea_cons ev_c ea_nil) (by show (1 : Nat) ≤ 100000; decide)) (fun q J h => ⟨q, [0], rfl, h, ⟨by decide, by decide, by decide⟩, by decide +kernel⟩) mn_is.mono) (eal_cons view_id mn_is.mono (ezv_L (xs := ([3, 1] : List Int).map V.int) view_id (el_lst (ea_cons ev_c (ea_cons ev_c ea_nil)) (by show (2 : Nat) ≤ 100000; decide)) (fun q J h => ⟨q, [3, 1], rfl, h, ⟨by decide, by decide, by decide⟩, by decide +kernel⟩) mn_is.mono) (eal_cons view_id mn_is.mono (ezv_L (xs := ([5] : List Int).map V.int) view_id (el_lst (ea_cons ev_c ea_nil) (by show (1 : Nat) ≤ 100000; decide)) (fun q J h => ⟨q, [5], rfl, h, ⟨by decide, by decide, by decide⟩, by decide +kernel⟩) mn_is.mono) (eal_cons view_id mn_is.mono (ezv_L (xs := (List.replicate 20 6 : List Int).map V.int) view_id (el_repI (n := 20) (x := 6) ev_c ev_c (by decide)) (fun q J h => ⟨q, List.replicate 20 6, rfl, h, ⟨by decide, by decide, by decide⟩, by decide +kernel⟩) mn_is.mono) eal_nil))))) (by decide)) mn_is.mono rfl (by decide) fun H10 e10 T10 => ?_
    have e110 := e19.trans e10
    refine q_each (P := P) (w := w) (K := K) (mg := mg) (base := base) (Bd := RowIs 2 (fun _ => True)) (C := a_NoRoot) (n := 1) (d := 8) T10 (ezx_of (ezn_lst (by decide) (ezn_cons (ezn_lam (fun f c' => lam_ask (x := "_law_row") (nscope_by rfl) (fun _ _ us hl => match us, hl with | [_], _ => rfl) fun A outer s H v Q E hr hB q => ⟨_, pe_cS X_root (hr.mono (by decide)) (fun σ => lam_passes σ) (pa_cons pe_int (pa_cons (pv 0) pa_nil)), x_call (eap_cons ev_c (eap_cons (ev_var rfl) eap_nil)) fun vs H1 e1 hP => by
        obtain ⟨_, rfl, _, rfl, rfl⟩ := hP
        obtain ⟨ab, ys, rfl, hb, Ry, hR⟩ := hB
        exact ⟨2, ab, ys, rfl, p2_, e1 _ _ hb, Ry, .inl rfl, fun H2 e2 => q H2 (e1.trans e2)⟩⟩) (fun _ => rfl) (fun _ => rfl))
      ezn_nil))) (by decide) (fun J eJ => exx_al (n := 3) (elp_al (φ := id) (Z := RowIs 2 (fun _ => True)) view_id mn_is.mono (by decide) (eal_cons view_id mn_is.mono (ezv_L (xs := ([0] : List Int).map V.int) view_id (el_lst (ea_cons ev_c ea_nil) (by show (1 : Nat) ≤ 100000; decide)) (fun q J h => ⟨q, [0], rfl, h, ⟨by decide, by decide, by decide⟩, trivial⟩) mn_is.mono) (eal_cons view_id mn_is.mono (ezv_L (xs := ([1] : List Int).map V.int) view_id (el_lst (ea_cons ev_c ea_nil) (by show (1 : Nat) ≤ 100000; decide)) (fun q J h => ⟨q, [1], rfl, h, ⟨by decide, by decide, by decide⟩, trivial⟩) mn_is.mono) (eal_cons view_id mn_is.mono (ezv_L (xs := ([1, 0, 1] : List Int).map V.int) view_id (el_lst (ea_cons ev_c (ea_cons ev_c (ea_cons ev_c ea_nil))) (by show (3 : Nat) ≤ 100000; decide)) (fun q J h => ⟨q, [1, 0, 1], rfl, h, ⟨by decide, by decide, by decide⟩, trivial⟩) mn_is.mono) eal_nil)))) (by decide)) mn_is.mono rfl (by decide) fun H11 e11 T11 => ?_
    have e111 := e110.trans e11
    exact s_retEach (P := P) (w := w) (K := K) (mg := mg) (base := base) (Bd := NumZ) (C := a_BadCount) (n := 1) (d := 2) T11 (ezx_of (ezn_lst (by decide) (ezn_cons (ezn_lam (fun f c' => lam_ask (x := "_law_many") (nscope_by rfl) (fun _ _ us hl => match us, hl with | [_], _ => rfl) fun A outer s H v Q E hr hB q => ⟨_, pe_cS X_raised_b (hr.mono (by decide)) (fun σ => lam_passes σ) (pa_cons pe_int (pa_cons (pe_lst (pa_cons pe_int (pa_cons pe_int pa_nil))) (pa_cons (pv 0) pa_nil))), x_call (eap_cons ev_c (eap_consL (xs := ([1, 2] : List Int).map V.int) (el_lst (ea_cons ev_c (ea_cons ev_c ea_nil)) (by decide)) (eap_cons (ev_var rfl) eap_nil))) fun vs H1 e1 hP => by
        obtain ⟨_, rfl, aL, _, rfl, hL, _, _, rfl, rfl⟩ := hP
        exact ⟨.int 7, .ref aL, v, rfl, .inr ⟨7, rfl, p7, .inr ⟨⟨aL, [1, 2], rfl, hL, r12_⟩, CountNo.ex e1 hB, fun H2 e2 => q H2 (e1.trans e2)⟩⟩⟩⟩) (fun _ => rfl) (fun _ => rfl))
      ezn_nil))) (by decide) (fun J eJ => exx_al (n := 9) (elp_nonum (φ := id) view_id (by walk_at "ev") h0) (by decide)) mn_num.mono rfl (by decide) fun H12 e12 T12 => q H12 ((N1.trans e111).trans e12) T12

/-! ### x != [1], of any x; lists, tuples of any sort -/
def rNeOne : R2 := fun x y H Q => ∃ b t, y = .ref b ∧ H b = some (.lst [.int 1]) ∧ AnyV H x t ∧ (∀ a xs, x = .ref a → H a = some (.lst xs) → ∀ v ∈ xs, Any H v) ∧ ∀ r, Q (.bl r) H
theorem eq_one {X : Cx} {pins : List (Addr × Obj)} {s : Shared} {σ : L2.St} {H : Hp} {x : V} {v : Value} {A : Around} {i : Int} {u : Tok} (I : Inv X pins σ H s) (rx : RelV x v) (h : Any H x) (hu : A.units < cLine) : ∃ e, SeqAt.EqAt A s v (.int i u) e := by
  obtain ⟨t, h⟩ := h
  cases h with
  | non =>
    cases rx
    exact ⟨_, SeqAt.EqAt.none_int _ _⟩
  | bl b =>
    cases rx
    exact ⟨_, SeqAt.EqAt.bool_int _ _ _⟩
  | int j =>
    obtain ⟨t, rfl⟩ := rx
    exact ⟨_, SeqAt.EqAt.int_int _ _ _ _⟩
  | str z =>
    obtain ⟨t, rfl⟩ := rx
    exact ⟨_, SeqAt.EqAt.str_int _ _ _ _⟩
  | lst h =>
    cases rx
    obtain ⟨_, its, n, _, _, e⟩ := I.lstM h
    exact ⟨_, SeqAt.EqAt.list_int _ _ ⟨_, e, rfl, _, rfl⟩ hu⟩
  | tup h =>
    cases rx
    obtain ⟨_, its, _, e⟩ := (show ObjOk X.prog X.w H s.heap _ (.tup _) from I.hok _ _ h)
    exact ⟨_, SeqAt.EqAt.tuple_int _ _ e hu⟩
  | dct h =>
    cases rx
    obtain ⟨_, _, vs, _, o, es, ep, e, ho, hd, _⟩ := (show ObjOk X.prog X.w H s.heap _ (.dK _) from I.hok _ _ h)
    exact ⟨_, eqAt_dict_int _ _ e ho.1 ⟨_, _, hd⟩ hu⟩
theorem op_neOne {X : Cx} (hu : X.A.units + 64 < cLine) : OpR X (compareOp .NotEq) rNeOne := by
  intro pins s σ H x y v u Q I rx ry h
  obtain ⟨b, t, rfl, hb, hx, hi, q⟩ := h
  obtain rfl : u = Value.ref b := ry
  obtain ⟨_, its, n, ri, hl, eb⟩ := I.lstM hb
  have hu0 : X.A.units < cLine := Nat.lt_of_le_of_lt (Nat.le_add_right _ _) hu
  have hu1 : X.A.units + 1 < cLine := Nat.lt_of_le_of_lt (Nat.add_le_add_left (by decide : 1 ≤ 64) _) hu
  have lb : s.heap.IsList b its.toArray := ⟨_, eb, rfl, _, rfl⟩
  have fin : ∀ r, SeqAt.RcNeAt X.A s v (.ref b) r → wpAny (model X.prog X.w) X.A (compareOp .NotEq v (.ref b)) (EP X pins σ Q) X.xe s := fun r hr => hr _ _ _ _ ⟨.bl r, H, I, rfl, q r⟩
  cases hx with
  | non =>
    cases rx
    exact fin _ (SeqAt.RcNeAt.none_list lb hu0)
  | bl c =>
    cases rx
    exact fin _ (SeqAt.RcNeAt.bool_list _ lb hu0)
  | int j =>
    obtain ⟨t, rfl⟩ := rx
    exact fin _ (SeqAt.RcNeAt.int_list _ _ lb hu0)
  | str z =>
    obtain ⟨t, rfl⟩ := rx
    exact fin _ (SeqAt.RcNeAt.str_list _ _ lb hu0)
  | @lst a xs h =>
    cases rx
    obtain ⟨_, its2, n2, r2, hl2, e2⟩ := I.lstM h
    have la : s.heap.IsList a its2.toArray := ⟨_, e2, rfl, _, rfl⟩
    by_cases hz : its2.length = its.length
    · obtain ⟨w1, e1, r1⟩ := ri.one
      obtain ⟨tk, r1⟩ : ∃ tk, w1 = .int 1 tk := r1
      subst e1
      subst r1
      obtain ⟨x0, hx0⟩ : ∃ x0, xs = [x0] := List.length_eq_one_iff.mp (by rw [hl2, hz]; rfl)
      subst hx0
      obtain ⟨v0, e0, k0⟩ := r2.one
      subst e0
      obtain ⟨e, he⟩ := eq_one (A := X.A.in1) (i := 1) (u := tk) I k0 (hi a _ rfl h x0 (List.mem_singleton.mpr rfl)) hu1
      exact fin _ (SeqAt.RcNeAt.lists (e := fun _ => e) la lb rfl hu0 fun j j1 j2 => by
        have j0 : j = 0 := Nat.lt_one_iff.mp j1
        subst j0
        exact he)
    · exact fin _ (SeqAt.RcNeAt.lists_lengths la lb (by rw [List.size_toArray, List.size_toArray]; exact bne_iff_ne.mpr hz) hu0)
  | @tup a xs h =>
    cases rx
    obtain ⟨_, its2, _, e2⟩ := (show ObjOk X.prog X.w H s.heap _ (.tup _) from I.hok _ _ h)
    exact fin _ (SeqAt.RcNeAt.tuple_list e2 lb hu0)
  | @dct a kvs h =>
    cases rx
    obtain ⟨_, _, vs, _, o, es, ep, e, ho, hd, _⟩ := (show ObjOk X.prog X.w H s.heap _ (.dK _) from I.hok _ _ h)
    exact fin _ (rcNe_dict_list e ho.1 ⟨_, _, hd⟩ lb hu0)

/-! ### no rules, no places, no counts, at each door -/
open LamX NdefX
def Tr : V → Hp → Prop := fun _ _ => True
theorem mono_tr : Mono Tr := fun _ _ _ _ _ => trivial
def AreZ (lo : Int) (b : Bool) (v : V) (J : Hp) : Prop := AreR J 7 lo 8 v b
theorem mono_are {lo : Int} {b : Bool} : Mono (AreZ lo b) := fun _ _ _ e h => AreR.ex e h
def BotZ (i : Int) (v : V) (J : Hp) : Prop := ∃ a vs, v = .ref a ∧ AreR J 7 1 8 (.ref a) true ∧ J a = some (.lst (.int i :: vs))
theorem mono_bot {i : Int} : Mono (BotZ i) := fun _ _ _ e ⟨a, vs, h1, h2, h3⟩ => ⟨a, vs, h1, h2.ex e, e _ _ h3⟩
theorem are_ints {lo : Int} {a : Addr} {xs : List Int} {J : Hp} {b : Bool} (h : J a = some (.lst (xs.map V.int))) (hl : xs.length ≤ 1000) (hb : b = ((decide (lo ≤ ((xs.map V.int).length : Int)) && decide (((xs.map V.int).length : Int) ≤ 8)) && (xs.map V.int).all (restB 7))) : AreR J 7 lo 8 (.ref a) b := .inl ⟨a, _, rfl, h, by rw [List.length_map]; exact hl, fun v hv => by
  obtain ⟨i, _, rfl⟩ := List.mem_map.mp hv
  exact ⟨_, .int i⟩, hb⟩
theorem rule_any {J : Hp} {x : V} {t : String} (h : AnyV J x t) (n : t ≠ "tuple") : RuleZ x J := .inl ⟨t, h, n, rfl⟩
theorem nol_are {v : V} {J : Hp} {lo : Int} (h : NoL 8 v J) : AreZ lo false v J := h lo
theorem nol_anyv {most : Nat} {v : V} {J : Hp} (h : NoL most v J) : ∃ t, AnyV J v t ∧ ∀ a xs, v = .ref a → J a = some (.lst xs) → ∀ u ∈ xs, Any J u := by
  rcases h 0 with ⟨a, vs, rfl, h1, _, h2, _⟩ | ⟨t, h1, h2, _⟩
  · refine ⟨_, .lst h1, fun b xs e hx => ?_⟩
    cases e
    rw [h1] at hx
    cases hx
    exact h2
  · refine ⟨t, h1, fun b xs e hx => ?_⟩
    subst e
    cases h1 with
    | lst k => exact absurd rfl h2
    | tup k =>
      rw [k] at hx
      cases hx
    | dct k =>
      rw [k] at hx
      cases hx
/-- a if x != [1] else b -/
theorem ez_ne1 {σ : L2.St} {H : Hp} {te tl ta tb : TE} {Z : V → Hp → Prop} {x : V} {t : String} (h : Ev te σ H x) (hl : EvL tl σ H [.int 1]) (hx : AnyV H x t) (hi : ∀ a xs, x = .ref a → H a = some (.lst xs) → ∀ v ∈ xs, Any H v) (ha : EvZ ta σ H Z) (hb : EvZ tb σ H Z) : EvZ (tIf (tTest (tOp rNeOne te tl)) ta tb) σ H Z := fun H1 e Q q =>
  h H1 e _ fun H2 e2 => hl H2 (e.trans e2) _ fun p H3 n3 e3 hp => by
    have ee := (e.trans e2).trans e3
    refine ⟨p, t, rfl, hp, hx.ex ee, fun a xs hxa hxs v hv => ?_, fun r => ⟨r, rfl, ?_⟩⟩
    · subst hxa
      cases hx with
      | lst k =>
        have k2 := ee _ _ k
        rw [hxs] at k2
        cases k2
        exact (hi a _ rfl k v hv).ex ee
      | tup k =>
        have k2 := ee _ _ k
        rw [hxs] at k2
        cases k2
      | dct k =>
        have k2 := ee _ _ k
        rw [hxs] at k2
        cases k2
    · cases r with
      | true => exact ha H3 ee Q fun v H4 e4 hz => q v H4 ((e2.trans e3).trans e4) hz
      | false => exact hb H3 ee Q fun v H4 e4 hz => q v H4 ((e2.trans e3).trans e4) hz
theorem Al.extN {Z : V → Hp → Prop} {n : Nat} {vs : List V} {H J : Hp} (m : MonoN Z) (e : ExtN H J) (h : Al Z n vs H) : Al Z n vs J := ⟨h.1, fun v hv => m _ _ _ e (h.2 v hv)⟩
theorem NumZ.within {lo hi : Int} {v : V} {J : Hp} (l : 0 ≤ lo) (h : NumZ v J) : WithinZ lo hi v J := ⟨h.1, CountNo.within h l⟩
theorem int_within {lo hi i : Int} {J : Hp} (h : hi < i ∨ i < lo) : WithinZ lo hi (.int i) J := ⟨⟨_, .int i⟩, by
  show (decide (lo ≤ i) && decide (i ≤ hi)) = false
  rcases h with h | h
  · rw [decide_eq_false (p := i ≤ hi) (by omega), Bool.and_false]
  · rw [decide_eq_false (p := lo ≤ i) (by omega), Bool.false_and]⟩
theorem ok71 : RuleOk 7 [1] [1] := ⟨by decide, by decide, by decide, by decide, by decide, by decide⟩
theorem ok_law_rules_right {f cc PP : Addr} {fd : FuncData} {T : List (Addr × Str)} (D : DatK K mg "_law_rules_right" s_law_rules_right ["_law_more"] f fd cc) {a_PRIMES : Addr} {t_MOST_CUT : Tok} {t_MOST_RULED : Tok} {t_MOST_PLACES : Tok} {t_MOST_TERMS : Tok} {a_PowerError : Addr} {a_BadPrime : Addr} {a_BadRow : Addr} {a_BadCount : Addr} {a_BadRule : Addr} {a_BadPlaces : Addr} {a_BadTerms : Addr} {a_NoPart : Addr} {a_NoInside : Addr} {a_NoRoot : Addr} {a_Answer : Addr} {a_Alike : Addr} {a_Unlike : Addr} {a_Ruled : Addr} {a_Barred : Addr} (B : Blt K mg a_PRIMES t_MOST_CUT t_MOST_RULED t_MOST_PLACES t_MOST_TERMS a_PowerError a_BadPrime a_BadRow a_BadCount a_BadRule a_BadPlaces a_BadTerms a_NoPart a_NoInside a_NoRoot a_Answer a_Alike a_Unlike a_Ruled a_Barred) (TB_law_rules_right : TabB base mg cc PP) (hm_law_rules_right : (PP, (("_law_rules_right" : Str) ++ ".<locals>." ++ "<lambda>" : Str)) ∈ T) (hu_law_rules_right : ∀ p ∈ T, p.1 = PP → p.2 = (("_law_rules_right" : Str) ++ ".<locals>." ++ "<lambda>" : Str))
    (C_law_no_numbers : Cal P w K mg base CX0 "_law_no_numbers" 1 ["_law_more"] spNoNum)
    (C_law_no_lists : Cal P w K mg base CX0 "_law_no_lists" 2 ["_law_more", "_law_most"] spNoLists)
    (C_law_each : Cal P w K mg base CX0 "_law_each" 17 ["_law_asks", "_law_things", "_law_due"] (spEach P w K mg base [a_BadPrime, a_BadRow, a_BadCount, a_BadRule, a_BadPlaces, a_BadTerms, a_NoPart, a_NoInside, a_NoRoot]))
    (X_opened_b : Cal P w K mg base (L2N.CX P w) "opened" 10 ["prime", "rule", "many"] (spNo3 a_BadPrime a_BadRule a_BadCount RuleNo RuleOkV CountNo400))
    (X_far_place_b : Cal P w K mg base (L2N.CX P w) "far_place" 10 ["prime", "rule", "at"] (spNo3 a_BadPrime a_BadRule a_BadCount RuleNo RuleOkV CountNoP))
    (X_alike_b : Cal P w K mg base (L2N.CX P w) "alike" 10 ["prime", "one", "other"] (spNo3 a_BadPrime a_BadRule a_BadRule RuleNo RuleOkV RuleNo))
    (X_tapped_b : Cal P w K mg base (L2N.CX P w) "tapped" 10 ["prime", "places", "many"] (spNo3 a_BadPrime a_BadPlaces a_BadCount PlacesNo PlacesOkV CountNo8)) : Cal P w K mg base CX0 "_law_rules_right" 20 ["_law_more"] (spMaker T) := by
  refine D.d.cal (D.c.ok sc_law_rules_right (fun vs H Q E h => ?_) (fun A outer s H vs Q E hr h => ?_))
  · obtain ⟨m, rfl, _⟩ := h
    rfl
  · obtain ⟨m, rfl, h0, hT, q⟩ := h
    refine ⟨_, (pss_cons (ps_set (i := 1) sc_law_rules_right.nd rfl (Or.inl rfl) (pe_lst (pa_cons pe_non (pa_cons pe_int (pa_cons pe_str (pa_cons (pe_tup pa_nil) (pa_cons (pe_tup (pa_cons (pe_lst (pa_cons pe_int pa_nil)) pa_nil)) (pa_cons (pe_tup (pa_cons (pe_lst (pa_cons pe_int pa_nil)) (pa_cons (pe_lst (pa_cons pe_int pa_nil)) (pa_cons (pe_lst pa_nil) pa_nil)))) (pa_cons (pe_lst (pa_cons (pe_lst (pa_cons pe_int pa_nil)) (pa_cons (pe_lst (pa_cons pe_int pa_nil)) pa_nil))) (pa_cons (pe_tup (pa_cons (pe_lst (pa_cons pe_int pa_nil)) (pa_cons (pe_lst pa_nil) pa_nil))) (pa_cons (pe_tup (pa_cons (pe_lst (pa_cons pe_int pa_nil)) (pa_cons (pe_lst (pa_cons pe_int (pa_cons pe_int pa_nil))) pa_nil))) (pa_cons (pe_tup (pa_cons (pe_lst (pa_cons pe_int pa_nil)) (pa_cons (pe_lst (pa_cons pe_int pa_nil)) pa_nil))) (pa_cons pe_dnewK pa_nil)))))))))))))
    (pss_cons (ps_for PassesOwn.never rfl (pi_list (pe_c0 C_law_no_lists (hr.mono (by decide)) (pa_cons (pv 0) (pa_cons pe_int pa_nil)))) (pg_name (i := 2) sc_law_rules_right.nd rfl (Or.inl rfl)) (pss_one (ps_expr (pe_bm PySem.F.plainAttrs_list PySem.F.slot_list_extend PySem.F.type_list_extend mt_extend (pv 1) (pa_cons (pe_lst (pa_cons (pe_tup (pa_cons (pv 2) (pa_cons (pe_lst (pa_cons pe_int pa_nil)) pa_nil))) (pa_cons (pe_tup (pa_cons (pe_lst (pa_cons pe_int pa_nil)) (pa_cons (pe_ifExp (pt_cmpR (r := rNeOne) (op_neOne hr.units) (pv 2) (pe_lst (pa_cons pe_int pa_nil)) (nomark _)) (pv 2) pe_non) pa_nil))) pa_nil))) pa_nil)))))
    (pss_cons (ps_set (i := 3) sc_law_rules_right.nd rfl (Or.inl rfl) (pe_lst (pa_cons (pe_lam (T := T) TB_law_rules_right rfl hm_law_rules_right hu_law_rules_right (free_of (sc := defScope s_law_rules_right) rfl (by decide +kernel))) (pa_cons (pe_lam (T := T) TB_law_rules_right rfl hm_law_rules_right hu_law_rules_right (free_of (sc := defScope s_law_rules_right) rfl (by decide +kernel))) (pa_cons (pe_lam (T := T) TB_law_rules_right rfl hm_law_rules_right hu_law_rules_right (free_of (sc := defScope s_law_rules_right) rfl (by decide +kernel))) pa_nil)))))
    (pss_cons (ps_if (pt_not (pt_val (pe_c0 C_law_each (hr.mono (by decide)) (pa_cons (pe_op op_cat (pv 3) (pe_lst (pa_cons (pe_lam (T := T) TB_law_rules_right rfl hm_law_rules_right hu_law_rules_right (free_of (sc := defScope s_law_rules_right) rfl (by decide +kernel))) pa_nil))) (pa_cons (pv 1) (pa_cons pe_int pa_nil)))))) (pss_one (ps_ret pe_bl)) pss_nil)
    (pss_cons (ps_set (i := 4) sc_law_rules_right.nd rfl (Or.inl rfl) (pe_c0 C_law_no_numbers (hr.mono (by decide)) (pa_cons (pv 0) pa_nil)))
    (pss_cons (ps_if (pt_not (pt_val (pe_c0 C_law_each (hr.mono (by decide)) (pa_cons (pe_lst (pa_cons (pe_lam (T := T) TB_law_rules_right rfl hm_law_rules_right hu_law_rules_right (free_of (sc := defScope s_law_rules_right) rfl (by decide +kernel))) pa_nil)) (pa_cons (pe_op op_cat (pv 4) (pe_lst (pa_cons pe_int (pa_cons (pe_op op_add pe_int (pv 0)) pa_nil)))) (pa_cons pe_int pa_nil)))))) (pss_one (ps_ret pe_bl)) pss_nil)
    (pss_cons (ps_if (pt_not (pt_val (pe_c0 C_law_each (hr.mono (by decide)) (pa_cons (pe_lst (pa_cons (pe_lam (T := T) TB_law_rules_right rfl hm_law_rules_right hu_law_rules_right (free_of (sc := defScope s_law_rules_right) rfl (by decide +kernel))) pa_nil)) (pa_cons (pv 4) (pa_cons pe_int pa_nil)))))) (pss_one (ps_ret pe_bl)) pss_nil)
    (pss_cons (ps_if (pt_not (pt_val (pe_c0 C_law_each (hr.mono (by decide)) (pa_cons (pe_lst (pa_cons (pe_lam (T := T) TB_law_rules_right rfl hm_law_rules_right hu_law_rules_right (free_of (sc := defScope s_law_rules_right) rfl (by decide +kernel))) pa_nil)) (pa_cons (pe_c0 C_law_no_lists (hr.mono (by decide)) (pa_cons (pv 0) (pa_cons pe_int pa_nil))) (pa_cons pe_int pa_nil)))))) (pss_one (ps_ret pe_bl)) pss_nil)
    (pss_one (ps_ret (pe_c0 C_law_each (hr.mono (by decide)) (pa_cons (pe_lst (pa_cons (pe_lam (T := T) TB_law_rules_right rfl hm_law_rules_right hu_law_rules_right (free_of (sc := defScope s_law_rules_right) rfl (by decide +kernel))) pa_nil)) (pa_cons (pe_op op_cat (pv 4) (pe_lst (pa_cons pe_int (pa_cons (pe_op op_add pe_int (pv 0)) pa_nil)))) (pa_cons pe_int pa_nil)))))))))))))), ?_⟩
    have M := mn_rule.mono
    refine q_asgGr (φ := id) (Z := RuleZ) (n := 11) view_id M (by decide) (eal_cons view_id M (ez_ev ev_c fun J _ => rule_any .non (by decide))
      (eal_cons view_id M (ez_ev ev_c fun J _ => rule_any (.int _) (by decide))
      (eal_cons view_id M (ez_ev ev_c fun J _ => rule_any (.str _) (by decide))
      (eal_cons view_id M (ezv_tup (Z := RuleZ) (R := Rn) view_id mono_n (fun vs J h => by obtain rfl := h; show (0 : Nat) ≤ 1000; decide) eapv_nil (fun vs p J h hR => by
        obtain rfl := hR
        exact .inr (.inl ⟨p, _, rfl, h, by show (0 : Nat) ≠ 2; decide, rfl⟩)))
      (eal_cons view_id M (ezv_tup (Z := RuleZ) (R := (Rc Tr Rn)) view_id (mono_c mono_tr mono_n) (fun vs J h => by obtain ⟨_, _, rfl, _, rfl⟩ := h; show (1 : Nat) ≤ 1000; decide) (eapv_cons view_id mono_tr (ezv_L (Z := Tr) (xs := ([1] : List Int).map V.int) view_id (el_lst (ea_cons ev_c ea_nil) (by show (1 : Nat) ≤ 100000; decide)) (fun _ _ _ => trivial) mono_tr) eapv_nil) (fun vs p J h hR => by
        obtain ⟨_, _, rfl, _, rfl⟩ := hR
        exact .inr (.inl ⟨p, _, rfl, h, by show (1 : Nat) ≠ 2; decide, rfl⟩)))
      (eal_cons view_id M (ezv_tup (Z := RuleZ) (R := (Rc Tr (Rc Tr (Rc Tr Rn)))) view_id (mono_c mono_tr (mono_c mono_tr (mono_c mono_tr mono_n))) (fun vs J h => by obtain ⟨_, _, rfl, _, _, _, rfl, _, _, _, rfl, _, rfl⟩ := h; show (3 : Nat) ≤ 1000; decide) (eapv_cons view_id mono_tr (ezv_L (Z := Tr) (xs := ([1] : List Int).map V.int) view_id (el_lst (ea_cons ev_c ea_nil) (by show (1 : Nat) ≤ 100000; decide)) (fun _ _ _ => trivial) mono_tr) (eapv_cons view_id mono_tr (ezv_L (Z := Tr) (xs := ([1] : List Int).map V.int) view_id (el_lst (ea_cons ev_c ea_nil) (by show (1 : Nat) ≤ 100000; decide)) (fun _ _ _ => trivial) mono_tr) (eapv_cons view_id mono_tr (ezv_L (Z := Tr) (xs := ([] : List Int).map V.int) view_id (el_lst ea_nil (by show (0 : Nat) ≤ 100000; decide)) (fun _ _ _ => trivial) mono_tr) eapv_nil))) (fun vs p J h hR => by
        obtain ⟨_, _, rfl, _, _, _, rfl, _, _, _, rfl, _, rfl⟩ := hR
        exact .inr (.inl ⟨p, _, rfl, h, by show (3 : Nat) ≠ 2; decide, rfl⟩)))
      (eal_cons view_id M (ezv_lst (Z := RuleZ) (R := (Rc Tr (Rc Tr Rn))) view_id (mono_c mono_tr (mono_c mono_tr mono_n)) (fun vs J h => by obtain ⟨_, _, rfl, _, _, _, rfl, _, rfl⟩ := h; show (2 : Nat) ≤ 1000; decide) (eapv_cons view_id mono_tr (ezv_L (Z := Tr) (xs := ([1] : List Int).map V.int) view_id (el_lst (ea_cons ev_c ea_nil) (by show (1 : Nat) ≤ 100000; decide)) (fun _ _ _ => trivial) mono_tr) (eapv_cons view_id mono_tr (ezv_L (Z := Tr) (xs := ([1] : List Int).map V.int) view_id (el_lst (ea_cons ev_c ea_nil) (by show (1 : Nat) ≤ 100000; decide)) (fun _ _ _ => trivial) mono_tr) eapv_nil)) (fun vs p J h _ => rule_any (.lst h) (by decide)))
      (eal_cons view_id M (ezv_tup (Z := RuleZ) (R := (Rc (AreZ 0 true) (Rc (AreZ 1 false) Rn))) view_id (mono_c mono_are (mono_c mono_are mono_n)) (fun vs J h => by obtain ⟨_, _, rfl, _, _, _, rfl, _, rfl⟩ := h; show (2 : Nat) ≤ 1000; decide) (eapv_cons view_id mono_are (ezv_L (Z := AreZ 0 true) (xs := ([1] : List Int).map V.int) view_id (el_lst (ea_cons ev_c ea_nil) (by show (1 : Nat) ≤ 100000; decide)) (fun p J h => are_ints h (by decide) (by decide +kernel)) mono_are) (eapv_cons view_id mono_are (ezv_L (Z := AreZ 1 false) (xs := ([] : List Int).map V.int) view_id (el_lst ea_nil (by show (0 : Nat) ≤ 100000; decide)) (fun p J h => are_ints h (by decide) (by decide +kernel)) mono_are) eapv_nil)) (fun vs p J h hR => by
        obtain ⟨u, _, rfl, hu, v, _, rfl, hv, rfl⟩ := hR
        exact .inr (.inr (.inl ⟨p, u, v, _, _, rfl, h, hu, hv, rfl, rfl⟩))))
      (eal_cons view_id M (ezv_tup (Z := RuleZ) (R := (Rc (AreZ 0 true) (Rc (BotZ (0)) Rn))) view_id (mono_c mono_are (mono_c mono_bot mono_n)) (fun vs J h => by obtain ⟨_, _, rfl, _, _, _, rfl, _, rfl⟩ := h; show (2 : Nat) ≤ 1000; decide) (eapv_cons view_id mono_are (ezv_L (Z := AreZ 0 true) (xs := ([1] : List Int).map V.int) view_id (el_lst (ea_cons ev_c ea_nil) (by show (1 : Nat) ≤ 100000; decide)) (fun p J h => are_ints h (by decide) (by decide +kernel)) mono_are) (eapv_cons view_id mono_bot (ezv_L (Z := BotZ (0)) (xs := ([0, 1] : List Int).map V.int) view_id (el_lst (ea_cons ev_c (ea_cons ev_c ea_nil)) (by show (2 : Nat) ≤ 100000; decide)) (fun p J h => ⟨p, _, rfl, are_ints h (by decide) (by decide +kernel), h⟩) mono_bot) eapv_nil)) (fun vs p J h hR => by
        obtain ⟨u, _, rfl, hu, v, _, rfl, ⟨a, us, rfl, h2, h3⟩, rfl⟩ := hR
        exact .inr (.inr (.inr ⟨p, u, a, _, us, rfl, h, hu, h2, h3, rfl⟩))))
      (eal_cons view_id M (ezv_tup (Z := RuleZ) (R := (Rc (AreZ 0 true) (Rc (BotZ (2)) Rn))) view_id (mono_c mono_are (mono_c mono_bot mono_n)) (fun vs J h => by obtain ⟨_, _, rfl, _, _, _, rfl, _, rfl⟩ := h; show (2 : Nat) ≤ 1000; decide) (eapv_cons view_id mono_are (ezv_L (Z := AreZ 0 true) (xs := ([1] : List Int).map V.int) view_id (el_lst (ea_cons ev_c ea_nil) (by show (1 : Nat) ≤ 100000; decide)) (fun p J h => are_ints h (by decide) (by decide +kernel)) mono_are) (eapv_cons view_id mono_bot (ezv_L (Z := BotZ (2)) (xs := ([2] : List Int).map V.int) view_id (el_lst (ea_cons ev_c ea_nil) (by show (1 : Nat) ≤ 100000; decide)) (fun p J h => ⟨p, _, rfl, are_ints h (by decide) (by decide +kernel), h⟩) mono_bot) eapv_nil)) (fun vs p J h hR => by
        obtain ⟨u, _, rfl, hu, v, _, rfl, ⟨a, us, rfl, h2, h3⟩, rfl⟩ := hR
        exact .inr (.inr (.inr ⟨p, u, a, _, us, rfl, h, hu, h2, h3, rfl⟩))))
      (eal_cons view_id M (ezv_dict view_id fun p J h => rule_any (.dct h) (by decide))
      eal_nil))))))))))) fun pf H1 nf e1 g1 => ?_
    obtain ⟨ff, hff, _⟩ := id g1
    have V1 : View H1 (fun J => Hw (id J) pf) := view_id.off hff
    refine q_forLPn (elp_nolists (φ := fun J => Hw (id J) pf) (m := m) (most := 8) V1 (by walk_at "ev") h0 (by decide)) (fun xs p i σ' H' => ∃ z2 z3 z4, σ' = [some (.int m), some (.ref pf), z2, z3, z4] ∧ Ex H H' ∧ Gr pf id RuleZ H' (11 + 2 * i) ∧ H' p = some (.lst xs) ∧ xs.length ≤ 31 ∧ (∀ v ∈ xs, NoL 8 v (Hw (id H') pf)) ∧ p ≠ pf)
      (fun xs p H2 np e2 hp hA => ⟨_, _, _, rfl, e1.trans e2, g1.ex (view_id (H := H)) M e2, hp, hA.1, hA.2, (ne_of_none hff np).symm⟩) (fun xs p i σ' H' _ hP => ?_) (fun xs p i x σ' H' hi hP => ?_) fun xs p σ' H' hP => ?_
    · obtain ⟨_, _, _, _, _, _, h, _⟩ := hP
      exact sq_of h
    · obtain ⟨z2, z3, z4, rfl, e, g, hp, hl, hb, ne⟩ := hP
      have il := (List.getElem?_eq_some_iff.mp hi).1
      have hx := hb x (List.mem_of_getElem? hi)
      obtain ⟨ff', hff', _⟩ := id g
      have V2 : View H' (fun J => Hw (id J) pf) := view_id.off hff'
      have hx2 : ∀ J, Ex H' J → ∀ lo, AreZ lo false x (Hw (id J) pf) := fun J eJ lo => nol_are (mono_nol _ _ _ (hw_ex eJ) hx)
      obtain ⟨tx, ht, hti⟩ := nol_anyv (mono_nol _ _ _ hw_le hx)
      refine s_extend (φ := id) (n := 11 + 2 * i) (m := 2) (view_id (H := H)) M (by omega) (ev_var rfl) g (eal_cons V2 M (ezv_tup (Z := RuleZ) (R := (Rc (AreZ 0 false) (Rc (AreZ 1 true) Rn))) V2 (mono_c mono_are (mono_c mono_are mono_n)) (fun vs J h => by obtain ⟨_, _, rfl, _, _, _, rfl, _, rfl⟩ := h; show (2 : Nat) ≤ 1000; decide) (eapv_cons V2 mono_are (ez_ev (ev_var rfl) fun J eJ => hx2 J eJ 0) (eapv_cons V2 mono_are (ezv_L (Z := AreZ 1 true) (xs := ([1] : List Int).map V.int) V2 (el_lst (ea_cons ev_c ea_nil) (by show (1 : Nat) ≤ 100000; decide)) (fun p J h => are_ints h (by decide) (by decide +kernel)) mono_are) eapv_nil)) (fun vs p J h hR => by
        obtain ⟨u, _, rfl, hu, v, _, rfl, hv, rfl⟩ := hR
        exact .inr (.inr (.inl ⟨p, u, v, _, _, rfl, h, hu, hv, rfl, rfl⟩))))
      (eal_cons V2 M (ezv_tup (Z := RuleZ) (R := (Rc (AreZ 0 true) (Rc (AreZ 1 false) Rn))) V2 (mono_c mono_are (mono_c mono_are mono_n)) (fun vs J h => by obtain ⟨_, _, rfl, _, _, _, rfl, _, rfl⟩ := h; show (2 : Nat) ≤ 1000; decide) (eapv_cons V2 mono_are (ezv_L (Z := AreZ 0 true) (xs := ([1] : List Int).map V.int) V2 (el_lst (ea_cons ev_c ea_nil) (by show (1 : Nat) ≤ 100000; decide)) (fun p J h => are_ints h (by decide) (by decide +kernel)) mono_are) (eapv_cons V2 mono_are (ez_ne1 (ev_var rfl) (el_lst (ea_cons ev_c ea_nil) (by decide)) ht hti (ez_ev (ev_var rfl) fun J eJ => hx2 J eJ 1) (ez_ev ev_c fun J _ => .inr ⟨_, .non, by decide, rfl⟩)) eapv_nil)) (fun vs p J h hR => by
        obtain ⟨u, _, rfl, hu, v, _, rfl, hv, rfl⟩ := hR
        exact .inr (.inr (.inl ⟨p, u, v, _, _, rfl, h, hu, hv, rfl, rfl⟩))))
      eal_nil)) fun H5 k1 k2 k3 g5 => ?_
      exact ⟨_, _, _, rfl, k1 H e nf, g5, k3 p _ ne hp, hl, fun v hv => mono_nol _ _ _ k2 (hb v hv), ne⟩
    obtain ⟨z2, z3, z4, rfl, e, ⟨fs, hfs, hA⟩, hp, hl, hb, ne⟩ := hP
    have hA1 : Al RuleZ 73 fs H' := ⟨by have := hA.1; omega, fun v hv => M _ _ _ hw_le (hA.2 v hv)⟩
    have T1 := hT.ext e
    have N1 : ExtN H H' := ExtN.of e
    refine q_asgN (P := P) (w := w) (K := K) (mg := mg) (base := base) (Bd := RuleZ) (C := a_BadRule) (n := 3) T1 (ezn_lst (by decide) (ezn_cons (ezn_lam (fun f c' => lam_ask (x := "_law_one") (nscope_by rfl) (fun _ _ us hl => match us, hl with | [_], _ => rfl) fun A outer s H v Q E hr hB q => ⟨_, pe_cS X_opened_b (hr.mono (by decide)) (fun σ => lam_passes σ) (pa_cons pe_int (pa_cons (pv 0) (pa_cons pe_non pa_nil))), x_call (eap_cons ev_c (eap_cons (ev_var rfl) (eap_cons ev_c eap_nil))) fun vs H1 e1 hP => by
        obtain ⟨_, rfl, _, rfl, _, rfl, rfl⟩ := hP
        exact ⟨.int 7, v, .non, rfl, .inr ⟨7, rfl, p7, .inl ⟨RuleNo.ex e1 hB, fun H2 e2 => q H2 (e1.trans e2)⟩⟩⟩⟩) (fun _ => rfl) (fun _ => rfl))
      (ezn_cons (ezn_lam (fun f c' => lam_ask (x := "_law_two") (nscope_by rfl) (fun _ _ us hl => match us, hl with | [_], _ => rfl) fun A outer s H v Q E hr hB q => ⟨_, pe_cS X_far_place_b (hr.mono (by decide)) (fun σ => lam_passes σ) (pa_cons pe_int (pa_cons (pv 0) (pa_cons pe_non pa_nil))), x_call (eap_cons ev_c (eap_cons (ev_var rfl) (eap_cons ev_c eap_nil))) fun vs H1 e1 hP => by
        obtain ⟨_, rfl, _, rfl, _, rfl, rfl⟩ := hP
        exact ⟨.int 7, v, .non, rfl, .inr ⟨7, rfl, p7, .inl ⟨RuleNo.ex e1 hB, fun H2 e2 => q H2 (e1.trans e2)⟩⟩⟩⟩) (fun _ => rfl) (fun _ => rfl))
      (ezn_cons (ezn_lam (fun f c' => lam_ask (x := "_law_this") (nscope_by rfl) (fun _ _ us hl => match us, hl with | [_], _ => rfl) fun A outer s H v Q E hr hB q => ⟨_, pe_cS X_alike_b (hr.mono (by decide)) (fun σ => lam_passes σ) (pa_cons pe_int (pa_cons (pv 0) (pa_cons pe_non pa_nil))), x_call (eap_cons ev_c (eap_cons (ev_var rfl) (eap_cons ev_c eap_nil))) fun vs H1 e1 hP => by
        obtain ⟨_, rfl, _, rfl, _, rfl, rfl⟩ := hP
        exact ⟨.int 7, v, .non, rfl, .inr ⟨7, rfl, p7, .inl ⟨RuleNo.ex e1 hB, fun H2 e2 => q H2 (e1.trans e2)⟩⟩⟩⟩) (fun _ => rfl) (fun _ => rfl))
      ezn_nil)))) fun l2 a2 H2 n2 e2 T2 h2 z2 v2 => ?_
    refine q_each (P := P) (w := w) (K := K) (mg := mg) (base := base) (Bd := RuleZ) (C := a_BadRule) (n := 4) (d := 3) T2 (ezx_of (ezn_cat (m := 3) (n := 1) rfl h2 z2 v2 (by decide) (ezn_lst (by decide) (ezn_cons (ezn_lam (fun f c' => lam_ask (x := "_law_that") (nscope_by rfl) (fun _ _ us hl => match us, hl with | [_], _ => rfl) fun A outer s H v Q E hr hB q => ⟨_, pe_cS X_alike_b (hr.mono (by decide)) (fun σ => lam_passes σ) (pa_cons pe_int (pa_cons (pe_tup (pa_cons (pe_lst (pa_cons pe_int pa_nil)) (pa_cons (pe_lst (pa_cons pe_int pa_nil)) pa_nil))) (pa_cons (pv 0) pa_nil))), x_call (eap_cons ev_c (eap_consR (xs := [1]) (ys := [1]) (er_tup (el_lst (ea_cons ev_c ea_nil) (by decide)) (el_lst (ea_cons ev_c ea_nil) (by decide))) (eap_cons (ev_var rfl) eap_nil))) fun vs H1 e1 hP => by
        obtain ⟨_, rfl, aR, aA, aB, _, rfl, hR, _, rfl, rfl⟩ := hP
        exact ⟨.int 7, .ref aR, v, rfl, .inr ⟨7, rfl, p7, .inr ⟨⟨aR, aA, aB, [1], [1], rfl, hR, ok71⟩, RuleNo.ex e1 hB, fun H2 e2 => q H2 (e1.trans e2)⟩⟩⟩⟩) (fun _ => rfl) (fun _ => rfl))
      ezn_nil)))) (by decide) (fun J eJ => exx_ev (ev_var rfl) fun J2 f2 => bads_of mn_rule ((e2.trans eJ).trans (ExtN.of f2)) hfs hA1 (by decide)) M rfl (by decide) fun H3 e3 T3 => ?_
    refine q_asgLP (elp_nonum (φ := id) view_id (by walk_at "ev") h0) fun ns pn H4 n4 e4 hn hN => ?_
    have T4 := T3.ext e4
    have e14 := (e2.trans e3).trans (ExtN.of e4)
    refine q_each (P := P) (w := w) (K := K) (mg := mg) (base := base) (Bd := WithinZ 0 400) (C := a_BadCount) (n := 1) (d := 2) T4 (ezx_of (ezn_lst (by decide) (ezn_cons (ezn_lam (fun f c' => lam_ask (x := "_law_many") (nscope_by rfl) (fun _ _ us hl => match us, hl with | [_], _ => rfl) fun A outer s H v Q E hr hB q => ⟨_, pe_cS X_opened_b (hr.mono (by decide)) (fun σ => lam_passes σ) (pa_cons pe_int (pa_cons (pe_tup (pa_cons (pe_lst (pa_cons pe_int pa_nil)) (pa_cons (pe_lst (pa_cons pe_int pa_nil)) pa_nil))) (pa_cons (pv 0) pa_nil))), x_call (eap_cons ev_c (eap_consR (xs := [1]) (ys := [1]) (er_tup (el_lst (ea_cons ev_c ea_nil) (by decide)) (el_lst (ea_cons ev_c ea_nil) (by decide))) (eap_cons (ev_var rfl) eap_nil))) fun vs H1 e1 hP => by
        obtain ⟨_, rfl, aR, aA, aB, _, rfl, hR, _, rfl, rfl⟩ := hP
        exact ⟨.int 7, .ref aR, v, rfl, .inr ⟨7, rfl, p7, .inr ⟨⟨aR, aA, aB, [1], [1], rfl, hR, ok71⟩, CountNoW.ex e1 hB, fun H2 e2 => q H2 (e1.trans e2)⟩⟩⟩⟩) (fun _ => rfl) (fun _ => rfl))
      ezn_nil))) (by decide) (fun J eJ => exx_al (n := 9 + 2) (elp_var (φ := id) (Z := WithinZ 0 400) (n := 9) (m := 2) view_id mn_within.mono (by decide) (ev_var rfl) (exn_lst eJ hn) (Al.extN mn_within eJ (Al.imp hN fun v hv => NumZ.within (by decide) hv)) (elp_al view_id mn_within.mono (by decide) (eal_cons view_id mn_within.mono (ez_ev (v := .int 401) ev_c fun J _ => int_within (.inl (by decide)))
      (eal_cons view_id mn_within.mono (ez_ev (v := .int (401 + m)) (ev_op ev_c (ev_var rfl) rv_I0) fun J _ => int_within (.inl (by omega)))
      eal_nil)))) (by decide)) mn_within.mono rfl (by decide) fun H5 e5 T5 => ?_
    refine q_each (P := P) (w := w) (K := K) (mg := mg) (base := base) (Bd := NumZ) (C := a_BadCount) (n := 1) (d := 2) T5 (ezx_of (ezn_lst (by decide) (ezn_cons (ezn_lam (fun f c' => lam_ask (x := "_law_at") (nscope_by rfl) (fun _ _ us hl => match us, hl with | [_], _ => rfl) fun A outer s H v Q E hr hB q => ⟨_, pe_cS X_far_place_b (hr.mono (by decide)) (fun σ => lam_passes σ) (pa_cons pe_int (pa_cons (pe_tup (pa_cons (pe_lst (pa_cons pe_int pa_nil)) (pa_cons (pe_lst (pa_cons pe_int pa_nil)) pa_nil))) (pa_cons (pv 0) pa_nil))), x_call (eap_cons ev_c (eap_consR (xs := [1]) (ys := [1]) (er_tup (el_lst (ea_cons ev_c ea_nil) (by decide)) (el_lst (ea_cons ev_c ea_nil) (by decide))) (eap_cons (ev_var rfl) eap_nil))) fun vs H1 e1 hP => by
        obtain ⟨_, rfl, aR, aA, aB, _, rfl, hR, _, rfl, rfl⟩ := hP
        exact ⟨.int 7, .ref aR, v, rfl, .inr ⟨7, rfl, p7, .inr ⟨⟨aR, aA, aB, [1], [1], rfl, hR, ok71⟩, CountNo.ex e1 hB, fun H2 e2 => q H2 (e1.trans e2)⟩⟩⟩⟩) (fun _ => rfl) (fun _ => rfl))
      ezn_nil))) (by decide) (fun J eJ => exx_ev (ev_var rfl) fun J2 f2 => bads_of mn_num ((e5.trans eJ).trans (ExtN.of f2)) hn hN (by decide)) mn_num.mono rfl (by decide) fun H6 e6 T6 => ?_
    refine q_each (P := P) (w := w) (K := K) (mg := mg) (base := base) (Bd := PlacesZ) (C := a_BadPlaces) (n := 1) (d := 4) T6 (ezx_of (ezn_lst (by decide) (ezn_cons (ezn_lam (fun f c' => lam_ask (x := "_law_places") (nscope_by rfl) (fun _ _ us hl => match us, hl with | [_], _ => rfl) fun A outer s H v Q E hr hB q => ⟨_, pe_cS X_tapped_b (hr.mono (by decide)) (fun σ => lam_passes σ) (pa_cons pe_int (pa_cons (pv 0) (pa_cons pe_non pa_nil))), x_call (eap_cons ev_c (eap_cons (ev_var rfl) (eap_cons ev_c eap_nil))) fun vs H1 e1 hP => by
        obtain ⟨_, rfl, _, rfl, _, rfl, rfl⟩ := hP
        exact ⟨.int 7, v, .non, rfl, .inr ⟨7, rfl, p7, .inl ⟨PlacesNo.ex e1 hB, fun H2 e2 => q H2 (e1.trans e2)⟩⟩⟩⟩) (fun _ => rfl) (fun _ => rfl))
      ezn_nil))) (by decide) (fun J eJ => exx_al (n := 31) (elp_imp (elp_nolists (φ := id) (m := m) (most := 24) view_id (by walk_at "ev") h0 (by decide)) fun vs J hA => Al.imp hA fun v hv => hv 0) (by decide)) mn_places.mono rfl (by decide) fun H7 e7 T7 => ?_
    have e47 := (e5.trans e6).trans e7
    exact s_retEach (P := P) (w := w) (K := K) (mg := mg) (base := base) (Bd := WithinZ 0 8) (C := a_BadCount) (n := 1) (d := 2) T7 (ezx_of (ezn_lst (by decide) (ezn_cons (ezn_lam (fun f c' => lam_ask (x := "_law_many") (nscope_by rfl) (fun _ _ us hl => match us, hl with | [_], _ => rfl) fun A outer s H v Q E hr hB q => ⟨_, pe_cS X_tapped_b (hr.mono (by decide)) (fun σ => lam_passes σ) (pa_cons pe_int (pa_cons (pe_lst (pa_cons pe_int (pa_cons pe_int pa_nil))) (pa_cons (pv 0) pa_nil))), x_call (eap_cons ev_c (eap_consL (xs := ([1, 2] : List Int).map V.int) (el_lst (ea_cons ev_c (ea_cons ev_c ea_nil)) (by decide)) (eap_cons (ev_var rfl) eap_nil))) fun vs H1 e1 hP => by
        obtain ⟨_, rfl, aL, _, rfl, hL, _, _, rfl, rfl⟩ := hP
        exact ⟨.int 7, .ref aL, v, rfl, .inr ⟨7, rfl, p7, .inr ⟨⟨aL, [1, 2], rfl, hL, by decide, by decide⟩, CountNoW.ex e1 hB, fun H2 e2 => q H2 (e1.trans e2)⟩⟩⟩⟩) (fun _ => rfl) (fun _ => rfl))
      ezn_nil))) (by decide) (fun J eJ => exx_al (n := 9 + 2) (elp_var (φ := id) (Z := WithinZ 0 8) (n := 9) (m := 2) view_id mn_within.mono (by decide) (ev_var rfl) (exn_lst (e47.trans eJ) hn) (Al.extN mn_within (e47.trans eJ) (Al.imp hN fun v hv => NumZ.within (by decide) hv)) (elp_al view_id mn_within.mono (by decide) (eal_cons view_id mn_within.mono (ez_ev (v := .int 9) ev_c fun J _ => int_within (.inl (by decide)))
      (eal_cons view_id mn_within.mono (ez_ev (v := .int (9 + m)) (ev_op ev_c (ev_var rfl) rv_I0) fun J _ => int_within (.inl (by omega)))
      eal_nil)))) (by decide)) mn_within.mono rfl (by decide) fun H8 e8 T8 => q H8 (((N1.trans e14).trans e47).trans e8) T8

/-! ### no terms, no counts of them -/
open LamX NdefX
def BadW (lo hi : Int) (v : V) (J : Hp) : Prop := Any J v ∧ withinB lo hi v = false
theorem mono_badw {lo hi : Int} : Mono (BadW lo hi) := fun _ _ _ e h => ⟨h.1.ex e, h.2⟩
theorem badw_int {lo hi i : Int} {J : Hp} (h : hi < i ∨ i < lo) : BadW lo hi (.int i) J := int_within h
def Tm3 (b : Bool) (v : V) (J : Hp) : Prop := TermR J 7 v b
theorem mono_tm3 {b : Bool} : Mono (Tm3 b) := fun _ _ _ e h => TermR.ex e h
theorem tm_any {J : Hp} {x : V} {t : String} (h : AnyV J x t) (n : t ≠ "tuple") : Tm3 false x J := .inl ⟨t, h, n, rfl⟩
theorem terms_any {J : Hp} {x : V} {t : String} (h : AnyV J x t) (n : t ≠ "list") : TermsZ x J := .inl ⟨t, h, n⟩
theorem terms0 {J : Hp} {a : Addr} (h : J a = some (.lst [])) : TermsZ (.ref a) J := .inr ⟨a, [], [], rfl, h, by decide, rfl, fun i v b h => by simp at h, rfl⟩
theorem terms1 {J : Hp} {a : Addr} {x : V} (h : J a = some (.lst [x])) (hx : Tm3 false x J) : TermsZ (.ref a) J := .inr ⟨a, [x], [false], rfl, h, by show (1 : Nat) ≤ 1000; decide, rfl, fun i v b h1 h2 => by
  match i, h1, h2 with
  | 0, h1, h2 =>
    cases h1
    cases h2
    exact hx, rfl⟩
theorem terms2 {J : Hp} {a : Addr} {x y : V} (h : J a = some (.lst [x, y])) (hx : Tm3 true x J) (hy : Tm3 false y J) : TermsZ (.ref a) J := .inr ⟨a, [x, y], [true, false], rfl, h, by show (2 : Nat) ≤ 1000; decide, rfl, fun i v b h1 h2 => by
  match i, h1, h2 with
  | 0, h1, h2 =>
    cases h1
    cases h2
    exact hx
  | 1, h1, h2 =>
    cases h1
    cases h2
    exact hy, rfl⟩
theorem terms7 {J : Hp} {a : Addr} {x : V} (h : J a = some (.lst (List.replicate 7 x))) (hx : Tm3 true x J) : TermsZ (.ref a) J := .inr ⟨a, List.replicate 7 x, List.replicate 7 true, rfl, h, by rw [List.length_replicate]; decide, rfl, fun i v b h1 h2 => by
  have v1 := (List.mem_replicate.mp (List.mem_of_getElem? h1)).2
  have b1 := (List.mem_replicate.mp (List.mem_of_getElem? h2)).2
  rw [v1, b1]
  exact hx, rfl⟩
/-- [x] * 7 -/
theorem ezv_rep7 {φ : Hp → Hp} {σ : L2.St} {H : Hp} {te : TE} {Z Z1 : V → Hp → Prop} (Vw : View H φ) (m1 : Mono Z1) (h : EvZ te σ H (fun v J => Z1 v (φ J))) (hz : ∀ x p J, J p = some (.lst (List.replicate 7 x)) → Z1 x J → Z (.ref p) J) : EvZ (tOp rRep (tLst (tCons te tNil)) (tC (.int 7))) σ H (fun v J => Z v (φ J)) := fun H1 e Q q =>
  h H1 e _ fun x H2 e2 hx => ⟨by show (1 : Nat) ≤ sizeLine; decide, fun l hl => ⟨l, 7, [x], rfl, rfl, upd_same, by decide, by decide, sz_of (by show (1 : Nat) * 7 ≤ 100000; decide), fun p hp => q (.ref p) _ ((e2.trans (Ex.new hl)).trans (Ex.new hp)) (hz x p _ (Vw.new _ p _ ((e.trans e2).trans (Ex.new hl)) hp) (m1 _ _ _ (Vw.ex _ _ ((Ex.new hl).trans (Ex.new hp))) hx))⟩⟩
/-- x = x + [..], to grow -/
theorem q_catGr {φ : Hp → Hp} {σ : L2.St} {H : Hp} {te : TE} {ta : TA} {Z : V → Hp → Prop} {D : Ends} {tz : TS} {i n m : Nat} {a : Addr} {fs : List V} (Vw : View H φ) (mz : Mono Z) (hn : n + m ≤ 1000) (h : Ev te σ H (.ref a)) (ha : H a = some (.lst fs)) (hf : Al Z n fs (φ H)) (h2 : EvAP ta σ H (fun vs J => Al Z m vs (φ J))) (k : ∀ p H1, H p = none → Ex H H1 → Gr p φ Z H1 (n + m) → tz D (σ.set i (some (.ref p))) H1) : tSeq (tAsg (tOp rCat te (tLst ta)) (gName i)) tz D σ H :=
  h H (Ex.refl H) _ fun H1 e1 => h2 H1 e1 _ fun vs H2 e2 hR => ⟨sz_of (by have := hR.1; omega), fun b hb => ⟨a, b, fs, vs, rfl, rfl, (Ex.new hb) _ _ (e2 _ _ (e1 _ _ ha)), upd_same, sz_of (by have := hf.1; have := hR.1; omega), fun p hp => k p _ (fresh_back ((e1.trans e2).trans (Ex.new hb)) hp) (((e1.trans e2).trans (Ex.new hb)).trans (Ex.new hp)) ⟨_, upd_same, by
    rw [Vw.loc]
    refine ⟨by rw [List.length_append]; have := hf.1; have := hR.1; omega, fun v hv => ?_⟩
    rcases List.mem_append.mp hv with hv | hv
    · exact mz _ _ _ (Ex.trans (Vw.ex _ _ ((e1.trans e2).trans (Ex.new hb))) (hw_new (Vw.non _ _ hp))) (hf.2 v hv)
    · exact mz _ _ _ (Ex.trans (Vw.ex _ _ (Ex.new hb)) (hw_new (Vw.non _ _ hp))) (hR.2 v hv)⟩⟩⟩
theorem tm_ok : TmOk 7 ⟨1, 1, 0⟩ := ⟨by decide, by decide, by decide⟩
def TermsOk7 (v : V) (J : Hp) : Prop := TermsOkV J 7 v
theorem mono_terms7 : Mono TermsOk7 := fun _ _ _ e h => TermsOkV.ex e h
def TmIs (v : V) (J : Hp) : Prop := ∃ r, v = .ref r ∧ J r = some (.tup [.int 1, .int 1, .int 0])
theorem mono_tmis : Mono TmIs := fun _ _ _ e ⟨r, h1, h2⟩ => ⟨r, h1, e _ _ h2⟩
theorem ez_terms7 {σ : L2.St} {H : Hp} : EvZ (tLst (tCons (tTup (tCons (tC (.int 1)) (tCons (tC (.int 1)) (tCons (tC (.int 0)) tNil)))) tNil)) σ H (fun v J => TermsOk7 v (id J)) := ezv_lst (R := Rc TmIs Rn) view_id (mono_c mono_tmis mono_n) (fun vs J h => by obtain ⟨_, _, rfl, _, rfl⟩ := h; show (1 : Nat) ≤ 1000; decide) (eapv_cons view_id mono_tmis (ezv_tup (R := Rc (Is (.int 1)) (Rc (Is (.int 1)) (Rc (Is (.int 0)) Rn))) view_id (mono_c mono_is (mono_c mono_is (mono_c mono_is mono_n))) (fun vs J h => by obtain ⟨_, _, rfl, _, _, _, rfl, _, _, _, rfl, _, rfl⟩ := h; show (3 : Nat) ≤ 1000; decide) (eapv_cons view_id mono_is (ezv_is ev_c) (eapv_cons view_id mono_is (ezv_is ev_c) (eapv_cons view_id mono_is (ezv_is ev_c) eapv_nil))) fun vs p J h hR => by
    obtain ⟨_, _, rfl, rfl, _, _, rfl, rfl, _, _, rfl, rfl, rfl⟩ := hR
    exact ⟨p, rfl, h⟩) eapv_nil) fun vs p J h hR => by
  obtain ⟨_, _, rfl, ⟨r, rfl, hr⟩, rfl⟩ := hR
  exact ⟨p, [r], [⟨1, 1, 0⟩], rfl, h, ⟨rfl, fun i t hi => by
    match i, hi with
    | 0, hi =>
      cases hi
      exact ⟨r, rfl, hr⟩⟩, fun t ht => by rw [List.mem_singleton.mp ht]; exact tm_ok, by decide, by decide⟩
theorem ez_terms7r {σ : L2.St} {H : Hp} : EvZ (tLst (tCons (tTup (tCons (tC (.int 1)) (tCons (tC (.int 1)) (tCons (tC (.int 0)) tNil)))) tNil)) σ H TermsOk7 := ez_terms7
theorem eap_consZ {σ : L2.St} {H : Hp} {te : TE} {tr : TA} {Z : V → Hp → Prop} {R : List V → Hp → Prop} (m : Mono Z) (h : EvZ te σ H Z) (hr : EvAP tr σ H R) : EvAP (tCons te tr) σ H (fun vs H2 => ∃ v r, vs = v :: r ∧ Z v H2 ∧ R r H2) := fun H1 e Q q =>
  h H1 e _ fun v H2 e2 hz => hr H2 (e.trans e2) _ fun vs H3 e3 hP => q (v :: vs) H3 (e2.trans e3) ⟨v, vs, rfl, m _ _ _ e3 hz, hP⟩
theorem ok_law_terms_right {f cc PP : Addr} {fd : FuncData} {T : List (Addr × Str)} (D : DatK K mg "_law_terms_right" s_law_terms_right ["_law_more"] f fd cc) {a_PRIMES : Addr} {t_MOST_CUT : Tok} {t_MOST_RULED : Tok} {t_MOST_PLACES : Tok} {t_MOST_TERMS : Tok} {a_PowerError : Addr} {a_BadPrime : Addr} {a_BadRow : Addr} {a_BadCount : Addr} {a_BadRule : Addr} {a_BadPlaces : Addr} {a_BadTerms : Addr} {a_NoPart : Addr} {a_NoInside : Addr} {a_NoRoot : Addr} {a_Answer : Addr} {a_Alike : Addr} {a_Unlike : Addr} {a_Ruled : Addr} {a_Barred : Addr} (B : Blt K mg a_PRIMES t_MOST_CUT t_MOST_RULED t_MOST_PLACES t_MOST_TERMS a_PowerError a_BadPrime a_BadRow a_BadCount a_BadRule a_BadPlaces a_BadTerms a_NoPart a_NoInside a_NoRoot a_Answer a_Alike a_Unlike a_Ruled a_Barred) (TB_law_terms_right : TabB base mg cc PP) (hm_law_terms_right : (PP, (("_law_terms_right" : Str) ++ ".<locals>." ++ "<lambda>" : Str)) ∈ T) (hu_law_terms_right : ∀ p ∈ T, p.1 = PP → p.2 = (("_law_terms_right" : Str) ++ ".<locals>." ++ "<lambda>" : Str))
    (C_law_no_numbers : Cal P w K mg base CX0 "_law_no_numbers" 1 ["_law_more"] spNoNum)
    (C_law_each : Cal P w K mg base CX0 "_law_each" 17 ["_law_asks", "_law_things", "_law_due"] (spEach P w K mg base [a_BadPrime, a_BadRow, a_BadCount, a_BadRule, a_BadPlaces, a_BadTerms, a_NoPart, a_NoInside, a_NoRoot]))
    (X_grown_b : Cal P w K mg base (L2N.CX P w) "grown" 10 ["prime", "terms", "many"] (spNo3 a_BadPrime a_BadTerms a_BadCount TermsNo TermsOkV CountNo20)) : Cal P w K mg base CX0 "_law_terms_right" 20 ["_law_more"] (spMaker T) := by
  refine D.d.cal (D.c.ok sc_law_terms_right (fun vs H Q E h => ?_) (fun A outer s H vs Q E hr h => ?_))
  · obtain ⟨m, rfl, _⟩ := h
    rfl
  · obtain ⟨m, rfl, h0, hT, q⟩ := h
    refine ⟨_, (pss_cons (ps_set (i := 1) sc_law_terms_right.nd rfl (Or.inl rfl) (pe_lst (pa_cons pe_non (pa_cons pe_int (pa_cons pe_str (pa_cons (pe_tup pa_nil) (pa_cons pe_dnewK (pa_cons (pe_lst pa_nil) (pa_cons (pe_op op_rep (pe_lst (pa_cons (pe_tup (pa_cons pe_int (pa_cons pe_int (pa_cons pe_int pa_nil)))) pa_nil)) pe_int) (pa_cons (pe_tup (pa_cons (pe_tup (pa_cons pe_int (pa_cons pe_int (pa_cons pe_int pa_nil)))) pa_nil)) (pa_cons (pe_lst (pa_cons pe_non pa_nil)) (pa_cons (pe_lst (pa_cons (pe_tup pa_nil) pa_nil)) (pa_cons (pe_lst (pa_cons (pe_tup (pa_cons pe_int (pa_cons pe_int pa_nil))) pa_nil)) pa_nil)))))))))))))
    (pss_cons (ps_set (i := 1) sc_law_terms_right.nd rfl (Or.inl rfl) (pe_op op_cat (pv 1) (pe_lst (pa_cons (pe_lst (pa_cons (pe_tup (pa_cons pe_int (pa_cons pe_int (pa_cons pe_int (pa_cons pe_int pa_nil))))) pa_nil)) (pa_cons (pe_lst (pa_cons (pe_lst (pa_cons pe_int (pa_cons pe_int (pa_cons pe_int pa_nil)))) pa_nil)) pa_nil)))))
    (pss_cons (ps_for PassesOwn.never rfl (pi_list (pe_op op_cat (pe_c0 C_law_no_numbers (hr.mono (by decide)) (pa_cons (pv 0) pa_nil)) (pe_lst (pa_cons pe_int (pa_cons (pe_op op_add pe_int (pv 0)) pa_nil))))) (pg_name (i := 2) sc_law_terms_right.nd rfl (Or.inl rfl)) (pss_one (ps_expr (pe_bm PySem.F.plainAttrs_list PySem.F.slot_list_extend PySem.F.type_list_extend mt_extend (pv 1) (pa_cons (pe_lst (pa_cons (pe_lst (pa_cons (pe_tup (pa_cons (pv 2) (pa_cons pe_int (pa_cons pe_int pa_nil)))) pa_nil)) (pa_cons (pe_lst (pa_cons (pe_tup (pa_cons pe_int (pa_cons pe_int (pa_cons pe_int pa_nil)))) (pa_cons (pe_tup (pa_cons (pv 2) (pa_cons pe_int (pa_cons pe_int pa_nil)))) pa_nil))) pa_nil))) pa_nil)))))
    (pss_cons (ps_for PassesOwn.never rfl (pi_list (pe_op op_cat (pe_c0 C_law_no_numbers (hr.mono (by decide)) (pa_cons (pv 0) pa_nil)) (pe_lst (pa_cons pe_int (pa_cons pe_int (pa_cons (pe_op op_add pe_int (pv 0)) pa_nil)))))) (pg_name (i := 2) sc_law_terms_right.nd rfl (Or.inl rfl)) (pss_one (ps_expr (pe_bm PySem.F.plainAttrs_list PySem.F.slot_list_append PySem.F.type_list_append mt_append (pv 1) (pa_cons (pe_lst (pa_cons (pe_tup (pa_cons pe_int (pa_cons (pv 2) (pa_cons pe_int pa_nil)))) pa_nil)) pa_nil)))))
    (pss_cons (ps_for PassesOwn.never rfl (pi_list (pe_op op_cat (pe_c0 C_law_no_numbers (hr.mono (by decide)) (pa_cons (pv 0) pa_nil)) (pe_lst (pa_cons pe_int (pa_cons (pe_op op_add pe_int (pv 0)) pa_nil))))) (pg_name (i := 2) sc_law_terms_right.nd rfl (Or.inl rfl)) (pss_one (ps_expr (pe_bm PySem.F.plainAttrs_list PySem.F.slot_list_append PySem.F.type_list_append mt_append (pv 1) (pa_cons (pe_lst (pa_cons (pe_tup (pa_cons pe_int (pa_cons pe_int (pa_cons (pv 2) pa_nil)))) pa_nil)) pa_nil)))))
    (pss_cons (ps_if (pt_not (pt_val (pe_c0 C_law_each (hr.mono (by decide)) (pa_cons (pe_lst (pa_cons (pe_lam (T := T) TB_law_terms_right rfl hm_law_terms_right hu_law_terms_right (free_of (sc := defScope s_law_terms_right) rfl (by decide +kernel))) pa_nil)) (pa_cons (pv 1) (pa_cons pe_int pa_nil)))))) (pss_one (ps_ret pe_bl)) pss_nil)
    (pss_one (ps_ret (pe_c0 C_law_each (hr.mono (by decide)) (pa_cons (pe_lst (pa_cons (pe_lam (T := T) TB_law_terms_right rfl hm_law_terms_right hu_law_terms_right (free_of (sc := defScope s_law_terms_right) rfl (by decide +kernel))) pa_nil)) (pa_cons (pe_op op_cat (pe_c0 C_law_no_numbers (hr.mono (by decide)) (pa_cons (pv 0) pa_nil)) (pe_lst (pa_cons pe_int (pa_cons pe_int (pa_cons (pe_op op_add pe_int (pv 0)) pa_nil))))) (pa_cons pe_int pa_nil)))))))))))), ?_⟩
    have M := mn_terms.mono
    refine q_asgLP (elp_al (φ := id) (Z := TermsZ) (n := 11) view_id M (by decide) (eal_cons view_id M (ez_ev ev_c fun J _ => terms_any .non (by decide))
      (eal_cons view_id M (ez_ev ev_c fun J _ => terms_any (.int _) (by decide))
      (eal_cons view_id M (ez_ev ev_c fun J _ => terms_any (.str _) (by decide))
      (eal_cons view_id M (ezv_tup (Z := TermsZ) (R := Rn) view_id mono_n (fun vs J h => by obtain rfl := h; show (0 : Nat) ≤ 1000; decide) eapv_nil (fun vs p J h hR => terms_any (.tup h) (by decide)))
      (eal_cons view_id M (ezv_dict view_id fun p J h => terms_any (.dct h) (by decide))
      (eal_cons view_id M (ezv_lst (Z := TermsZ) (R := Rn) view_id mono_n (fun vs J h => by rw [h]; exact Nat.zero_le _) eapv_nil (fun vs p J h hR => by
        obtain rfl := hR
        exact terms0 h))
      (eal_cons view_id M (ezv_rep7 (Z := TermsZ) (Z1 := Tm3 true) view_id mono_tm3 (ezv_tup (Z := (Tm3 true)) (R := (Rc (Is (.int 1)) (Rc (Is (.int 1)) (Rc (Is (.int 0)) Rn)))) view_id (mono_c mono_is (mono_c mono_is (mono_c mono_is mono_n))) (fun vs J h => by obtain ⟨_, _, rfl, _, _, _, rfl, _, _, _, rfl, _, rfl⟩ := h; show (3 : Nat) ≤ 1000; decide) (eapv_cons view_id mono_is (ezv_is ev_c) (eapv_cons view_id mono_is (ezv_is ev_c) (eapv_cons view_id mono_is (ezv_is ev_c) eapv_nil))) (fun vs p J h hR => by
        obtain ⟨_, _, rfl, rfl, _, _, rfl, rfl, _, _, rfl, rfl, rfl⟩ := hR
        exact .inr (.inr ⟨p, _, _, _, rfl, h, ⟨_, .int _⟩, ⟨_, .int _⟩, ⟨_, .int _⟩, by decide +kernel⟩))) fun x p J h hx => terms7 h hx)
      (eal_cons view_id M (ezv_tup (Z := TermsZ) (R := (Rc (Tm3 true) Rn)) view_id (mono_c mono_tm3 mono_n) (fun vs J h => by obtain ⟨_, _, rfl, _, rfl⟩ := h; show (1 : Nat) ≤ 1000; decide) (eapv_cons view_id mono_tm3 (ezv_tup (Z := (Tm3 true)) (R := (Rc (Is (.int 1)) (Rc (Is (.int 1)) (Rc (Is (.int 0)) Rn)))) view_id (mono_c mono_is (mono_c mono_is (mono_c mono_is mono_n))) (fun vs J h => by obtain ⟨_, _, rfl, _, _, _, rfl, _, _, _, rfl, _, rfl⟩ := h; show (3 : Nat) ≤ 1000; decide) (eapv_cons view_id mono_is (ezv_is ev_c) (eapv_cons view_id mono_is (ezv_is ev_c) (eapv_cons view_id mono_is (ezv_is ev_c) eapv_nil))) (fun vs p J h hR => by
        obtain ⟨_, _, rfl, rfl, _, _, rfl, rfl, _, _, rfl, rfl, rfl⟩ := hR
        exact .inr (.inr ⟨p, _, _, _, rfl, h, ⟨_, .int _⟩, ⟨_, .int _⟩, ⟨_, .int _⟩, by decide +kernel⟩))) eapv_nil) (fun vs p J h hR => terms_any (.tup h) (by decide)))
      (eal_cons view_id M (ezv_lst (Z := TermsZ) (R := Rc (Tm3 false) Rn) view_id (mono_c mono_tm3 mono_n) (fun vs J h => by obtain ⟨_, _, rfl, _, rfl⟩ := h; show (1 : Nat) ≤ 1000; decide) (eapv_cons view_id mono_tm3 (ez_ev ev_c fun J _ => tm_any .non (by decide)) eapv_nil) (fun vs p J h hR => by
        obtain ⟨x, _, rfl, hx, rfl⟩ := hR
        exact terms1 h hx))
      (eal_cons view_id M (ezv_lst (Z := TermsZ) (R := Rc (Tm3 false) Rn) view_id (mono_c mono_tm3 mono_n) (fun vs J h => by obtain ⟨_, _, rfl, _, rfl⟩ := h; show (1 : Nat) ≤ 1000; decide) (eapv_cons view_id mono_tm3 (ezv_tup (Z := (Tm3 false)) (R := Rn) view_id mono_n (fun vs J h => by obtain rfl := h; show (0 : Nat) ≤ 1000; decide) eapv_nil (fun vs p J h hR => by
        obtain rfl := hR
        exact .inr (.inl ⟨p, _, rfl, h, by show (0 : Nat) ≠ 3; decide, rfl⟩))) eapv_nil) (fun vs p J h hR => by
        obtain ⟨x, _, rfl, hx, rfl⟩ := hR
        exact terms1 h hx))
      (eal_cons view_id M (ezv_lst (Z := TermsZ) (R := Rc (Tm3 false) Rn) view_id (mono_c mono_tm3 mono_n) (fun vs J h => by obtain ⟨_, _, rfl, _, rfl⟩ := h; show (1 : Nat) ≤ 1000; decide) (eapv_cons view_id mono_tm3 (ezv_tup (Z := (Tm3 false)) (R := (Rc (Is (.int 1)) (Rc (Is (.int 1)) Rn))) view_id (mono_c mono_is (mono_c mono_is mono_n)) (fun vs J h => by obtain ⟨_, _, rfl, _, _, _, rfl, _, rfl⟩ := h; show (2 : Nat) ≤ 1000; decide) (eapv_cons view_id mono_is (ezv_is ev_c) (eapv_cons view_id mono_is (ezv_is ev_c) eapv_nil)) (fun vs p J h hR => by
        obtain ⟨_, _, rfl, _, _, _, rfl, _, rfl⟩ := hR
        exact .inr (.inl ⟨p, _, rfl, h, by show (2 : Nat) ≠ 3; decide, rfl⟩))) eapv_nil) (fun vs p J h hR => by
        obtain ⟨x, _, rfl, hx, rfl⟩ := hR
        exact terms1 h hx))
      eal_nil)))))))))))) fun f0 p0 H1 n1 e1 h1 hA0 => ?_
    refine q_catGr (φ := id) (Z := TermsZ) (n := 11) (m := 2) view_id M (by decide) (ev_var rfl) h1 hA0 (eal_cons view_id M (ezv_lst (Z := TermsZ) (R := Rc (Tm3 false) Rn) view_id (mono_c mono_tm3 mono_n) (fun vs J h => by obtain ⟨_, _, rfl, _, rfl⟩ := h; show (1 : Nat) ≤ 1000; decide) (eapv_cons view_id mono_tm3 (ezv_tup (Z := (Tm3 false)) (R := (Rc (Is (.int 1)) (Rc (Is (.int 1)) (Rc (Is (.int 0)) (Rc (Is (.int 0)) Rn))))) view_id (mono_c mono_is (mono_c mono_is (mono_c mono_is (mono_c mono_is mono_n)))) (fun vs J h => by obtain ⟨_, _, rfl, _, _, _, rfl, _, _, _, rfl, _, _, _, rfl, _, rfl⟩ := h; show (4 : Nat) ≤ 1000; decide) (eapv_cons view_id mono_is (ezv_is ev_c) (eapv_cons view_id mono_is (ezv_is ev_c) (eapv_cons view_id mono_is (ezv_is ev_c) (eapv_cons view_id mono_is (ezv_is ev_c) eapv_nil)))) (fun vs p J h hR => by
        obtain ⟨_, _, rfl, _, _, _, rfl, _, _, _, rfl, _, _, _, rfl, _, rfl⟩ := hR
        exact .inr (.inl ⟨p, _, rfl, h, by show (4 : Nat) ≠ 3; decide, rfl⟩))) eapv_nil) (fun vs p J h hR => by
        obtain ⟨x, _, rfl, hx, rfl⟩ := hR
        exact terms1 h hx))
      (eal_cons view_id M (ezv_lst (Z := TermsZ) (R := Rc (Tm3 false) Rn) view_id (mono_c mono_tm3 mono_n) (fun vs J h => by obtain ⟨_, _, rfl, _, rfl⟩ := h; show (1 : Nat) ≤ 1000; decide) (eapv_cons view_id mono_tm3 (ezv_lst (Z := (Tm3 false)) (R := (Rc (Is (.int 1)) (Rc (Is (.int 1)) (Rc (Is (.int 0)) Rn)))) view_id (mono_c mono_is (mono_c mono_is (mono_c mono_is mono_n))) (fun vs J h => by obtain ⟨_, _, rfl, _, _, _, rfl, _, _, _, rfl, _, rfl⟩ := h; show (3 : Nat) ≤ 1000; decide) (eapv_cons view_id mono_is (ezv_is ev_c) (eapv_cons view_id mono_is (ezv_is ev_c) (eapv_cons view_id mono_is (ezv_is ev_c) eapv_nil))) (fun vs p J h hR => tm_any (.lst h) (by decide))) eapv_nil) (fun vs p J h hR => by
        obtain ⟨x, _, rfl, hx, rfl⟩ := hR
        exact terms1 h hx))
      eal_nil)) fun pf H2 nf e2 g2 => ?_
    obtain ⟨ff, hff, _⟩ := id g2
    have V1 : View H2 (fun J => Hw (id J) pf) := view_id.off hff
    refine q_forLPn (elp_bad7 (φ := fun J => Hw (id J) pf) V1 (m := m) (i := 7) (j := 7 + m) (by walk_at "ev") h0 ev_c (ev_op ev_c (ev_var rfl) rv_I0) (by omega) (by omega)) (fun xs p i σ' H' => ∃ z2, σ' = [some (.int m), some (.ref pf), z2] ∧ Ex H1 H' ∧ Gr pf id TermsZ H' (13 + 2 * i) ∧ H' p = some (.lst xs) ∧ xs.length ≤ 11 ∧ (∀ v ∈ xs, Bad7 v (Hw (id H') pf)) ∧ p ≠ pf)
      (fun xs p J np f2 hp hA => ⟨_, rfl, e2.trans f2, Gr.ex (view_id (H := H)) M f2 g2, hp, hA.1, hA.2, (ne_of_none hff np).symm⟩) (fun xs p i σ' H' _ hP => ?_) (fun xs p i x σ' H' hi hP => ?_) fun xs p σ' K3 hP => ?_
    · obtain ⟨_, _, _, _, h, _⟩ := hP
      exact sq_of h
    · obtain ⟨z2, rfl, e, g, hp, hl, hb, ne⟩ := hP
      have il := (List.getElem?_eq_some_iff.mp hi).1
      have hx := hb x (List.mem_of_getElem? hi)
      obtain ⟨ff', hff', _⟩ := id g
      have V2 : View H' (fun J => Hw (id J) pf) := view_id.off hff'
      have hx2 : ∀ J, Ex H' J → Bad7 x (Hw (id J) pf) := fun J eJ => mono_bad7 _ _ _ (hw_ex eJ) hx
      refine s_extend (φ := id) (n := 13 + 2 * i) (m := 2) (view_id (H := H)) M (by omega) (ev_var rfl) g (eal_cons V2 M (ezv_lst (Z := TermsZ) (R := Rc (Tm3 false) Rn) V2 (mono_c mono_tm3 mono_n) (fun vs J h => by obtain ⟨_, _, rfl, _, rfl⟩ := h; show (1 : Nat) ≤ 1000; decide) (eapv_cons V2 mono_tm3 (ezv_tup (Z := (Tm3 false)) (R := (Rc Bad7 (Rc (Is (.int 1)) (Rc (Is (.int 0)) Rn)))) V2 (mono_c mono_bad7 (mono_c mono_is (mono_c mono_is mono_n))) (fun vs J h => by obtain ⟨_, _, rfl, _, _, _, rfl, _, _, _, rfl, _, rfl⟩ := h; show (3 : Nat) ≤ 1000; decide) (eapv_cons V2 mono_bad7 (ez_ev (ev_var rfl) hx2) (eapv_cons V2 mono_is (ezv_is ev_c) (eapv_cons V2 mono_is (ezv_is ev_c) eapv_nil))) (fun vs p J h hR => by
        obtain ⟨u, _, rfl, hu, _, _, rfl, rfl, _, _, rfl, rfl, rfl⟩ := hR
        exact .inr (.inr ⟨p, _, _, _, rfl, h, hu.1, ⟨_, .int _⟩, ⟨_, .int _⟩, by rw [hu.2, Bool.false_and]⟩))) eapv_nil) (fun vs p J h hR => by
        obtain ⟨x, _, rfl, hx, rfl⟩ := hR
        exact terms1 h hx))
      (eal_cons V2 M (ezv_lst (Z := TermsZ) (R := Rc (Tm3 true) (Rc (Tm3 false) Rn)) V2 (mono_c mono_tm3 (mono_c mono_tm3 mono_n)) (fun vs J h => by obtain ⟨_, _, rfl, _, _, _, rfl, _, rfl⟩ := h; show (2 : Nat) ≤ 1000; decide) (eapv_cons V2 mono_tm3 (ezv_tup (Z := (Tm3 true)) (R := (Rc (Is (.int 1)) (Rc (Is (.int 1)) (Rc (Is (.int 0)) Rn)))) V2 (mono_c mono_is (mono_c mono_is (mono_c mono_is mono_n))) (fun vs J h => by obtain ⟨_, _, rfl, _, _, _, rfl, _, _, _, rfl, _, rfl⟩ := h; show (3 : Nat) ≤ 1000; decide) (eapv_cons V2 mono_is (ezv_is ev_c) (eapv_cons V2 mono_is (ezv_is ev_c) (eapv_cons V2 mono_is (ezv_is ev_c) eapv_nil))) (fun vs p J h hR => by
        obtain ⟨_, _, rfl, rfl, _, _, rfl, rfl, _, _, rfl, rfl, rfl⟩ := hR
        exact .inr (.inr ⟨p, _, _, _, rfl, h, ⟨_, .int _⟩, ⟨_, .int _⟩, ⟨_, .int _⟩, by decide +kernel⟩))) (eapv_cons V2 mono_tm3 (ezv_tup (Z := (Tm3 false)) (R := (Rc Bad7 (Rc (Is (.int 1)) (Rc (Is (.int 1)) Rn)))) V2 (mono_c mono_bad7 (mono_c mono_is (mono_c mono_is mono_n))) (fun vs J h => by obtain ⟨_, _, rfl, _, _, _, rfl, _, _, _, rfl, _, rfl⟩ := h; show (3 : Nat) ≤ 1000; decide) (eapv_cons V2 mono_bad7 (ez_ev (ev_var rfl) hx2) (eapv_cons V2 mono_is (ezv_is ev_c) (eapv_cons V2 mono_is (ezv_is ev_c) eapv_nil))) (fun vs p J h hR => by
        obtain ⟨u, _, rfl, hu, _, _, rfl, rfl, _, _, rfl, rfl, rfl⟩ := hR
        exact .inr (.inr ⟨p, _, _, _, rfl, h, hu.1, ⟨_, .int _⟩, ⟨_, .int _⟩, by rw [hu.2, Bool.false_and]⟩))) eapv_nil)) (fun vs p J h hR => by
        obtain ⟨x, _, rfl, hx, y, _, rfl, hy, rfl⟩ := hR
        exact terms2 h hx hy))
      eal_nil)) fun H5 k1 k2 k3 g5 => ?_
      exact ⟨_, rfl, k1 H1 e nf, g5, k3 p _ ne hp, hl, fun v hv => mono_bad7 _ _ _ k2 (hb v hv), ne⟩
    obtain ⟨z2, rfl, e3, g3, hp3, hl3, hb3, ne3⟩ := hP
    clear hb3
    have g3w : Gr pf id TermsZ K3 35 := by
      obtain ⟨fs, h1, h2⟩ := g3
      exact ⟨fs, h1, by have := h2.1; omega, h2.2⟩
    clear g3 hp3
    obtain ⟨ff3, hff3, _⟩ := id g3w
    have V3 : View K3 (fun J => Hw (id J) pf) := view_id.off hff3
    refine q_forLPn (elp_cat2 (φ := fun J => Hw (id J) pf) (Z := BadW 1 4) (n := 9) (m := 3) V3 mono_badw (by decide) (elp_imp (elp_nonum V3 (by walk_at "ev") h0) fun vs J hA => Al.imp hA fun v hv => ⟨hv.1, CountNo.within hv (by decide)⟩) (elp_al V3 mono_badw (by decide) (eal_cons V3 mono_badw (ez_ev (v := .int 0) ev_c fun J _ => badw_int (.inr (by decide)))
      (eal_cons V3 mono_badw (ez_ev (v := .int 5) ev_c fun J _ => badw_int (.inl (by decide)))
      (eal_cons V3 mono_badw (ez_ev (v := .int (5 + m)) (ev_op ev_c (ev_var rfl) rv_I0) fun J _ => badw_int (.inl (by omega)))
      eal_nil))))) (fun xs p i σ' H' => ∃ z2, σ' = [some (.int m), some (.ref pf), z2] ∧ Ex H1 H' ∧ Gr pf id TermsZ H' (35 + 1 * i) ∧ H' p = some (.lst xs) ∧ xs.length ≤ 12 ∧ (∀ v ∈ xs, BadW 1 4 v (Hw (id H') pf)) ∧ p ≠ pf)
      (fun xs p J np f2 hp hA => ⟨_, rfl, e3.trans f2, Gr.ex (view_id (H := H)) M f2 g3w, hp, hA.1, hA.2, (ne_of_none hff3 np).symm⟩) (fun xs p i σ' H' _ hP => ?_) (fun xs p i x σ' H' hi hP => ?_) fun xs p σ' K4 hP => ?_
    · obtain ⟨_, _, _, _, h, _⟩ := hP
      exact sq_of h
    · obtain ⟨z2, rfl, e, g, hp, hl, hb, ne⟩ := hP
      have il := (List.getElem?_eq_some_iff.mp hi).1
      have hx := hb x (List.mem_of_getElem? hi)
      obtain ⟨ff', hff', _⟩ := id g
      have V2 : View H' (fun J => Hw (id J) pf) := view_id.off hff'
      have hx2 : ∀ J, Ex H' J → BadW 1 4 x (Hw (id J) pf) := fun J eJ => mono_badw _ _ _ (hw_ex eJ) hx
      refine s_appendZ (φ := id) (n := 35 + 1 * i) (view_id (H := H)) M (by omega) (ev_var rfl) g (ezv_lst (Z := TermsZ) (R := Rc (Tm3 false) Rn) V2 (mono_c mono_tm3 mono_n) (fun vs J h => by obtain ⟨_, _, rfl, _, rfl⟩ := h; show (1 : Nat) ≤ 1000; decide) (eapv_cons V2 mono_tm3 (ezv_tup (Z := (Tm3 false)) (R := (Rc (Is (.int 1)) (Rc (BadW 1 4) (Rc (Is (.int 0)) Rn)))) V2 (mono_c mono_is (mono_c mono_badw (mono_c mono_is mono_n))) (fun vs J h => by obtain ⟨_, _, rfl, _, _, _, rfl, _, _, _, rfl, _, rfl⟩ := h; show (3 : Nat) ≤ 1000; decide) (eapv_cons V2 mono_is (ezv_is ev_c) (eapv_cons V2 mono_badw (ez_ev (ev_var rfl) hx2) (eapv_cons V2 mono_is (ezv_is ev_c) eapv_nil))) (fun vs p J h hR => by
        obtain ⟨_, _, rfl, rfl, u, _, rfl, hu, _, _, rfl, rfl, rfl⟩ := hR
        exact .inr (.inr ⟨p, _, _, _, rfl, h, ⟨_, .int _⟩, hu.1, ⟨_, .int _⟩, by rw [hu.2, Bool.false_and, Bool.and_false]⟩))) eapv_nil) (fun vs p J h hR => by
        obtain ⟨x, _, rfl, hx, rfl⟩ := hR
        exact terms1 h hx)) fun H5 k1 k2 k3 g5 => ?_
      exact ⟨_, rfl, k1 H1 e nf, g5, k3 p _ ne hp, hl, fun v hv => mono_badw _ _ _ k2 (hb v hv), ne⟩
    obtain ⟨z2, rfl, e4, g4, hp4, hl4, hb4, ne4⟩ := hP
    clear hb4
    have g4w : Gr pf id TermsZ K4 47 := by
      obtain ⟨fs, h1, h2⟩ := g4
      exact ⟨fs, h1, by have := h2.1; omega, h2.2⟩
    clear g4 hp4
    obtain ⟨ff4, hff4, _⟩ := id g4w
    have V4 : View K4 (fun J => Hw (id J) pf) := view_id.off hff4
    refine q_forLPn (elp_cat2 (φ := fun J => Hw (id J) pf) (Z := BadW 0 3) (n := 9) (m := 2) V4 mono_badw (by decide) (elp_imp (elp_nonum V4 (by walk_at "ev") h0) fun vs J hA => Al.imp hA fun v hv => ⟨hv.1, CountNo.within hv (by decide)⟩) (elp_al V4 mono_badw (by decide) (eal_cons V4 mono_badw (ez_ev (v := .int 4) ev_c fun J _ => badw_int (.inl (by decide)))
      (eal_cons V4 mono_badw (ez_ev (v := .int (4 + m)) (ev_op ev_c (ev_var rfl) rv_I0) fun J _ => badw_int (.inl (by omega)))
      eal_nil)))) (fun xs p i σ' H' => ∃ z2, σ' = [some (.int m), some (.ref pf), z2] ∧ Ex H1 H' ∧ Gr pf id TermsZ H' (47 + 1 * i) ∧ H' p = some (.lst xs) ∧ xs.length ≤ 11 ∧ (∀ v ∈ xs, BadW 0 3 v (Hw (id H') pf)) ∧ p ≠ pf)
      (fun xs p J np f2 hp hA => ⟨_, rfl, e4.trans f2, Gr.ex (view_id (H := H)) M f2 g4w, hp, hA.1, hA.2, (ne_of_none hff4 np).symm⟩) (fun xs p i σ' H' _ hP => ?_) (fun xs p i x σ' H' hi hP => ?_) fun xs p σ' K5 hP => ?_
    · obtain ⟨_, _, _, _, h, _⟩ := hP
      exact sq_of h
    · obtain ⟨z2, rfl, e, g, hp, hl, hb, ne⟩ := hP
      have il := (List.getElem?_eq_some_iff.mp hi).1
      have hx := hb x (List.mem_of_getElem? hi)
      obtain ⟨ff', hff', _⟩ := id g
      have V2 : View H' (fun J => Hw (id J) pf) := view_id.off hff'
      have hx2 : ∀ J, Ex H' J → BadW 0 3 x (Hw (id J) pf) := fun J eJ => mono_badw _ _ _ (hw_ex eJ) hx
      refine s_appendZ (φ := id) (n := 47 + 1 * i) (view_id (H := H)) M (by omega) (ev_var rfl) g (ezv_lst (Z := TermsZ) (R := Rc (Tm3 false) Rn) V2 (mono_c mono_tm3 mono_n) (fun vs J h => by obtain ⟨_, _, rfl, _, rfl⟩ := h; show (1 : Nat) ≤ 1000; decide) (eapv_cons V2 mono_tm3 (ezv_tup (Z := (Tm3 false)) (R := (Rc (Is (.int 1)) (Rc (Is (.int 1)) (Rc (BadW 0 3) Rn)))) V2 (mono_c mono_is (mono_c mono_is (mono_c mono_badw mono_n))) (fun vs J h => by obtain ⟨_, _, rfl, _, _, _, rfl, _, _, _, rfl, _, rfl⟩ := h; show (3 : Nat) ≤ 1000; decide) (eapv_cons V2 mono_is (ezv_is ev_c) (eapv_cons V2 mono_is (ezv_is ev_c) (eapv_cons V2 mono_badw (ez_ev (ev_var rfl) hx2) eapv_nil))) (fun vs p J h hR => by
        obtain ⟨_, _, rfl, rfl, _, _, rfl, rfl, u, _, rfl, hu, rfl⟩ := hR
        exact .inr (.inr ⟨p, _, _, _, rfl, h, ⟨_, .int _⟩, ⟨_, .int _⟩, hu.1, by rw [hu.2, Bool.and_false, Bool.and_false]⟩))) eapv_nil) (fun vs p J h hR => by
        obtain ⟨x, _, rfl, hx, rfl⟩ := hR
        exact terms1 h hx)) fun H5 k1 k2 k3 g5 => ?_
      exact ⟨_, rfl, k1 H1 e nf, g5, k3 p _ ne hp, hl, fun v hv => mono_badw _ _ _ k2 (hb v hv), ne⟩
    obtain ⟨z2, rfl, e5, g5, hp5, hl5, hb5, ne5⟩ := hP
    clear hb5
    obtain ⟨fs, hfs, hA⟩ := g5
    have hA1 : Al TermsZ 58 fs K5 := ⟨by have := hA.1; omega, fun v hv => M _ _ _ hw_le (hA.2 v hv)⟩
    have e15 := e1.trans e5
    have T5 := hT.ext e15
    refine q_each (P := P) (w := w) (K := K) (mg := mg) (base := base) (Bd := TermsZ) (C := a_BadTerms) (n := 1) (d := 5) T5 (ezx_of (ezn_lst (by decide) (ezn_cons (ezn_lam (fun f c' => lam_ask (x := "_law_terms") (nscope_by rfl) (fun _ _ us hl => match us, hl with | [_], _ => rfl) fun A outer s H v Q E hr hB q => ⟨_, pe_cS X_grown_b (hr.mono (by decide)) (fun σ => lam_passes σ) (pa_cons pe_int (pa_cons (pv 0) (pa_cons pe_non pa_nil))), x_call (eap_cons ev_c (eap_cons (ev_var rfl) (eap_cons ev_c eap_nil))) fun vs H1 e1 hP => by
        obtain ⟨_, rfl, _, rfl, _, rfl, rfl⟩ := hP
        exact ⟨.int 7, v, .non, rfl, .inr ⟨7, rfl, p7, .inl ⟨TermsNo.ex e1 hB, fun H2 e2 => q H2 (e1.trans e2)⟩⟩⟩⟩) (fun _ => rfl) (fun _ => rfl))
      ezn_nil))) (by decide) (fun J eJ => exx_ev (ev_var rfl) fun J2 f2 => bads_of mn_terms (eJ.trans (ExtN.of f2)) hfs hA1 (by decide)) M rfl (by decide) fun H6 e6 T6 => ?_
    exact s_retEach (P := P) (w := w) (K := K) (mg := mg) (base := base) (Bd := WithinZ 1 20) (C := a_BadCount) (n := 1) (d := 2) T6 (ezx_of (ezn_lst (by decide) (ezn_cons (ezn_lam (fun f c' => lam_ask (x := "_law_many") (nscope_by rfl) (fun _ _ us hl => match us, hl with | [_], _ => rfl) fun A outer s H v Q E hr hB q => ⟨_, pe_cS X_grown_b (hr.mono (by decide)) (fun σ => lam_passes σ) (pa_cons pe_int (pa_cons (pe_lst (pa_cons (pe_tup (pa_cons pe_int (pa_cons pe_int (pa_cons pe_int pa_nil)))) pa_nil)) (pa_cons (pv 0) pa_nil))), x_call (eap_cons ev_c (eap_consZ mono_terms7 ez_terms7r (eap_cons (ev_var rfl) eap_nil))) fun vs H1 e1 hP => by
        obtain ⟨_, rfl, aT, _, rfl, hT, _, rfl, rfl⟩ := hP
        exact ⟨.int 7, aT, v, rfl, .inr ⟨7, rfl, p7, .inr ⟨hT, CountNoW.ex e1 hB, fun H2 e2 => q H2 (e1.trans e2)⟩⟩⟩⟩) (fun _ => rfl) (fun _ => rfl))
      ezn_nil))) (by decide) (fun J eJ => exx_al (n := 9 + 3) (elp_cat2 (φ := id) (Z := WithinZ 1 20) (n := 9) (m := 3) view_id mn_within.mono (by decide) (elp_imp (elp_nonum (φ := id) view_id (by walk_at "ev") h0) fun vs J hA => Al.imp hA fun v hv => NumZ.within (by decide) hv) (elp_al view_id mn_within.mono (by decide) (eal_cons view_id mn_within.mono (ez_ev (v := .int 0) ev_c fun J _ => int_within (.inr (by decide)))
      (eal_cons view_id mn_within.mono (ez_ev (v := .int 21) ev_c fun J _ => int_within (.inl (by decide)))
      (eal_cons view_id mn_within.mono (ez_ev (v := .int (21 + m)) (ev_op ev_c (ev_var rfl) rv_I0) fun J _ => int_within (.inl (by omega)))
      eal_nil))))) (by decide)) mn_within.mono rfl (by decide) fun H8 e8 T8 => q H8 (((ExtN.of e15).trans e6).trans e8) T8

/-! ### the law -/
open LamX NdefX
def spLaw (K : PySem.W.Frag) (T : List (Addr × Str)) : Sp := fun vs H Q _ => ∃ (a : Addr) (ns : List Int), vs = [.ref a] ∧ SqL K H a (ns.map V.int) ∧ (∀ z ∈ ns, Builtin.Int.intBits z ≤ 1048576) ∧ Tabs T H ∧ ∀ H', Q (.bl true) H'
theorem x_maker {T : List (Addr × Str)} {σ : L2.St} {H : Hp} {E : XK} {tA : TA} {m : Int} {Q : Bool → Hp → Prop} (h : EvA tA σ H [.int m]) (h0 : 0 ≤ m) (hT : Tabs T H) (k : ∀ H1, ExtN H H1 → Tabs T H1 → Q false H1) : tNot (tB (tCall (spMaker T) [] E tA)) σ H Q :=
  h H (Ex.refl H) _ fun H1 e1 => ⟨m, rfl, h0, hT.ext e1, fun H2 e2 T2 => ⟨true, rfl, k H2 ((ExtN.of e1).trans e2) T2⟩⟩
theorem x_two {T : List (Addr × Str)} {σ : L2.St} {H : Hp} {E E2 : XK} {tA tA2 : TA} {m : Int} {Q : Bool → Hp → Prop} (h : ∀ J, EvA tA σ J [.int m]) (h2 : ∀ J, EvA tA2 σ J [.int m]) (h0 : 0 ≤ m) (hT : Tabs T H) (k : ∀ H1, ExtN H H1 → Tabs T H1 → Q false H1) : tOr (tNot (tB (tCall (spMaker T) [] E tA))) (tNot (tB (tCall (spMaker T) [] E2 tA2))) σ H Q :=
  x_maker (h H) h0 hT fun H1 e1 T1 => show tNot (tB (tCall (spMaker T) [] E2 tA2)) σ H1 Q from x_maker (h2 H1) h0 T1 fun H2 e2 T2 => k H2 (e1.trans e2) T2
theorem q_two {T : List (Addr × Str)} {σ : L2.St} {H : Hp} {E E2 : XK} {tA tA2 : TA} {m : Int} {D : Ends} {tu tz : TS} (h : ∀ J, EvA tA σ J [.int m]) (h2 : ∀ J, EvA tA2 σ J [.int m]) (h0 : 0 ≤ m) (hT : Tabs T H) (k : ∀ H1, ExtN H H1 → Tabs T H1 → tz D σ H1) : tSeq (tIfS (tOr (tNot (tB (tCall (spMaker T) [] E tA))) (tNot (tB (tCall (spMaker T) [] E2 tA2)))) tu tNext) tz D σ H := x_two h h2 h0 hT k
theorem s_two {T : List (Addr × Str)} {σ : L2.St} {H : Hp} {E E2 : XK} {tA tA2 : TA} {m : Int} {D : Ends} {tu : TS} (h : ∀ J, EvA tA σ J [.int m]) (h2 : ∀ J, EvA tA2 σ J [.int m]) (h0 : 0 ≤ m) (hT : Tabs T H) (k : ∀ H1, ExtN H H1 → Tabs T H1 → D.nx σ H1) : tIfS (tOr (tNot (tB (tCall (spMaker T) [] E tA))) (tNot (tB (tCall (spMaker T) [] E2 tA2)))) tu tNext D σ H := x_two h h2 h0 hT k
/-- [term] * 6 -/
def Six (v : V) (J : Hp) : Prop := ∃ a r, v = .ref a ∧ J a = some (.lst (List.replicate 6 (V.ref r))) ∧ J r = some (.tup [.int 1, .int 1, .int 0])
theorem mono_six : Mono Six := fun _ _ _ e ⟨a, r, h1, h2, h3⟩ => ⟨a, r, h1, e _ _ h2, e _ _ h3⟩
theorem ez_six {σ : L2.St} {H : Hp} : EvZ (tOp rRep (tLst (tCons (tTup (tCons (tC (.int 1)) (tCons (tC (.int 1)) (tCons (tC (.int 0)) tNil)))) tNil)) (tC (.int 6))) σ H Six := fun H1 e Q q =>
  ⟨by show (3 : Nat) ≤ sizeLine; decide, fun r hr => ⟨by show (1 : Nat) ≤ sizeLine; decide, fun l hl => ⟨l, 6, [.ref r], rfl, rfl, upd_same, by decide, by decide, sz_of (by show (1 : Nat) * 6 ≤ 100000; decide), fun p hp => q (.ref p) _ (((Ex.new hr).trans (Ex.new hl)).trans (Ex.new hp)) ⟨p, r, rfl, upd_same, ((Ex.new hl).trans (Ex.new hp)) _ _ upd_same⟩⟩⟩⟩
theorem ok_law {f : Addr} {fd : FuncData} {T : List (Addr × Str)} (D : Dat K mg "law" s_law ["_law_script"] f fd) {a_PRIMES : Addr} {t_MOST_CUT : Tok} {t_MOST_RULED : Tok} {t_MOST_PLACES : Tok} {t_MOST_TERMS : Tok} {a_PowerError : Addr} {a_BadPrime : Addr} {a_BadRow : Addr} {a_BadCount : Addr} {a_BadRule : Addr} {a_BadPlaces : Addr} {a_BadTerms : Addr} {a_NoPart : Addr} {a_NoInside : Addr} {a_NoRoot : Addr} {a_Answer : Addr} {a_Alike : Addr} {a_Unlike : Addr} {a_Ruled : Addr} {a_Barred : Addr} (B : Blt K mg a_PRIMES t_MOST_CUT t_MOST_RULED t_MOST_PLACES t_MOST_TERMS a_PowerError a_BadPrime a_BadRow a_BadCount a_BadRule a_BadPlaces a_BadTerms a_NoPart a_NoInside a_NoRoot a_Answer a_Alike a_Unlike a_Ruled a_Barred)
    (C_law_primes_right : Cal P w K mg base CX0 "_law_primes_right" 20 ["_law_more"] (spMaker T)) (C_law_rows_right : Cal P w K mg base CX0 "_law_rows_right" 20 ["_law_more"] (spMaker T)) (C_law_rules_right : Cal P w K mg base CX0 "_law_rules_right" 20 ["_law_more"] (spMaker T)) (C_law_terms_right : Cal P w K mg base CX0 "_law_terms_right" 20 ["_law_more"] (spMaker T))
    (C_opened : Cal P w K mg base CX0 "opened" 10 ["prime", "rule", "many"] spOpened) (C_grown : Cal P w K mg base CX0 "grown" 10 ["prime", "terms", "many"] spGrown) (C_raised : Cal P w K mg base CX0 "raised" 10 ["prime", "row", "many"] spRaised) : FnOk P w K mg base CX0 30 f fd ["_law_script"] (spLaw K T) := by
  refine D.F.ok sc_law (fun vs H Q E h => ?_) (fun cdv A outer s H vs Q E hr h => ?_)
  · obtain ⟨a, ns, rfl, _⟩ := h
    rfl
  · obtain ⟨a, ns, rfl, ha, hbits, hT, q⟩ := h
    refine ⟨_, (pss_cons (ps_for PassesOwn.never rfl (pi_list (pe_op op_cat (pe_slice (r := rSlL K) sl_list (pv 0) po_none (po_some pe_int)) (pe_lst (pa_cons (pe_callB (r := rLenS K) call_len_seq (by rfl) B.len PySem.boot_len (pa_cons (pv 0) pa_nil)) pa_nil)))) (pg_name (i := 1) sc_law.nd rfl (Or.inl rfl)) (pss_cons (ps_set (i := 2) sc_law.nd rfl (Or.inl rfl) (pe_op op_mod (pe_callB call_abs (by rfl) B.abs (by decide +kernel) (pa_cons (pv 1) pa_nil)) (pe_op op_pow pe_int pe_int)))
    (pss_cons (ps_if (PW.pt (pw_or (pt_not (pt_val (pe_c0 C_law_primes_right (hr.mono (by decide)) (pa_cons (pv 2) pa_nil)))) (pw_or1 (pt_not (pt_val (pe_c0 C_law_rows_right (hr.mono (by decide)) (pa_cons (pv 2) pa_nil))))))) (pss_one (ps_ret pe_bl)) pss_nil)
    (pss_one (ps_if (PW.pt (pw_or (pt_not (pt_val (pe_c0 C_law_rules_right (hr.mono (by decide)) (pa_cons (pv 2) pa_nil)))) (pw_or1 (pt_not (pt_val (pe_c0 C_law_terms_right (hr.mono (by decide)) (pa_cons (pv 2) pa_nil))))))) (pss_one (ps_ret pe_bl)) pss_nil)))))
    (pss_one (ps_ret (pe_and (pe_cmpR op_eq (pe_callB (r := rLenS K) call_len_seq (by rfl) B.len PySem.boot_len (pa_cons (pe_c0 C_opened (hr.mono (by decide)) (pa_cons pe_int (pa_cons (pe_tup (pa_cons (pe_lst pa_nil) (pa_cons (pe_lst (pa_cons pe_int pa_nil)) pa_nil))) (pa_cons pe_int pa_nil)))) pa_nil)) pe_int (nomark _)) (pe_and (pe_cmpR op_eq (pe_ix (r := rIxL K) ix_list (pe_c0 C_grown (hr.mono (by decide)) (pa_cons pe_int (pa_cons (pe_op op_rep (pe_lst (pa_cons (pe_tup (pa_cons pe_int (pa_cons pe_int (pa_cons pe_int pa_nil)))) pa_nil)) pe_int) (pa_cons pe_int pa_nil)))) pe_int (fun _ _ => rfl)) pe_int (nomark _)) (pe_one (pe_cmpR (r := rEqD K) (op_eqD hr.units) (pe_c0 C_raised (hr.mono (by decide)) (pa_cons pe_int (pa_cons (pe_lst (pa_cons pe_int pa_nil)) (pa_cons pe_int pa_nil)))) (pe_lst (pa_cons pe_int pa_nil)) (nomark _)))))))), ?_⟩
    refine q_forNLn (xs := (ns.take 4 ++ [(ns.length : Int)]).map V.int) (el_is (el_catLL (xs := (ns.take 4).map V.int) (ys := ([(ns.length : Int)] : List Int).map V.int) (el_is (el_sl (ev_var rfl) eo_none (eo_some ev_c) ha) (cut_to ns 4)) (el_lst (ea_cons (ev_cb (by walk_at "ev") (rc_lenI ha)) ea_nil) (by show (1 : Nat) ≤ 100000; decide)) (by rw [List.length_map, List.length_take, List.length_map]; show min 4 ns.length + 1 ≤ 100000; omega)) (by rw [List.map_append]))
      (fun l i σ' H' => ∃ z1 z2, σ' = [some (.ref a), z1, z2] ∧ ExtN H H' ∧ Tabs T H' ∧ H' l = some (.lst ((ns.take 4 ++ [(ns.length : Int)]).map V.int)))
      (fun l H1 n1 e1 h1 => ⟨_, _, rfl, ExtN.of e1, hT.ext e1, h1⟩) (fun l i σ' H' _ hP => ?_) (fun l i x σ' H' hi hP => ?_) fun l σ' H' hP => ?_
    · obtain ⟨_, _, _, _, _, hl⟩ := hP
      exact sq_of hl
    · obtain ⟨z1, z2, rfl, e, hT1, hl⟩ := hP
      obtain ⟨c, rfl⟩ : ∃ c : Int, x = .int c := by
        rw [List.getElem?_map] at hi
        cases h : (ns.take 4 ++ [(ns.length : Int)])[i]? with
        | none =>
          rw [h] at hi
          cases hi
        | some c =>
          rw [h] at hi
          exact ⟨c, (Option.some.inj hi).symm⟩
      refine q_asg (v := .int (absI c % 10 ^ 20)) (ev_op (ev_cb (by walk_at "ev") rc_abs) (ev_op ev_c ev_c (rv_I (by exact ⟨by decide, by decide, by decide⟩))) (rv_I (by show (0 : Int) < 10 ^ (20 : Int).toNat; decide))) fun H1 e1 => ?_
      have h0 : (0 : Int) ≤ absI c % 10 ^ 20 := Int.emod_nonneg _ (by decide)
      generalize absI c % 10 ^ 20 = m at h0 ⊢
      refine q_two (fun J => ea_cons (ev_var rfl) ea_nil) (fun J => ea_cons (ev_var rfl) ea_nil) h0 (hT1.ext e1) fun H2 e2 T2 => ?_
      refine s_two (fun J => ea_cons (ev_var rfl) ea_nil) (fun J => ea_cons (ev_var rfl) ea_nil) h0 T2 fun H3 e3 T3 => ?_
      have ee := ((ExtN.of e1).trans e2).trans e3
      exact ⟨_, _, rfl, e.trans ee, T3, exn_lst ee hl⟩
    · obtain ⟨z1, z2, rfl, e, hT1, hl⟩ := hP
      have p97 : Prm 97 := by unfold Prm; decide
      have ok : RuleOk 97 [] [1] := ⟨by decide, by decide, by decide, by decide, by decide, by decide⟩
      obtain ⟨ss, hss⟩ : ∃ ss, ss = serL 97 [] [1] 400 := ⟨_, rfl⟩
      have ls : (ss.length : Int) = 400 := by rw [hss, serL_len]; rfl
      obtain ⟨gs, hgs⟩ : ∃ gs, gs = grA 7 (List.replicate 6 ⟨1, 1, 0⟩) 20 := ⟨_, rfl⟩
      have g1 : sq gs 1 = 6 ∧ 1 < gs.length := by rw [hgs]; decide +kernel
      have q2 : powL 2 [0] 0 = [1] := by decide +kernel
      have c1 : Ev (tCB (rLenS K) (tCons (tCall spOpened [] E0 (tCons (tC (.int 97)) (tCons (tTup (tCons (tLst tNil) (tCons (tLst (tCons (tC (.int 1)) tNil)) tNil))) (tCons (tC (.int 400)) tNil)))) tNil)) [some (.ref a), z1, z2] H' (.int 400) := by
        refine ev_cbL (xs := ss.map V.int) (el_callP (eap_cons ev_c (eap_consR (xs := []) (ys := [1]) (er_tup (el_lst ea_nil (by decide)) (el_lst (by walk_at "ev") (by decide))) (eap_cons ev_c eap_nil))) fun vs H9 e9 hP => ?_) fun p H9 h9 e9 => ?_
        · obtain ⟨_, rfl, r, ra, rb, _, rfl, hR, _, rfl, rfl⟩ := hP
          rw [hss]
          exact spl_opened (m := 400) p97 hR ok (by decide)
        · have g := rc_lenI (K := K) (sq_of h9)
          rw [ls] at g
          exact g
      have c2 : Ev (tOp (rIxL K) (tCall spGrown [] E0 (tCons (tC (.int 7)) (tCons (tOp rRep (tLst (tCons (tTup (tCons (tC (.int 1)) (tCons (tC (.int 1)) (tCons (tC (.int 0)) tNil)))) tNil)) (tC (.int 6))) (tCons (tC (.int 20)) tNil)))) (tC (.int 1))) [some (.ref a), z1, z2] H' (.int 6) := by
        refine ev_opL1 (xs := gs.map V.int) (el_callP (eap_cons ev_c (eap_consZ mono_six ez_six (eap_cons ev_c eap_nil))) fun vs H9 e9 hP => ?_) (fun _ _ => ev_c) fun p H9 h9 e9 => ?_
        · obtain ⟨_, rfl, v, _, rfl, ⟨t, r, rfl, h1, h2⟩, _, rfl, rfl⟩ := hP
          rw [hgs]
          refine spl_grown (n := 20) (rs := List.replicate 6 r) p7 (by rw [List.map_replicate]; exact h1) ⟨by rw [List.length_replicate, List.length_replicate], fun i u hi => ?_⟩ (fun u hu => by rw [(List.mem_replicate.mp hu).2]; exact tm_ok) (by decide) (by decide) (by decide) (by decide)
          have u1 := (List.mem_replicate.mp (List.mem_of_getElem? hi)).2
          have il := (List.getElem?_eq_some_iff.mp hi).1
          rw [List.length_replicate] at il
          exact ⟨r, by rw [List.getElem?_replicate, if_pos il], by rw [u1]; exact h2⟩
        · have g := rv_at (K := K) (ns := gs) (sq_of h9) (n := 1) rfl g1.2
          rw [g1.1] at g
          exact g
      have c3 : Ev (tOp (rEqD K) (tCall spRaised [] E0 (tCons (tC (.int 2)) (tCons (tLst (tCons (tC (.int 0)) tNil)) (tCons (tC (.int 0)) tNil)))) (tLst (tCons (tC (.int 1)) tNil))) [some (.ref a), z1, z2] H' (.bl true) := by
        refine ev_eqLL (xs := [1]) (el_is (el_callP (zs := (powL 2 [0] 0).map V.int) (eap_cons ev_c (eap_consL (xs := ([0] : List Int).map V.int) (el_lst (by walk_at "ev") (by decide)) (eap_cons ev_c eap_nil))) fun vs H9 e9 hP => ?_) (by rw [q2])) (el_lst (by walk_at "ev") (by decide))
        obtain ⟨_, rfl, t, _, rfl, ht, _, _, rfl, rfl⟩ := hP
        exact spl_raised (m := 0) p2_ ht ⟨by decide, by decide, by decide⟩ (by decide)
      exact s_ret (v := .bl true) (ev_andV (a := true) (b := true) (ev_eqN (i := 400) (j := 400) c1 ev_c) fun _ => ev_andV (a := true) (b := true) (ev_eqN (i := 6) (j := 6) c2 ev_c) fun _ => c3) fun H9 e9 => q H9

end
theorem all_mk {q : Program} {l : PySem.W.OpenLaw} {w : World} {K : PySem.W.Frag} {h : Heap} {mg : Str → Option Value} {fa : Addr} (X : K.In h) (G : h.Ns mainGlobals mg) (hfa : mg "law" = some (.ref fa)) (own : Owns q K mg h)
    {a_PRIMES : Addr} {dd_PRIMES : Option Addr} {its_PRIMES : Array Value} {n__PRIMES : Nat} {sl__PRIMES : Array (Option Value)}
    {t_MOST_CUT : Tok}
    {t_MOST_RULED : Tok}
    {t_MOST_PLACES : Tok}
    {t_MOST_TERMS : Tok}
    {a_PowerError : Addr}
    {a_BadPrime : Addr}
    {a_BadRow : Addr}
    {a_BadCount : Addr}
    {a_BadRule : Addr}
    {a_BadPlaces : Addr}
    {a_BadTerms : Addr}
    {a_NoPart : Addr}
    {a_NoInside : Addr}
    {a_NoRoot : Addr}
    {a_Answer : Addr}
    {a_Alike : Addr}
    {a_Unlike : Addr}
    {a_Ruled : Addr}
    {a_Barred : Addr}
    {f_is_number : Addr} {od_is_number an_is_number : Option Addr} {sl_is_number : Array (Option Value)} {oc_is_number kV_is_number dc_is_number pm_is_number cd_is_number ct_is_number : Value}
    {f_is_within : Addr} {od_is_within an_is_within : Option Addr} {sl_is_within : Array (Option Value)} {oc_is_within kV_is_within dc_is_within pm_is_within cd_is_within ct_is_within : Value}
    {f_is_rest : Addr} {od_is_rest an_is_rest : Option Addr} {sl_is_rest : Array (Option Value)} {oc_is_rest kV_is_rest dc_is_rest pm_is_rest cd_is_rest ct_is_rest : Value}
    {f_are_rests : Addr} {od_are_rests an_are_rests : Option Addr} {sl_are_rests : Array (Option Value)} {oc_are_rests kV_are_rests dc_are_rests pm_are_rests cd_are_rests ct_are_rests : Value}
    {f_is_rule : Addr} {od_is_rule an_is_rule : Option Addr} {sl_is_rule : Array (Option Value)} {oc_is_rule kV_is_rule dc_is_rule pm_is_rule cd_is_rule ct_is_rule : Value}
    {f_is_term : Addr} {od_is_term an_is_term : Option Addr} {sl_is_term : Array (Option Value)} {oc_is_term kV_is_term dc_is_term pm_is_term cd_is_term ct_is_term : Value}
    {f_are_terms : Addr} {od_are_terms an_are_terms : Option Addr} {sl_are_terms : Array (Option Value)} {oc_are_terms kV_are_terms dc_are_terms pm_are_terms cd_are_terms ct_are_terms : Value}
    {f_need_prime : Addr} {od_need_prime an_need_prime : Option Addr} {sl_need_prime : Array (Option Value)} {oc_need_prime kV_need_prime dc_need_prime pm_need_prime cd_need_prime ct_need_prime : Value}
    {f_need_row : Addr} {od_need_row an_need_row : Option Addr} {sl_need_row : Array (Option Value)} {oc_need_row kV_need_row dc_need_row pm_need_row cd_need_row ct_need_row : Value}
    {f_need_prime_and_rows : Addr} {od_need_prime_and_rows an_need_prime_and_rows : Option Addr} {sl_need_prime_and_rows : Array (Option Value)} {oc_need_prime_and_rows kV_need_prime_and_rows dc_need_prime_and_rows pm_need_prime_and_rows cd_need_prime_and_rows ct_need_prime_and_rows : Value}
    {f_need_rule : Addr} {od_need_rule an_need_rule : Option Addr} {sl_need_rule : Array (Option Value)} {oc_need_rule kV_need_rule dc_need_rule pm_need_rule cd_need_rule ct_need_rule : Value}
    {f_need_places : Addr} {od_need_places an_need_places : Option Addr} {sl_need_places : Array (Option Value)} {oc_need_places kV_need_places dc_need_places pm_need_places cd_need_places ct_need_places : Value}
    {f_need_terms : Addr} {od_need_terms an_need_terms : Option Addr} {sl_need_terms : Array (Option Value)} {oc_need_terms kV_need_terms dc_need_terms pm_need_terms cd_need_terms ct_need_terms : Value}
    {f_need_count : Addr} {od_need_count an_need_count : Option Addr} {sl_need_count : Array (Option Value)} {oc_need_count kV_need_count dc_need_count pm_need_count cd_need_count ct_need_count : Value}
    {f_need_count_within : Addr} {od_need_count_within an_need_count_within : Option Addr} {sl_need_count_within : Array (Option Value)} {oc_need_count_within kV_need_count_within dc_need_count_within pm_need_count_within cd_need_count_within ct_need_count_within : Value}
    {f_inverse : Addr} {od_inverse an_inverse : Option Addr} {sl_inverse : Array (Option Value)} {oc_inverse kV_inverse dc_inverse pm_inverse cd_inverse ct_inverse : Value}
    {f_plus : Addr} {od_plus an_plus : Option Addr} {sl_plus : Array (Option Value)} {oc_plus kV_plus dc_plus pm_plus cd_plus ct_plus : Value}
    {f_times : Addr} {od_times an_times : Option Addr} {sl_times : Array (Option Value)} {oc_times kV_times dc_times pm_times cd_times ct_times : Value}
    {f_parted : Addr} {od_parted an_parted : Option Addr} {sl_parted : Array (Option Value)} {oc_parted kV_parted dc_parted pm_parted cd_parted ct_parted : Value}
    {f_product : Addr} {od_product an_product : Option Addr} {sl_product : Array (Option Value)} {oc_product kV_product dc_product pm_product cd_product ct_product : Value}
    {f_product_place : Addr} {od_product_place an_product_place : Option Addr} {sl_product_place : Array (Option Value)} {oc_product_place kV_product_place dc_product_place pm_product_place cd_product_place ct_product_place : Value}
    {f_quotient : Addr} {od_quotient an_quotient : Option Addr} {sl_quotient : Array (Option Value)} {oc_quotient kV_quotient dc_quotient pm_quotient cd_quotient ct_quotient : Value}
    {f_first_places : Addr} {od_first_places an_first_places : Option Addr} {sl_first_places : Array (Option Value)} {oc_first_places kV_first_places dc_first_places pm_first_places cd_first_places ct_first_places : Value}
    {f_tapped : Addr} {od_tapped an_tapped : Option Addr} {sl_tapped : Array (Option Value)} {oc_tapped kV_tapped dc_tapped pm_tapped cd_tapped ct_tapped : Value}
    {f_put_in : Addr} {od_put_in an_put_in : Option Addr} {sl_put_in : Array (Option Value)} {oc_put_in kV_put_in dc_put_in pm_put_in cd_put_in ct_put_in : Value}
    {f_turned_out : Addr} {od_turned_out an_turned_out : Option Addr} {sl_turned_out : Array (Option Value)} {oc_turned_out kV_turned_out dc_turned_out pm_turned_out cd_turned_out ct_turned_out : Value}
    {f_solved : Addr} {od_solved an_solved : Option Addr} {sl_solved : Array (Option Value)} {oc_solved kV_solved dc_solved pm_solved cd_solved ct_solved : Value}
    {f_grown : Addr} {od_grown an_grown : Option Addr} {sl_grown : Array (Option Value)} {oc_grown kV_grown dc_grown pm_grown cd_grown ct_grown : Value}
    {f_term_sum : Addr} {od_term_sum an_term_sum : Option Addr} {sl_term_sum : Array (Option Value)} {oc_term_sum kV_term_sum dc_term_sum pm_term_sum cd_term_sum ct_term_sum : Value}
    {f_raised : Addr} {od_raised an_raised : Option Addr} {sl_raised : Array (Option Value)} {oc_raised kV_raised dc_raised pm_raised cd_raised ct_raised : Value}
    {f_lesser_count : Addr} {od_lesser_count an_lesser_count : Option Addr} {sl_lesser_count : Array (Option Value)} {oc_lesser_count kV_lesser_count dc_lesser_count pm_lesser_count cd_lesser_count ct_lesser_count : Value}
    {f_root : Addr} {od_root an_root : Option Addr} {sl_root : Array (Option Value)} {oc_root kV_root dc_root pm_root cd_root ct_root : Value}
    {f_lesser_root : Addr} {od_lesser_root an_lesser_root : Option Addr} {sl_lesser_root : Array (Option Value)} {oc_lesser_root kV_lesser_root dc_lesser_root pm_lesser_root cd_lesser_root ct_lesser_root : Value}
    {f_opened : Addr} {od_opened an_opened : Option Addr} {sl_opened : Array (Option Value)} {oc_opened kV_opened dc_opened pm_opened cd_opened ct_opened : Value}
    {f_far_place : Addr} {od_far_place an_far_place : Option Addr} {sl_far_place : Array (Option Value)} {oc_far_place kV_far_place dc_far_place pm_far_place cd_far_place ct_far_place : Value}
    {f_alike : Addr} {od_alike an_alike : Option Addr} {sl_alike : Array (Option Value)} {oc_alike kV_alike dc_alike pm_alike cd_alike ct_alike : Value}
    {f_law_refused : Addr} {od_law_refused an_law_refused : Option Addr} {sl_law_refused : Array (Option Value)} {oc_law_refused kV_law_refused dc_law_refused pm_law_refused cd_law_refused ct_law_refused : Value}
    {f_law_each : Addr} {od_law_each an_law_each : Option Addr} {sl_law_each : Array (Option Value)} {oc_law_each kV_law_each dc_law_each pm_law_each cd_law_each ct_law_each : Value}
    {f_law_no_numbers : Addr} {od_law_no_numbers an_law_no_numbers : Option Addr} {sl_law_no_numbers : Array (Option Value)} {oc_law_no_numbers kV_law_no_numbers dc_law_no_numbers pm_law_no_numbers cd_law_no_numbers ct_law_no_numbers : Value}
    {f_law_no_lists : Addr} {od_law_no_lists an_law_no_lists : Option Addr} {sl_law_no_lists : Array (Option Value)} {oc_law_no_lists kV_law_no_lists dc_law_no_lists pm_law_no_lists cd_law_no_lists ct_law_no_lists : Value}
    {f_law_primes_right : Addr} {od_law_primes_right an_law_primes_right : Option Addr} {sl_law_primes_right : Array (Option Value)} {oc_law_primes_right kV_law_primes_right dc_law_primes_right pm_law_primes_right ct_law_primes_right : Value} {cc_law_primes_right PP_law_primes_right : Addr} {dd_cc_law_primes_right : Option Addr} {vs_cc_law_primes_right : Array Value} {sl_cc_law_primes_right : Array (Option Value)} {fi_cc_law_primes_right : Str} {tf_cc_law_primes_right tg_cc_law_primes_right tt_cc_law_primes_right : Nat} {fl_cc_law_primes_right tx_cc_law_primes_right : Int} {in_cc_law_primes_right : Bool}
    {f_law_rows_right : Addr} {od_law_rows_right an_law_rows_right : Option Addr} {sl_law_rows_right : Array (Option Value)} {oc_law_rows_right kV_law_rows_right dc_law_rows_right pm_law_rows_right ct_law_rows_right : Value} {cc_law_rows_right PP_law_rows_right : Addr} {dd_cc_law_rows_right : Option Addr} {vs_cc_law_rows_right : Array Value} {sl_cc_law_rows_right : Array (Option Value)} {fi_cc_law_rows_right : Str} {tf_cc_law_rows_right tg_cc_law_rows_right tt_cc_law_rows_right : Nat} {fl_cc_law_rows_right tx_cc_law_rows_right : Int} {in_cc_law_rows_right : Bool}
    {f_law_rules_right : Addr} {od_law_rules_right an_law_rules_right : Option Addr} {sl_law_rules_right : Array (Option Value)} {oc_law_rules_right kV_law_rules_right dc_law_rules_right pm_law_rules_right ct_law_rules_right : Value} {cc_law_rules_right PP_law_rules_right : Addr} {dd_cc_law_rules_right : Option Addr} {vs_cc_law_rules_right : Array Value} {sl_cc_law_rules_right : Array (Option Value)} {fi_cc_law_rules_right : Str} {tf_cc_law_rules_right tg_cc_law_rules_right tt_cc_law_rules_right : Nat} {fl_cc_law_rules_right tx_cc_law_rules_right : Int} {in_cc_law_rules_right : Bool}
    {f_law_terms_right : Addr} {od_law_terms_right an_law_terms_right : Option Addr} {sl_law_terms_right : Array (Option Value)} {oc_law_terms_right kV_law_terms_right dc_law_terms_right pm_law_terms_right ct_law_terms_right : Value} {cc_law_terms_right PP_law_terms_right : Addr} {dd_cc_law_terms_right : Option Addr} {vs_cc_law_terms_right : Array Value} {sl_cc_law_terms_right : Array (Option Value)} {fi_cc_law_terms_right : Str} {tf_cc_law_terms_right tg_cc_law_terms_right tt_cc_law_terms_right : Nat} {fl_cc_law_terms_right tx_cc_law_terms_right : Int} {in_cc_law_terms_right : Bool}
    {f_law : Addr} {od_law an_law : Option Addr} {sl_law : Array (Option Value)} {oc_law kV_law dc_law pm_law cd_law ct_law : Value}
    (z_ValueError : PySem.W.nsIn K mainGlobals "ValueError" = some none)
    (z_abs : PySem.W.nsIn K mainGlobals "abs" = some none)
    (z_all : PySem.W.nsIn K mainGlobals "all" = some none)
    (z_bool : PySem.W.nsIn K mainGlobals "bool" = some none)
    (z_enumerate : PySem.W.nsIn K mainGlobals "enumerate" = some none)
    (z_int : PySem.W.nsIn K mainGlobals "int" = some none)
    (z_isinstance : PySem.W.nsIn K mainGlobals "isinstance" = some none)
    (z_len : PySem.W.nsIn K mainGlobals "len" = some none)
    (z_list : PySem.W.nsIn K mainGlobals "list" = some none)
    (z_max : PySem.W.nsIn K mainGlobals "max" = some none)
    (z_min : PySem.W.nsIn K mainGlobals "min" = some none)
    (z_range : PySem.W.nsIn K mainGlobals "range" = some none)
    (z_reversed : PySem.W.nsIn K mainGlobals "reversed" = some none)
    (z_sum : PySem.W.nsIn K mainGlobals "sum" = some none)
    (z_tuple : PySem.W.nsIn K mainGlobals "tuple" = some none)
    (z_zip : PySem.W.nsIn K mainGlobals "zip" = some none)
    (n_PRIMES : PySem.W.nsIn K mainGlobals "PRIMES" = some (some (.ref a_PRIMES)))
    (o_PRIMES : K.lookup a_PRIMES = some ⟨.type "tuple", dd_PRIMES, .seq its_PRIMES n__PRIMES, sl__PRIMES⟩)
    (s_PRIMES : its_PRIMES.size ≤ sizeLine)
    (v_PRIMES : its_PRIMES.toList.map absV = ([2, 3, 5, 7, 11, 13, 17, 19, 23, 29, 31, 37, 41, 43, 47, 53, 59, 61, 67, 71, 73, 79, 83, 89, 97] : List Int).map fun i => some (V.int i))
    (n_MOST_CUT : PySem.W.nsIn K mainGlobals "MOST_CUT" = some (some (.int 20 t_MOST_CUT)))
    (n_MOST_RULED : PySem.W.nsIn K mainGlobals "MOST_RULED" = some (some (.int 8 t_MOST_RULED)))
    (n_MOST_PLACES : PySem.W.nsIn K mainGlobals "MOST_PLACES" = some (some (.int 24 t_MOST_PLACES)))
    (n_MOST_TERMS : PySem.W.nsIn K mainGlobals "MOST_TERMS" = some (some (.int 6 t_MOST_TERMS)))
    (n_PowerError : PySem.W.nsIn K mainGlobals "PowerError" = some (some (.ref a_PowerError)))
    (k_PowerError : PySem.W.keepIn K (.ref a_PowerError) = true)
    (sb_PowerError : PySem.W.subIn K (.ref a_PowerError) (.type "BaseException") = some true)
    (ty_PowerError : PySem.W.typeIn K (.ref a_PowerError) = some (.type "type"))
    (ic_PowerError : PySem.W.isClsIn K a_PowerError = true)
    (n_BadPrime : PySem.W.nsIn K mainGlobals "BadPrime" = some (some (.ref a_BadPrime)))
    (k_BadPrime : PySem.W.keepIn K (.ref a_BadPrime) = true)
    (sb_BadPrime : PySem.W.subIn K (.ref a_BadPrime) (.type "BaseException") = some true)
    (ty_BadPrime : PySem.W.typeIn K (.ref a_BadPrime) = some (.type "type"))
    (ic_BadPrime : PySem.W.isClsIn K a_BadPrime = true)
    (n_BadRow : PySem.W.nsIn K mainGlobals "BadRow" = some (some (.ref a_BadRow)))
    (k_BadRow : PySem.W.keepIn K (.ref a_BadRow) = true)
    (sb_BadRow : PySem.W.subIn K (.ref a_BadRow) (.type "BaseException") = some true)
    (ty_BadRow : PySem.W.typeIn K (.ref a_BadRow) = some (.type "type"))
    (ic_BadRow : PySem.W.isClsIn K a_BadRow = true)
    (n_BadCount : PySem.W.nsIn K mainGlobals "BadCount" = some (some (.ref a_BadCount)))
    (k_BadCount : PySem.W.keepIn K (.ref a_BadCount) = true)
    (sb_BadCount : PySem.W.subIn K (.ref a_BadCount) (.type "BaseException") = some true)
    (ty_BadCount : PySem.W.typeIn K (.ref a_BadCount) = some (.type "type"))
    (ic_BadCount : PySem.W.isClsIn K a_BadCount = true)
    (n_BadRule : PySem.W.nsIn K mainGlobals "BadRule" = some (some (.ref a_BadRule)))
    (k_BadRule : PySem.W.keepIn K (.ref a_BadRule) = true)
    (sb_BadRule : PySem.W.subIn K (.ref a_BadRule) (.type "BaseException") = some true)
    (ty_BadRule : PySem.W.typeIn K (.ref a_BadRule) = some (.type "type"))
    (ic_BadRule : PySem.W.isClsIn K a_BadRule = true)
    (n_BadPlaces : PySem.W.nsIn K mainGlobals "BadPlaces" = some (some (.ref a_BadPlaces)))
    (k_BadPlaces : PySem.W.keepIn K (.ref a_BadPlaces) = true)
    (sb_BadPlaces : PySem.W.subIn K (.ref a_BadPlaces) (.type "BaseException") = some true)
    (ty_BadPlaces : PySem.W.typeIn K (.ref a_BadPlaces) = some (.type "type"))
    (ic_BadPlaces : PySem.W.isClsIn K a_BadPlaces = true)
    (n_BadTerms : PySem.W.nsIn K mainGlobals "BadTerms" = some (some (.ref a_BadTerms)))
    (k_BadTerms : PySem.W.keepIn K (.ref a_BadTerms) = true)
    (sb_BadTerms : PySem.W.subIn K (.ref a_BadTerms) (.type "BaseException") = some true)
    (ty_BadTerms : PySem.W.typeIn K (.ref a_BadTerms) = some (.type "type"))
    (ic_BadTerms : PySem.W.isClsIn K a_BadTerms = true)
    (n_NoPart : PySem.W.nsIn K mainGlobals "NoPart" = some (some (.ref a_NoPart)))
    (k_NoPart : PySem.W.keepIn K (.ref a_NoPart) = true)
    (sb_NoPart : PySem.W.subIn K (.ref a_NoPart) (.type "BaseException") = some true)
    (ty_NoPart : PySem.W.typeIn K (.ref a_NoPart) = some (.type "type"))
    (ic_NoPart : PySem.W.isClsIn K a_NoPart = true)
    (n_NoInside : PySem.W.nsIn K mainGlobals "NoInside" = some (some (.ref a_NoInside)))
    (k_NoInside : PySem.W.keepIn K (.ref a_NoInside) = true)
    (sb_NoInside : PySem.W.subIn K (.ref a_NoInside) (.type "BaseException") = some true)
    (ty_NoInside : PySem.W.typeIn K (.ref a_NoInside) = some (.type "type"))
    (ic_NoInside : PySem.W.isClsIn K a_NoInside = true)
    (n_NoRoot : PySem.W.nsIn K mainGlobals "NoRoot" = some (some (.ref a_NoRoot)))
    (k_NoRoot : PySem.W.keepIn K (.ref a_NoRoot) = true)
    (sb_NoRoot : PySem.W.subIn K (.ref a_NoRoot) (.type "BaseException") = some true)
    (ty_NoRoot : PySem.W.typeIn K (.ref a_NoRoot) = some (.type "type"))
    (ic_NoRoot : PySem.W.isClsIn K a_NoRoot = true)
    (n_Answer : PySem.W.nsIn K mainGlobals "Answer" = some (some (.ref a_Answer)))
    (k_Answer : PySem.W.keepIn K (.ref a_Answer) = true)
    (ty_Answer : PySem.W.typeIn K (.ref a_Answer) = some (.type "type"))
    (ic_Answer : PySem.W.isClsIn K a_Answer = true)
    (pg_Answer : PySem.W.plainGet K a_Answer Str.empty = true)
    (hd_Answer : PySem.W.hasDictIn K a_Answer = true)
    (po_Answer : PySem.W.plainOver K a_Answer = true)
    (sa_Answer : PySem.W.findIn K (.ref a_Answer) "__setattr__" = some (some (.builtin "object.__setattr__")))
    (n_Alike : PySem.W.nsIn K mainGlobals "Alike" = some (some (.ref a_Alike)))
    (k_Alike : PySem.W.keepIn K (.ref a_Alike) = true)
    (ty_Alike : PySem.W.typeIn K (.ref a_Alike) = some (.type "type"))
    (ic_Alike : PySem.W.isClsIn K a_Alike = true)
    (pg_Alike : PySem.W.plainGet K a_Alike Str.empty = true)
    (hd_Alike : PySem.W.hasDictIn K a_Alike = true)
    (po_Alike : PySem.W.plainOver K a_Alike = true)
    (sa_Alike : PySem.W.findIn K (.ref a_Alike) "__setattr__" = some (some (.builtin "object.__setattr__")))
    (mk_Alike : PySem.W.makesIn K a_Alike = true)
    (io_Alike : PySem.W.findIn K (.ref a_Alike) "__init__" = some (some (.builtin "object.__init__")))
    (n_Unlike : PySem.W.nsIn K mainGlobals "Unlike" = some (some (.ref a_Unlike)))
    (k_Unlike : PySem.W.keepIn K (.ref a_Unlike) = true)
    (ty_Unlike : PySem.W.typeIn K (.ref a_Unlike) = some (.type "type"))
    (ic_Unlike : PySem.W.isClsIn K a_Unlike = true)
    (pg_Unlike : PySem.W.plainGet K a_Unlike Str.empty = true)
    (hd_Unlike : PySem.W.hasDictIn K a_Unlike = true)
    (po_Unlike : PySem.W.plainOver K a_Unlike = true)
    (sa_Unlike : PySem.W.findIn K (.ref a_Unlike) "__setattr__" = some (some (.builtin "object.__setattr__")))
    (na_Unlike_at : PySem.W.findIn K (.ref a_Unlike) "at" = some none)
    (n_Ruled : PySem.W.nsIn K mainGlobals "Ruled" = some (some (.ref a_Ruled)))
    (k_Ruled : PySem.W.keepIn K (.ref a_Ruled) = true)
    (ty_Ruled : PySem.W.typeIn K (.ref a_Ruled) = some (.type "type"))
    (ic_Ruled : PySem.W.isClsIn K a_Ruled = true)
    (pg_Ruled : PySem.W.plainGet K a_Ruled Str.empty = true)
    (hd_Ruled : PySem.W.hasDictIn K a_Ruled = true)
    (po_Ruled : PySem.W.plainOver K a_Ruled = true)
    (sa_Ruled : PySem.W.findIn K (.ref a_Ruled) "__setattr__" = some (some (.builtin "object.__setattr__")))
    (na_Ruled_taps : PySem.W.findIn K (.ref a_Ruled) "taps" = some none)
    (n_Barred : PySem.W.nsIn K mainGlobals "Barred" = some (some (.ref a_Barred)))
    (k_Barred : PySem.W.keepIn K (.ref a_Barred) = true)
    (ty_Barred : PySem.W.typeIn K (.ref a_Barred) = some (.type "type"))
    (ic_Barred : PySem.W.isClsIn K a_Barred = true)
    (pg_Barred : PySem.W.plainGet K a_Barred Str.empty = true)
    (hd_Barred : PySem.W.hasDictIn K a_Barred = true)
    (po_Barred : PySem.W.plainOver K a_Barred = true)
    (sa_Barred : PySem.W.findIn K (.ref a_Barred) "__setattr__" = some (some (.builtin "object.__setattr__")))
    (na_Barred_weights : PySem.W.findIn K (.ref a_Barred) "weights" = some none)
    (n_is_number : PySem.W.nsIn K mainGlobals "is_number" = some (some (.ref f_is_number)))
    (l_is_number : K.lookup f_is_number = some ⟨oc_is_number, od_is_number, .func (PySem.W.fnOf "is_number" "is_number" (defArgs s_is_number) (defBody s_is_number) (defScope s_is_number) .none kV_is_number dc_is_number pm_is_number an_is_number cd_is_number ct_is_number), sl_is_number⟩)
    (c_is_number : PySem.W.codeIn K cd_is_number "is_number" = true)
    (k_is_number : PySem.W.keepIn K (.ref f_is_number) = true)
    (n_is_within : PySem.W.nsIn K mainGlobals "is_within" = some (some (.ref f_is_within)))
    (l_is_within : K.lookup f_is_within = some ⟨oc_is_within, od_is_within, .func (PySem.W.fnOf "is_within" "is_within" (defArgs s_is_within) (defBody s_is_within) (defScope s_is_within) .none kV_is_within dc_is_within pm_is_within an_is_within cd_is_within ct_is_within), sl_is_within⟩)
    (c_is_within : PySem.W.codeIn K cd_is_within "is_within" = true)
    (k_is_within : PySem.W.keepIn K (.ref f_is_within) = true)
    (n_is_rest : PySem.W.nsIn K mainGlobals "is_rest" = some (some (.ref f_is_rest)))
    (l_is_rest : K.lookup f_is_rest = some ⟨oc_is_rest, od_is_rest, .func (PySem.W.fnOf "is_rest" "is_rest" (defArgs s_is_rest) (defBody s_is_rest) (defScope s_is_rest) .none kV_is_rest dc_is_rest pm_is_rest an_is_rest cd_is_rest ct_is_rest), sl_is_rest⟩)
    (c_is_rest : PySem.W.codeIn K cd_is_rest "is_rest" = true)
    (k_is_rest : PySem.W.keepIn K (.ref f_is_rest) = true)
    (n_are_rests : PySem.W.nsIn K mainGlobals "are_rests" = some (some (.ref f_are_rests)))
    (l_are_rests : K.lookup f_are_rests = some ⟨oc_are_rests, od_are_rests, .func (PySem.W.fnOf "are_rests" "are_rests" (defArgs s_are_rests) (defBody s_are_rests) (defScope s_are_rests) .none kV_are_rests dc_are_rests pm_are_rests an_are_rests cd_are_rests ct_are_rests), sl_are_rests⟩)
    (c_are_rests : PySem.W.codeIn K cd_are_rests "are_rests" = true)
    (k_are_rests : PySem.W.keepIn K (.ref f_are_rests) = true)
    (n_is_rule : PySem.W.nsIn K mainGlobals "is_rule" = some (some (.ref f_is_rule)))
    (l_is_rule : K.lookup f_is_rule = some ⟨oc_is_rule, od_is_rule, .func (PySem.W.fnOf "is_rule" "is_rule" (defArgs s_is_rule) (defBody s_is_rule) (defScope s_is_rule) .none kV_is_rule dc_is_rule pm_is_rule an_is_rule cd_is_rule ct_is_rule), sl_is_rule⟩)
    (c_is_rule : PySem.W.codeIn K cd_is_rule "is_rule" = true)
    (k_is_rule : PySem.W.keepIn K (.ref f_is_rule) = true)
    (n_is_term : PySem.W.nsIn K mainGlobals "is_term" = some (some (.ref f_is_term)))
    (l_is_term : K.lookup f_is_term = some ⟨oc_is_term, od_is_term, .func (PySem.W.fnOf "is_term" "is_term" (defArgs s_is_term) (defBody s_is_term) (defScope s_is_term) .none kV_is_term dc_is_term pm_is_term an_is_term cd_is_term ct_is_term), sl_is_term⟩)
    (c_is_term : PySem.W.codeIn K cd_is_term "is_term" = true)
    (k_is_term : PySem.W.keepIn K (.ref f_is_term) = true)
    (n_are_terms : PySem.W.nsIn K mainGlobals "are_terms" = some (some (.ref f_are_terms)))
    (l_are_terms : K.lookup f_are_terms = some ⟨oc_are_terms, od_are_terms, .func (PySem.W.fnOf "are_terms" "are_terms" (defArgs s_are_terms) (defBody s_are_terms) (defScope s_are_terms) .none kV_are_terms dc_are_terms pm_are_terms an_are_terms cd_are_terms ct_are_terms), sl_are_terms⟩)
    (c_are_terms : PySem.W.codeIn K cd_are_terms "are_terms" = true)
    (k_are_terms : PySem.W.keepIn K (.ref f_are_terms) = true)
    (n_need_prime : PySem.W.nsIn K mainGlobals "need_prime" = some (some (.ref f_need_prime)))
    (l_need_prime : K.lookup f_need_prime = some ⟨oc_need_prime, od_need_prime, .func (PySem.W.fnOf "need_prime" "need_prime" (defArgs s_need_prime) (defBody s_need_prime) (defScope s_need_prime) .none kV_need_prime dc_need_prime pm_need_prime an_need_prime cd_need_prime ct_need_prime), sl_need_prime⟩)
    (c_need_prime : PySem.W.codeIn K cd_need_prime "need_prime" = true)
    (k_need_prime : PySem.W.keepIn K (.ref f_need_prime) = true)
    (n_need_row : PySem.W.nsIn K mainGlobals "need_row" = some (some (.ref f_need_row)))
    (l_need_row : K.lookup f_need_row = some ⟨oc_need_row, od_need_row, .func (PySem.W.fnOf "need_row" "need_row" (defArgs s_need_row) (defBody s_need_row) (defScope s_need_row) .none kV_need_row dc_need_row pm_need_row an_need_row cd_need_row ct_need_row), sl_need_row⟩)
    (c_need_row : PySem.W.codeIn K cd_need_row "need_row" = true)
    (k_need_row : PySem.W.keepIn K (.ref f_need_row) = true)
    (n_need_prime_and_rows : PySem.W.nsIn K mainGlobals "need_prime_and_rows" = some (some (.ref f_need_prime_and_rows)))
    (l_need_prime_and_rows : K.lookup f_need_prime_and_rows = some ⟨oc_need_prime_and_rows, od_need_prime_and_rows, .func (PySem.W.fnOf "need_prime_and_rows" "need_prime_and_rows" (defArgs s_need_prime_and_rows) (defBody s_need_prime_and_rows) (defScope s_need_prime_and_rows) .none kV_need_prime_and_rows dc_need_prime_and_rows pm_need_prime_and_rows an_need_prime_and_rows cd_need_prime_and_rows ct_need_prime_and_rows), sl_need_prime_and_rows⟩)
    (c_need_prime_and_rows : PySem.W.codeIn K cd_need_prime_and_rows "need_prime_and_rows" = true)
    (k_need_prime_and_rows : PySem.W.keepIn K (.ref f_need_prime_and_rows) = true)
    (n_need_rule : PySem.W.nsIn K mainGlobals "need_rule" = some (some (.ref f_need_rule)))
    (l_need_rule : K.lookup f_need_rule = some ⟨oc_need_rule, od_need_rule, .func (PySem.W.fnOf "need_rule" "need_rule" (defArgs s_need_rule) (defBody s_need_rule) (defScope s_need_rule) .none kV_need_rule dc_need_rule pm_need_rule an_need_rule cd_need_rule ct_need_rule), sl_need_rule⟩)
    (c_need_rule : PySem.W.codeIn K cd_need_rule "need_rule" = true)
    (k_need_rule : PySem.W.keepIn K (.ref f_need_rule) = true)
    (n_need_places : PySem.W.nsIn K mainGlobals "need_places" = some (some (.ref f_need_places)))
    (l_need_places : K.lookup f_need_places = some ⟨oc_need_places, od_need_places, .func (PySem.W.fnOf "need_places" "need_places" (defArgs s_need_places) (defBody s_need_places) (defScope s_need_places) .none kV_need_places dc_need_places pm_need_places an_need_places cd_need_places ct_need_places), sl_need_places⟩)
    (c_need_places : PySem.W.codeIn K cd_need_places "need_places" = true)
    (k_need_places : PySem.W.keepIn K (.ref f_need_places) = true)
    (n_need_terms : PySem.W.nsIn K mainGlobals "need_terms" = some (some (.ref f_need_terms)))
    (l_need_terms : K.lookup f_need_terms = some ⟨oc_need_terms, od_need_terms, .func (PySem.W.fnOf "need_terms" "need_terms" (defArgs s_need_terms) (defBody s_need_terms) (defScope s_need_terms) .none kV_need_terms dc_need_terms pm_need_terms an_need_terms cd_need_terms ct_need_terms), sl_need_terms⟩)
    (c_need_terms : PySem.W.codeIn K cd_need_terms "need_terms" = true)
    (k_need_terms : PySem.W.keepIn K (.ref f_need_terms) = true)
    (n_need_count : PySem.W.nsIn K mainGlobals "need_count" = some (some (.ref f_need_count)))
    (l_need_count : K.lookup f_need_count = some ⟨oc_need_count, od_need_count, .func (PySem.W.fnOf "need_count" "need_count" (defArgs s_need_count) (defBody s_need_count) (defScope s_need_count) .none kV_need_count dc_need_count pm_need_count an_need_count cd_need_count ct_need_count), sl_need_count⟩)
    (c_need_count : PySem.W.codeIn K cd_need_count "need_count" = true)
    (k_need_count : PySem.W.keepIn K (.ref f_need_count) = true)
    (n_need_count_within : PySem.W.nsIn K mainGlobals "need_count_within" = some (some (.ref f_need_count_within)))
    (l_need_count_within : K.lookup f_need_count_within = some ⟨oc_need_count_within, od_need_count_within, .func (PySem.W.fnOf "need_count_within" "need_count_within" (defArgs s_need_count_within) (defBody s_need_count_within) (defScope s_need_count_within) .none kV_need_count_within dc_need_count_within pm_need_count_within an_need_count_within cd_need_count_within ct_need_count_within), sl_need_count_within⟩)
    (c_need_count_within : PySem.W.codeIn K cd_need_count_within "need_count_within" = true)
    (k_need_count_within : PySem.W.keepIn K (.ref f_need_count_within) = true)
    (n_inverse : PySem.W.nsIn K mainGlobals "inverse" = some (some (.ref f_inverse)))
    (l_inverse : K.lookup f_inverse = some ⟨oc_inverse, od_inverse, .func (PySem.W.fnOf "inverse" "inverse" (defArgs s_inverse) (defBody s_inverse) (defScope s_inverse) .none kV_inverse dc_inverse pm_inverse an_inverse cd_inverse ct_inverse), sl_inverse⟩)
    (c_inverse : PySem.W.codeIn K cd_inverse "inverse" = true)
    (k_inverse : PySem.W.keepIn K (.ref f_inverse) = true)
    (n_plus : PySem.W.nsIn K mainGlobals "plus" = some (some (.ref f_plus)))
    (l_plus : K.lookup f_plus = some ⟨oc_plus, od_plus, .func (PySem.W.fnOf "plus" "plus" (defArgs s_plus) (defBody s_plus) (defScope s_plus) .none kV_plus dc_plus pm_plus an_plus cd_plus ct_plus), sl_plus⟩)
    (c_plus : PySem.W.codeIn K cd_plus "plus" = true)
    (k_plus : PySem.W.keepIn K (.ref f_plus) = true)
    (n_times : PySem.W.nsIn K mainGlobals "times" = some (some (.ref f_times)))
    (l_times : K.lookup f_times = some ⟨oc_times, od_times, .func (PySem.W.fnOf "times" "times" (defArgs s_times) (defBody s_times) (defScope s_times) .none kV_times dc_times pm_times an_times cd_times ct_times), sl_times⟩)
    (c_times : PySem.W.codeIn K cd_times "times" = true)
    (k_times : PySem.W.keepIn K (.ref f_times) = true)
    (n_parted : PySem.W.nsIn K mainGlobals "parted" = some (some (.ref f_parted)))
    (l_parted : K.lookup f_parted = some ⟨oc_parted, od_parted, .func (PySem.W.fnOf "parted" "parted" (defArgs s_parted) (defBody s_parted) (defScope s_parted) .none kV_parted dc_parted pm_parted an_parted cd_parted ct_parted), sl_parted⟩)
    (c_parted : PySem.W.codeIn K cd_parted "parted" = true)
    (k_parted : PySem.W.keepIn K (.ref f_parted) = true)
    (n_product : PySem.W.nsIn K mainGlobals "product" = some (some (.ref f_product)))
    (l_product : K.lookup f_product = some ⟨oc_product, od_product, .func (PySem.W.fnOf "product" "product" (defArgs s_product) (defBody s_product) (defScope s_product) .none kV_product dc_product pm_product an_product cd_product ct_product), sl_product⟩)
    (c_product : PySem.W.codeIn K cd_product "product" = true)
    (k_product : PySem.W.keepIn K (.ref f_product) = true)
    (n_product_place : PySem.W.nsIn K mainGlobals "product_place" = some (some (.ref f_product_place)))
    (l_product_place : K.lookup f_product_place = some ⟨oc_product_place, od_product_place, .func (PySem.W.fnOf "product_place" "product_place" (defArgs s_product_place) (defBody s_product_place) (defScope s_product_place) .none kV_product_place dc_product_place pm_product_place an_product_place cd_product_place ct_product_place), sl_product_place⟩)
    (c_product_place : PySem.W.codeIn K cd_product_place "product_place" = true)
    (k_product_place : PySem.W.keepIn K (.ref f_product_place) = true)
    (n_quotient : PySem.W.nsIn K mainGlobals "quotient" = some (some (.ref f_quotient)))
    (l_quotient : K.lookup f_quotient = some ⟨oc_quotient, od_quotient, .func (PySem.W.fnOf "quotient" "quotient" (defArgs s_quotient) (defBody s_quotient) (defScope s_quotient) .none kV_quotient dc_quotient pm_quotient an_quotient cd_quotient ct_quotient), sl_quotient⟩)
    (c_quotient : PySem.W.codeIn K cd_quotient "quotient" = true)
    (k_quotient : PySem.W.keepIn K (.ref f_quotient) = true)
    (n_first_places : PySem.W.nsIn K mainGlobals "first_places" = some (some (.ref f_first_places)))
    (l_first_places : K.lookup f_first_places = some ⟨oc_first_places, od_first_places, .func (PySem.W.fnOf "first_places" "first_places" (defArgs s_first_places) (defBody s_first_places) (defScope s_first_places) .none kV_first_places dc_first_places pm_first_places an_first_places cd_first_places ct_first_places), sl_first_places⟩)
    (c_first_places : PySem.W.codeIn K cd_first_places "first_places" = true)
    (k_first_places : PySem.W.keepIn K (.ref f_first_places) = true)
    (n_tapped : PySem.W.nsIn K mainGlobals "tapped" = some (some (.ref f_tapped)))
    (l_tapped : K.lookup f_tapped = some ⟨oc_tapped, od_tapped, .func (PySem.W.fnOf "tapped" "tapped" (defArgs s_tapped) (defBody s_tapped) (defScope s_tapped) .none kV_tapped dc_tapped pm_tapped an_tapped cd_tapped ct_tapped), sl_tapped⟩)
    (c_tapped : PySem.W.codeIn K cd_tapped "tapped" = true)
    (k_tapped : PySem.W.keepIn K (.ref f_tapped) = true)
    (n_put_in : PySem.W.nsIn K mainGlobals "put_in" = some (some (.ref f_put_in)))
    (l_put_in : K.lookup f_put_in = some ⟨oc_put_in, od_put_in, .func (PySem.W.fnOf "put_in" "put_in" (defArgs s_put_in) (defBody s_put_in) (defScope s_put_in) .none kV_put_in dc_put_in pm_put_in an_put_in cd_put_in ct_put_in), sl_put_in⟩)
    (c_put_in : PySem.W.codeIn K cd_put_in "put_in" = true)
    (k_put_in : PySem.W.keepIn K (.ref f_put_in) = true)
    (n_turned_out : PySem.W.nsIn K mainGlobals "turned_out" = some (some (.ref f_turned_out)))
    (l_turned_out : K.lookup f_turned_out = some ⟨oc_turned_out, od_turned_out, .func (PySem.W.fnOf "turned_out" "turned_out" (defArgs s_turned_out) (defBody s_turned_out) (defScope s_turned_out) .none kV_turned_out dc_turned_out pm_turned_out an_turned_out cd_turned_out ct_turned_out), sl_turned_out⟩)
    (c_turned_out : PySem.W.codeIn K cd_turned_out "turned_out" = true)
    (k_turned_out : PySem.W.keepIn K (.ref f_turned_out) = true)
    (n_solved : PySem.W.nsIn K mainGlobals "solved" = some (some (.ref f_solved)))
    (l_solved : K.lookup f_solved = some ⟨oc_solved, od_solved, .func (PySem.W.fnOf "solved" "solved" (defArgs s_solved) (defBody s_solved) (defScope s_solved) .none kV_solved dc_solved pm_solved an_solved cd_solved ct_solved), sl_solved⟩)
    (c_solved : PySem.W.codeIn K cd_solved "solved" = true)
    (k_solved : PySem.W.keepIn K (.ref f_solved) = true)
    (n_grown : PySem.W.nsIn K mainGlobals "grown" = some (some (.ref f_grown)))
    (l_grown : K.lookup f_grown = some ⟨oc_grown, od_grown, .func (PySem.W.fnOf "grown" "grown" (defArgs s_grown) (defBody s_grown) (defScope s_grown) .none kV_grown dc_grown pm_grown an_grown cd_grown ct_grown), sl_grown⟩)
    (c_grown : PySem.W.codeIn K cd_grown "grown" = true)
    (k_grown : PySem.W.keepIn K (.ref f_grown) = true)
    (n_term_sum : PySem.W.nsIn K mainGlobals "term_sum" = some (some (.ref f_term_sum)))
    (l_term_sum : K.lookup f_term_sum = some ⟨oc_term_sum, od_term_sum, .func (PySem.W.fnOf "term_sum" "term_sum" (defArgs s_term_sum) (defBody s_term_sum) (defScope s_term_sum) .none kV_term_sum dc_term_sum pm_term_sum an_term_sum cd_term_sum ct_term_sum), sl_term_sum⟩)
    (c_term_sum : PySem.W.codeIn K cd_term_sum "term_sum" = true)
    (k_term_sum : PySem.W.keepIn K (.ref f_term_sum) = true)
    (n_raised : PySem.W.nsIn K mainGlobals "raised" = some (some (.ref f_raised)))
    (l_raised : K.lookup f_raised = some ⟨oc_raised, od_raised, .func (PySem.W.fnOf "raised" "raised" (defArgs s_raised) (defBody s_raised) (defScope s_raised) .none kV_raised dc_raised pm_raised an_raised cd_raised ct_raised), sl_raised⟩)
    (c_raised : PySem.W.codeIn K cd_raised "raised" = true)
    (k_raised : PySem.W.keepIn K (.ref f_raised) = true)
    (n_lesser_count : PySem.W.nsIn K mainGlobals "lesser_count" = some (some (.ref f_lesser_count)))
    (l_lesser_count : K.lookup f_lesser_count = some ⟨oc_lesser_count, od_lesser_count, .func (PySem.W.fnOf "lesser_count" "lesser_count" (defArgs s_lesser_count) (defBody s_lesser_count) (defScope s_lesser_count) .none kV_lesser_count dc_lesser_count pm_lesser_count an_lesser_count cd_lesser_count ct_lesser_count), sl_lesser_count⟩)
    (c_lesser_count : PySem.W.codeIn K cd_lesser_count "lesser_count" = true)
    (k_lesser_count : PySem.W.keepIn K (.ref f_lesser_count) = true)
    (n_root : PySem.W.nsIn K mainGlobals "root" = some (some (.ref f_root)))
    (l_root : K.lookup f_root = some ⟨oc_root, od_root, .func (PySem.W.fnOf "root" "root" (defArgs s_root) (defBody s_root) (defScope s_root) .none kV_root dc_root pm_root an_root cd_root ct_root), sl_root⟩)
    (c_root : PySem.W.codeIn K cd_root "root" = true)
    (k_root : PySem.W.keepIn K (.ref f_root) = true)
    (n_lesser_root : PySem.W.nsIn K mainGlobals "lesser_root" = some (some (.ref f_lesser_root)))
    (l_lesser_root : K.lookup f_lesser_root = some ⟨oc_lesser_root, od_lesser_root, .func (PySem.W.fnOf "lesser_root" "lesser_root" (defArgs s_lesser_root) (defBody s_lesser_root) (defScope s_lesser_root) .none kV_lesser_root dc_lesser_root pm_lesser_root an_lesser_root cd_lesser_root ct_lesser_root), sl_lesser_root⟩)
    (c_lesser_root : PySem.W.codeIn K cd_lesser_root "lesser_root" = true)
    (k_lesser_root : PySem.W.keepIn K (.ref f_lesser_root) = true)
    (n_opened : PySem.W.nsIn K mainGlobals "opened" = some (some (.ref f_opened)))
    (l_opened : K.lookup f_opened = some ⟨oc_opened, od_opened, .func (PySem.W.fnOf "opened" "opened" (defArgs s_opened) (defBody s_opened) (defScope s_opened) .none kV_opened dc_opened pm_opened an_opened cd_opened ct_opened), sl_opened⟩)
    (c_opened : PySem.W.codeIn K cd_opened "opened" = true)
    (k_opened : PySem.W.keepIn K (.ref f_opened) = true)
    (n_far_place : PySem.W.nsIn K mainGlobals "far_place" = some (some (.ref f_far_place)))
    (l_far_place : K.lookup f_far_place = some ⟨oc_far_place, od_far_place, .func (PySem.W.fnOf "far_place" "far_place" (defArgs s_far_place) (defBody s_far_place) (defScope s_far_place) .none kV_far_place dc_far_place pm_far_place an_far_place cd_far_place ct_far_place), sl_far_place⟩)
    (c_far_place : PySem.W.codeIn K cd_far_place "far_place" = true)
    (k_far_place : PySem.W.keepIn K (.ref f_far_place) = true)
    (n_alike : PySem.W.nsIn K mainGlobals "alike" = some (some (.ref f_alike)))
    (l_alike : K.lookup f_alike = some ⟨oc_alike, od_alike, .func (PySem.W.fnOf "alike" "alike" (defArgs s_alike) (defBody s_alike) (defScope s_alike) .none kV_alike dc_alike pm_alike an_alike cd_alike ct_alike), sl_alike⟩)
    (c_alike : PySem.W.codeIn K cd_alike "alike" = true)
    (k_alike : PySem.W.keepIn K (.ref f_alike) = true)
    (n_law_refused : PySem.W.nsIn K mainGlobals "_law_refused" = some (some (.ref f_law_refused)))
    (l_law_refused : K.lookup f_law_refused = some ⟨oc_law_refused, od_law_refused, .func (PySem.W.fnOf "_law_refused" "_law_refused" (defArgs s_law_refused) (defBody s_law_refused) (defScope s_law_refused) .none kV_law_refused dc_law_refused pm_law_refused an_law_refused cd_law_refused ct_law_refused), sl_law_refused⟩)
    (c_law_refused : PySem.W.codeIn K cd_law_refused "_law_refused" = true)
    (k_law_refused : PySem.W.keepIn K (.ref f_law_refused) = true)
    (n_law_each : PySem.W.nsIn K mainGlobals "_law_each" = some (some (.ref f_law_each)))
    (l_law_each : K.lookup f_law_each = some ⟨oc_law_each, od_law_each, .func (PySem.W.fnOf "_law_each" "_law_each" (defArgs s_law_each) (defBody s_law_each) (defScope s_law_each) .none kV_law_each dc_law_each pm_law_each an_law_each cd_law_each ct_law_each), sl_law_each⟩)
    (c_law_each : PySem.W.codeIn K cd_law_each "_law_each" = true)
    (k_law_each : PySem.W.keepIn K (.ref f_law_each) = true)
    (n_law_no_numbers : PySem.W.nsIn K mainGlobals "_law_no_numbers" = some (some (.ref f_law_no_numbers)))
    (l_law_no_numbers : K.lookup f_law_no_numbers = some ⟨oc_law_no_numbers, od_law_no_numbers, .func (PySem.W.fnOf "_law_no_numbers" "_law_no_numbers" (defArgs s_law_no_numbers) (defBody s_law_no_numbers) (defScope s_law_no_numbers) .none kV_law_no_numbers dc_law_no_numbers pm_law_no_numbers an_law_no_numbers cd_law_no_numbers ct_law_no_numbers), sl_law_no_numbers⟩)
    (c_law_no_numbers : PySem.W.codeIn K cd_law_no_numbers "_law_no_numbers" = true)
    (k_law_no_numbers : PySem.W.keepIn K (.ref f_law_no_numbers) = true)
    (n_law_no_lists : PySem.W.nsIn K mainGlobals "_law_no_lists" = some (some (.ref f_law_no_lists)))
    (l_law_no_lists : K.lookup f_law_no_lists = some ⟨oc_law_no_lists, od_law_no_lists, .func (PySem.W.fnOf "_law_no_lists" "_law_no_lists" (defArgs s_law_no_lists) (defBody s_law_no_lists) (defScope s_law_no_lists) .none kV_law_no_lists dc_law_no_lists pm_law_no_lists an_law_no_lists cd_law_no_lists ct_law_no_lists), sl_law_no_lists⟩)
    (c_law_no_lists : PySem.W.codeIn K cd_law_no_lists "_law_no_lists" = true)
    (k_law_no_lists : PySem.W.keepIn K (.ref f_law_no_lists) = true)
    (n_law_primes_right : PySem.W.nsIn K mainGlobals "_law_primes_right" = some (some (.ref f_law_primes_right)))
    (l_law_primes_right : K.lookup f_law_primes_right = some ⟨oc_law_primes_right, od_law_primes_right, .func (PySem.W.fnOf "_law_primes_right" "_law_primes_right" (defArgs s_law_primes_right) (defBody s_law_primes_right) (defScope s_law_primes_right) .none kV_law_primes_right dc_law_primes_right pm_law_primes_right an_law_primes_right (.ref cc_law_primes_right) ct_law_primes_right), sl_law_primes_right⟩)
    (c_law_primes_right : PySem.W.codeIn K (.ref cc_law_primes_right) "_law_primes_right" = true)
    (k_law_primes_right : PySem.W.keepIn K (.ref f_law_primes_right) = true)
    (n_law_rows_right : PySem.W.nsIn K mainGlobals "_law_rows_right" = some (some (.ref f_law_rows_right)))
    (l_law_rows_right : K.lookup f_law_rows_right = some ⟨oc_law_rows_right, od_law_rows_right, .func (PySem.W.fnOf "_law_rows_right" "_law_rows_right" (defArgs s_law_rows_right) (defBody s_law_rows_right) (defScope s_law_rows_right) .none kV_law_rows_right dc_law_rows_right pm_law_rows_right an_law_rows_right (.ref cc_law_rows_right) ct_law_rows_right), sl_law_rows_right⟩)
    (c_law_rows_right : PySem.W.codeIn K (.ref cc_law_rows_right) "_law_rows_right" = true)
    (k_law_rows_right : PySem.W.keepIn K (.ref f_law_rows_right) = true)
    (n_law_rules_right : PySem.W.nsIn K mainGlobals "_law_rules_right" = some (some (.ref f_law_rules_right)))
    (l_law_rules_right : K.lookup f_law_rules_right = some ⟨oc_law_rules_right, od_law_rules_right, .func (PySem.W.fnOf "_law_rules_right" "_law_rules_right" (defArgs s_law_rules_right) (defBody s_law_rules_right) (defScope s_law_rules_right) .none kV_law_rules_right dc_law_rules_right pm_law_rules_right an_law_rules_right (.ref cc_law_rules_right) ct_law_rules_right), sl_law_rules_right⟩)
    (c_law_rules_right : PySem.W.codeIn K (.ref cc_law_rules_right) "_law_rules_right" = true)
    (k_law_rules_right : PySem.W.keepIn K (.ref f_law_rules_right) = true)
    (n_law_terms_right : PySem.W.nsIn K mainGlobals "_law_terms_right" = some (some (.ref f_law_terms_right)))
    (l_law_terms_right : K.lookup f_law_terms_right = some ⟨oc_law_terms_right, od_law_terms_right, .func (PySem.W.fnOf "_law_terms_right" "_law_terms_right" (defArgs s_law_terms_right) (defBody s_law_terms_right) (defScope s_law_terms_right) .none kV_law_terms_right dc_law_terms_right pm_law_terms_right an_law_terms_right (.ref cc_law_terms_right) ct_law_terms_right), sl_law_terms_right⟩)
    (c_law_terms_right : PySem.W.codeIn K (.ref cc_law_terms_right) "_law_terms_right" = true)
    (k_law_terms_right : PySem.W.keepIn K (.ref f_law_terms_right) = true)
    (n_law : PySem.W.nsIn K mainGlobals "law" = some (some (.ref f_law)))
    (l_law : K.lookup f_law = some ⟨oc_law, od_law, .func (PySem.W.fnOf "law" "law" (defArgs s_law) (defBody s_law) (defScope s_law) .none kV_law dc_law pm_law an_law cd_law ct_law), sl_law⟩)
    (c_law : PySem.W.codeIn K cd_law "law" = true)
    (k_law : PySem.W.keepIn K (.ref f_law) = true)
    (ex_NoPart : PySem.W.excIn K a_NoPart [.type "ValueError", .type "Exception", .type "BaseException", .type "object"] "ValueError.__new__" = true)
    (ex_NoRoot : PySem.W.excIn K a_NoRoot [.type "ValueError", .type "Exception", .type "BaseException", .type "object"] "ValueError.__new__" = true)
    (ex_NoInside : PySem.W.excIn K a_NoInside [.type "ValueError", .type "Exception", .type "BaseException", .type "object"] "ValueError.__new__" = true)
    (ex_BadPrime : PySem.W.excIn K a_BadPrime [.type "ValueError", .type "Exception", .type "BaseException", .type "object"] "ValueError.__new__" = true)
    (ex_BadRow : PySem.W.excIn K a_BadRow [.type "ValueError", .type "Exception", .type "BaseException", .type "object"] "ValueError.__new__" = true)
    (ex_BadPlaces : PySem.W.excIn K a_BadPlaces [.type "ValueError", .type "Exception", .type "BaseException", .type "object"] "ValueError.__new__" = true)
    (ex_BadRule : PySem.W.excIn K a_BadRule [.type "ValueError", .type "Exception", .type "BaseException", .type "object"] "ValueError.__new__" = true)
    (ex_BadTerms : PySem.W.excIn K a_BadTerms [.type "ValueError", .type "Exception", .type "BaseException", .type "object"] "ValueError.__new__" = true)
    (ex_BadCount : PySem.W.excIn K a_BadCount [.type "ValueError", .type "Exception", .type "BaseException", .type "object"] "ValueError.__new__" = true)
    (ga_BadPrime : PySem.W.findIn K (.ref a_BadPrime) "__getattribute__" = some (some (.builtin "BaseException.__getattribute__")))
    (gt_BadPrime : PySem.W.findIn K (.ref a_BadPrime) "__getattr__" = some none)
    (hd_BadPrime : PySem.W.hasDictIn K a_BadPrime = true)
    (cl_BadPrime : PySem.W.findIn K (.ref a_BadPrime) "__class__" = some (some (.builtin "object.__class__")))
    (sp__get : PySem.W.specialIn K (.builtin "object.__class__") "__get__" = some (some (.builtin "getset_descriptor.__get__")))
    (tk__get : PySem.W.takesIn K (.builtin "object.__class__") = some true)
    (mo_BadPrime : PySem.W.mroIn K a_BadPrime (.type "object") = some true)
    (se_BadPrime : PySem.W.subIn K (.ref a_BadPrime) (.ref a_BadPrime) = some true)
    (ga_BadRow : PySem.W.findIn K (.ref a_BadRow) "__getattribute__" = some (some (.builtin "BaseException.__getattribute__")))
    (gt_BadRow : PySem.W.findIn K (.ref a_BadRow) "__getattr__" = some none)
    (hd_BadRow : PySem.W.hasDictIn K a_BadRow = true)
    (cl_BadRow : PySem.W.findIn K (.ref a_BadRow) "__class__" = some (some (.builtin "object.__class__")))
    (mo_BadRow : PySem.W.mroIn K a_BadRow (.type "object") = some true)
    (se_BadRow : PySem.W.subIn K (.ref a_BadRow) (.ref a_BadRow) = some true)
    (ga_BadCount : PySem.W.findIn K (.ref a_BadCount) "__getattribute__" = some (some (.builtin "BaseException.__getattribute__")))
    (gt_BadCount : PySem.W.findIn K (.ref a_BadCount) "__getattr__" = some none)
    (hd_BadCount : PySem.W.hasDictIn K a_BadCount = true)
    (cl_BadCount : PySem.W.findIn K (.ref a_BadCount) "__class__" = some (some (.builtin "object.__class__")))
    (mo_BadCount : PySem.W.mroIn K a_BadCount (.type "object") = some true)
    (se_BadCount : PySem.W.subIn K (.ref a_BadCount) (.ref a_BadCount) = some true)
    (ga_BadRule : PySem.W.findIn K (.ref a_BadRule) "__getattribute__" = some (some (.builtin "BaseException.__getattribute__")))
    (gt_BadRule : PySem.W.findIn K (.ref a_BadRule) "__getattr__" = some none)
    (hd_BadRule : PySem.W.hasDictIn K a_BadRule = true)
    (cl_BadRule : PySem.W.findIn K (.ref a_BadRule) "__class__" = some (some (.builtin "object.__class__")))
    (mo_BadRule : PySem.W.mroIn K a_BadRule (.type "object") = some true)
    (se_BadRule : PySem.W.subIn K (.ref a_BadRule) (.ref a_BadRule) = some true)
    (ga_BadPlaces : PySem.W.findIn K (.ref a_BadPlaces) "__getattribute__" = some (some (.builtin "BaseException.__getattribute__")))
    (gt_BadPlaces : PySem.W.findIn K (.ref a_BadPlaces) "__getattr__" = some none)
    (hd_BadPlaces : PySem.W.hasDictIn K a_BadPlaces = true)
    (cl_BadPlaces : PySem.W.findIn K (.ref a_BadPlaces) "__class__" = some (some (.builtin "object.__class__")))
    (mo_BadPlaces : PySem.W.mroIn K a_BadPlaces (.type "object") = some true)
    (se_BadPlaces : PySem.W.subIn K (.ref a_BadPlaces) (.ref a_BadPlaces) = some true)
    (ga_BadTerms : PySem.W.findIn K (.ref a_BadTerms) "__getattribute__" = some (some (.builtin "BaseException.__getattribute__")))
    (gt_BadTerms : PySem.W.findIn K (.ref a_BadTerms) "__getattr__" = some none)
    (hd_BadTerms : PySem.W.hasDictIn K a_BadTerms = true)
    (cl_BadTerms : PySem.W.findIn K (.ref a_BadTerms) "__class__" = some (some (.builtin "object.__class__")))
    (mo_BadTerms : PySem.W.mroIn K a_BadTerms (.type "object") = some true)
    (se_BadTerms : PySem.W.subIn K (.ref a_BadTerms) (.ref a_BadTerms) = some true)
    (ga_NoPart : PySem.W.findIn K (.ref a_NoPart) "__getattribute__" = some (some (.builtin "BaseException.__getattribute__")))
    (gt_NoPart : PySem.W.findIn K (.ref a_NoPart) "__getattr__" = some none)
    (hd_NoPart : PySem.W.hasDictIn K a_NoPart = true)
    (cl_NoPart : PySem.W.findIn K (.ref a_NoPart) "__class__" = some (some (.builtin "object.__class__")))
    (mo_NoPart : PySem.W.mroIn K a_NoPart (.type "object") = some true)
    (se_NoPart : PySem.W.subIn K (.ref a_NoPart) (.ref a_NoPart) = some true)
    (ga_NoInside : PySem.W.findIn K (.ref a_NoInside) "__getattribute__" = some (some (.builtin "BaseException.__getattribute__")))
    (gt_NoInside : PySem.W.findIn K (.ref a_NoInside) "__getattr__" = some none)
    (hd_NoInside : PySem.W.hasDictIn K a_NoInside = true)
    (cl_NoInside : PySem.W.findIn K (.ref a_NoInside) "__class__" = some (some (.builtin "object.__class__")))
    (mo_NoInside : PySem.W.mroIn K a_NoInside (.type "object") = some true)
    (se_NoInside : PySem.W.subIn K (.ref a_NoInside) (.ref a_NoInside) = some true)
    (ga_NoRoot : PySem.W.findIn K (.ref a_NoRoot) "__getattribute__" = some (some (.builtin "BaseException.__getattribute__")))
    (gt_NoRoot : PySem.W.findIn K (.ref a_NoRoot) "__getattr__" = some none)
    (hd_NoRoot : PySem.W.hasDictIn K a_NoRoot = true)
    (cl_NoRoot : PySem.W.findIn K (.ref a_NoRoot) "__class__" = some (some (.builtin "object.__class__")))
    (mo_NoRoot : PySem.W.mroIn K a_NoRoot (.type "object") = some true)
    (se_NoRoot : PySem.W.subIn K (.ref a_NoRoot) (.ref a_NoRoot) = some true)
    (hd_PowerError : PySem.W.hasDictIn K a_PowerError = true)
    (su_BadPrime_PowerError : PySem.W.subIn K (.ref a_BadPrime) (.ref a_PowerError) = some true)
    (su_BadRow_PowerError : PySem.W.subIn K (.ref a_BadRow) (.ref a_PowerError) = some true)
    (su_BadCount_PowerError : PySem.W.subIn K (.ref a_BadCount) (.ref a_PowerError) = some true)
    (su_BadRule_PowerError : PySem.W.subIn K (.ref a_BadRule) (.ref a_PowerError) = some true)
    (su_BadPlaces_PowerError : PySem.W.subIn K (.ref a_BadPlaces) (.ref a_PowerError) = some true)
    (su_BadTerms_PowerError : PySem.W.subIn K (.ref a_BadTerms) (.ref a_PowerError) = some true)
    (su_NoPart_PowerError : PySem.W.subIn K (.ref a_NoPart) (.ref a_PowerError) = some true)
    (su_NoInside_PowerError : PySem.W.subIn K (.ref a_NoInside) (.ref a_PowerError) = some true)
    (su_NoRoot_PowerError : PySem.W.subIn K (.ref a_NoRoot) (.ref a_PowerError) = some true)
    (sv_BadPrime : PySem.W.subIn K (.ref a_BadPrime) (.type "ValueError") = some true)
    (sv_BadRow : PySem.W.subIn K (.ref a_BadRow) (.type "ValueError") = some true)
    (sv_BadCount : PySem.W.subIn K (.ref a_BadCount) (.type "ValueError") = some true)
    (sv_BadRule : PySem.W.subIn K (.ref a_BadRule) (.type "ValueError") = some true)
    (sv_BadPlaces : PySem.W.subIn K (.ref a_BadPlaces) (.type "ValueError") = some true)
    (sv_BadTerms : PySem.W.subIn K (.ref a_BadTerms) (.type "ValueError") = some true)
    (sv_NoPart : PySem.W.subIn K (.ref a_NoPart) (.type "ValueError") = some true)
    (sv_NoInside : PySem.W.subIn K (.ref a_NoInside) (.type "ValueError") = some true)
    (sv_NoRoot : PySem.W.subIn K (.ref a_NoRoot) (.type "ValueError") = some true)
    (su_BadPrime_BadRow : PySem.W.subIn K (.ref a_BadPrime) (.ref a_BadRow) = some false)
    (su_BadPrime_BadCount : PySem.W.subIn K (.ref a_BadPrime) (.ref a_BadCount) = some false)
    (su_BadPrime_BadRule : PySem.W.subIn K (.ref a_BadPrime) (.ref a_BadRule) = some false)
    (su_BadPrime_BadPlaces : PySem.W.subIn K (.ref a_BadPrime) (.ref a_BadPlaces) = some false)
    (su_BadPrime_BadTerms : PySem.W.subIn K (.ref a_BadPrime) (.ref a_BadTerms) = some false)
    (su_BadPrime_NoPart : PySem.W.subIn K (.ref a_BadPrime) (.ref a_NoPart) = some false)
    (su_BadPrime_NoInside : PySem.W.subIn K (.ref a_BadPrime) (.ref a_NoInside) = some false)
    (su_BadPrime_NoRoot : PySem.W.subIn K (.ref a_BadPrime) (.ref a_NoRoot) = some false)
    (su_BadRow_BadPrime : PySem.W.subIn K (.ref a_BadRow) (.ref a_BadPrime) = some false)
    (su_BadRow_BadCount : PySem.W.subIn K (.ref a_BadRow) (.ref a_BadCount) = some false)
    (su_BadRow_BadRule : PySem.W.subIn K (.ref a_BadRow) (.ref a_BadRule) = some false)
    (su_BadRow_BadPlaces : PySem.W.subIn K (.ref a_BadRow) (.ref a_BadPlaces) = some false)
    (su_BadRow_BadTerms : PySem.W.subIn K (.ref a_BadRow) (.ref a_BadTerms) = some false)
    (su_BadRow_NoPart : PySem.W.subIn K (.ref a_BadRow) (.ref a_NoPart) = some false)
    (su_BadRow_NoInside : PySem.W.subIn K (.ref a_BadRow) (.ref a_NoInside) = some false)
    (su_BadRow_NoRoot : PySem.W.subIn K (.ref a_BadRow) (.ref a_NoRoot) = some false)
    (su_BadCount_BadPrime : PySem.W.subIn K (.ref a_BadCount) (.ref a_BadPrime) = some false)
    (su_BadCount_BadRow : PySem.W.subIn K (.ref a_BadCount) (.ref a_BadRow) = some false)
    (su_BadCount_BadRule : PySem.W.subIn K (.ref a_BadCount) (.ref a_BadRule) = some false)
    (su_BadCount_BadPlaces : PySem.W.subIn K (.ref a_BadCount) (.ref a_BadPlaces) = some false)
    (su_BadCount_BadTerms : PySem.W.subIn K (.ref a_BadCount) (.ref a_BadTerms) = some false)
    (su_BadCount_NoPart : PySem.W.subIn K (.ref a_BadCount) (.ref a_NoPart) = some false)
    (su_BadCount_NoInside : PySem.W.subIn K (.ref a_BadCount) (.ref a_NoInside) = some false)
    (su_BadCount_NoRoot : PySem.W.subIn K (.ref a_BadCount) (.ref a_NoRoot) = some false)
    (su_BadRule_BadPrime : PySem.W.subIn K (.ref a_BadRule) (.ref a_BadPrime) = some false)
    (su_BadRule_BadRow : PySem.W.subIn K (.ref a_BadRule) (.ref a_BadRow) = some false)
    (su_BadRule_BadCount : PySem.W.subIn K (.ref a_BadRule) (.ref a_BadCount) = some false)
    (su_BadRule_BadPlaces : PySem.W.subIn K (.ref a_BadRule) (.ref a_BadPlaces) = some false)
    (su_BadRule_BadTerms : PySem.W.subIn K (.ref a_BadRule) (.ref a_BadTerms) = some false)
    (su_BadRule_NoPart : PySem.W.subIn K (.ref a_BadRule) (.ref a_NoPart) = some false)
    (su_BadRule_NoInside : PySem.W.subIn K (.ref a_BadRule) (.ref a_NoInside) = some false)
    (su_BadRule_NoRoot : PySem.W.subIn K (.ref a_BadRule) (.ref a_NoRoot) = some false)
    (su_BadPlaces_BadPrime : PySem.W.subIn K (.ref a_BadPlaces) (.ref a_BadPrime) = some false)
    (su_BadPlaces_BadRow : PySem.W.subIn K (.ref a_BadPlaces) (.ref a_BadRow) = some false)
    (su_BadPlaces_BadCount : PySem.W.subIn K (.ref a_BadPlaces) (.ref a_BadCount) = some false)
    (su_BadPlaces_BadRule : PySem.W.subIn K (.ref a_BadPlaces) (.ref a_BadRule) = some false)
    (su_BadPlaces_BadTerms : PySem.W.subIn K (.ref a_BadPlaces) (.ref a_BadTerms) = some false)
    (su_BadPlaces_NoPart : PySem.W.subIn K (.ref a_BadPlaces) (.ref a_NoPart) = some false)
    (su_BadPlaces_NoInside : PySem.W.subIn K (.ref a_BadPlaces) (.ref a_NoInside) = some false)
    (su_BadPlaces_NoRoot : PySem.W.subIn K (.ref a_BadPlaces) (.ref a_NoRoot) = some false)
    (su_BadTerms_BadPrime : PySem.W.subIn K (.ref a_BadTerms) (.ref a_BadPrime) = some false)
    (su_BadTerms_BadRow : PySem.W.subIn K (.ref a_BadTerms) (.ref a_BadRow) = some false)
    (su_BadTerms_BadCount : PySem.W.subIn K (.ref a_BadTerms) (.ref a_BadCount) = some false)
    (su_BadTerms_BadRule : PySem.W.subIn K (.ref a_BadTerms) (.ref a_BadRule) = some false)
    (su_BadTerms_BadPlaces : PySem.W.subIn K (.ref a_BadTerms) (.ref a_BadPlaces) = some false)
    (su_BadTerms_NoPart : PySem.W.subIn K (.ref a_BadTerms) (.ref a_NoPart) = some false)
    (su_BadTerms_NoInside : PySem.W.subIn K (.ref a_BadTerms) (.ref a_NoInside) = some false)
    (su_BadTerms_NoRoot : PySem.W.subIn K (.ref a_BadTerms) (.ref a_NoRoot) = some false)
    (su_NoPart_BadPrime : PySem.W.subIn K (.ref a_NoPart) (.ref a_BadPrime) = some false)
    (su_NoPart_BadRow : PySem.W.subIn K (.ref a_NoPart) (.ref a_BadRow) = some false)
    (su_NoPart_BadCount : PySem.W.subIn K (.ref a_NoPart) (.ref a_BadCount) = some false)
    (su_NoPart_BadRule : PySem.W.subIn K (.ref a_NoPart) (.ref a_BadRule) = some false)
    (su_NoPart_BadPlaces : PySem.W.subIn K (.ref a_NoPart) (.ref a_BadPlaces) = some false)
    (su_NoPart_BadTerms : PySem.W.subIn K (.ref a_NoPart) (.ref a_BadTerms) = some false)
    (su_NoPart_NoInside : PySem.W.subIn K (.ref a_NoPart) (.ref a_NoInside) = some false)
    (su_NoPart_NoRoot : PySem.W.subIn K (.ref a_NoPart) (.ref a_NoRoot) = some false)
    (su_NoInside_BadPrime : PySem.W.subIn K (.ref a_NoInside) (.ref a_BadPrime) = some false)
    (su_NoInside_BadRow : PySem.W.subIn K (.ref a_NoInside) (.ref a_BadRow) = some false)
    (su_NoInside_BadCount : PySem.W.subIn K (.ref a_NoInside) (.ref a_BadCount) = some false)
    (su_NoInside_BadRule : PySem.W.subIn K (.ref a_NoInside) (.ref a_BadRule) = some false)
    (su_NoInside_BadPlaces : PySem.W.subIn K (.ref a_NoInside) (.ref a_BadPlaces) = some false)
    (su_NoInside_BadTerms : PySem.W.subIn K (.ref a_NoInside) (.ref a_BadTerms) = some false)
    (su_NoInside_NoPart : PySem.W.subIn K (.ref a_NoInside) (.ref a_NoPart) = some false)
    (su_NoInside_NoRoot : PySem.W.subIn K (.ref a_NoInside) (.ref a_NoRoot) = some false)
    (su_NoRoot_BadPrime : PySem.W.subIn K (.ref a_NoRoot) (.ref a_BadPrime) = some false)
    (su_NoRoot_BadRow : PySem.W.subIn K (.ref a_NoRoot) (.ref a_BadRow) = some false)
    (su_NoRoot_BadCount : PySem.W.subIn K (.ref a_NoRoot) (.ref a_BadCount) = some false)
    (su_NoRoot_BadRule : PySem.W.subIn K (.ref a_NoRoot) (.ref a_BadRule) = some false)
    (su_NoRoot_BadPlaces : PySem.W.subIn K (.ref a_NoRoot) (.ref a_BadPlaces) = some false)
    (su_NoRoot_BadTerms : PySem.W.subIn K (.ref a_NoRoot) (.ref a_BadTerms) = some false)
    (su_NoRoot_NoPart : PySem.W.subIn K (.ref a_NoRoot) (.ref a_NoPart) = some false)
    (su_NoRoot_NoInside : PySem.W.subIn K (.ref a_NoRoot) (.ref a_NoInside) = some false)
    (lc_cc_law_primes_right : K.lookup cc_law_primes_right = some ⟨.type "code", dd_cc_law_primes_right, .fields vs_cc_law_primes_right, sl_cc_law_primes_right⟩)
    (v11_cc_law_primes_right : vs_cc_law_primes_right[11]? = some (.ref PP_law_primes_right))
    (g11_cc_law_primes_right : vs_cc_law_primes_right.getD 11 .none = .ref PP_law_primes_right)
    (g18_cc_law_primes_right : vs_cc_law_primes_right.getD 18 .none = .str fi_cc_law_primes_right tf_cc_law_primes_right)
    (g7_cc_law_primes_right : vs_cc_law_primes_right.getD 7 .none = .int fl_cc_law_primes_right tg_cc_law_primes_right)
    (g9_cc_law_primes_right : vs_cc_law_primes_right.getD 9 .none = .bool in_cc_law_primes_right)
    (g10_cc_law_primes_right : vs_cc_law_primes_right.getD 10 .none = .int tx_cc_law_primes_right tt_cc_law_primes_right)
    (ne_cc_law_primes_right : cc_law_primes_right ≠ PP_law_primes_right)
    (nT_cc_law_primes_right : K.lookup PP_law_primes_right = none)
    (rq_law_primes_right : ((recsOf q).any fun e => e.name == "_law_primes_right") = true)
    (lc_cc_law_rows_right : K.lookup cc_law_rows_right = some ⟨.type "code", dd_cc_law_rows_right, .fields vs_cc_law_rows_right, sl_cc_law_rows_right⟩)
    (v11_cc_law_rows_right : vs_cc_law_rows_right[11]? = some (.ref PP_law_rows_right))
    (g11_cc_law_rows_right : vs_cc_law_rows_right.getD 11 .none = .ref PP_law_rows_right)
    (g18_cc_law_rows_right : vs_cc_law_rows_right.getD 18 .none = .str fi_cc_law_rows_right tf_cc_law_rows_right)
    (g7_cc_law_rows_right : vs_cc_law_rows_right.getD 7 .none = .int fl_cc_law_rows_right tg_cc_law_rows_right)
    (g9_cc_law_rows_right : vs_cc_law_rows_right.getD 9 .none = .bool in_cc_law_rows_right)
    (g10_cc_law_rows_right : vs_cc_law_rows_right.getD 10 .none = .int tx_cc_law_rows_right tt_cc_law_rows_right)
    (ne_cc_law_rows_right : cc_law_rows_right ≠ PP_law_rows_right)
    (nT_cc_law_rows_right : K.lookup PP_law_rows_right = none)
    (rq_law_rows_right : ((recsOf q).any fun e => e.name == "_law_rows_right") = true)
    (lc_cc_law_rules_right : K.lookup cc_law_rules_right = some ⟨.type "code", dd_cc_law_rules_right, .fields vs_cc_law_rules_right, sl_cc_law_rules_right⟩)
    (v11_cc_law_rules_right : vs_cc_law_rules_right[11]? = some (.ref PP_law_rules_right))
    (g11_cc_law_rules_right : vs_cc_law_rules_right.getD 11 .none = .ref PP_law_rules_right)
    (g18_cc_law_rules_right : vs_cc_law_rules_right.getD 18 .none = .str fi_cc_law_rules_right tf_cc_law_rules_right)
    (g7_cc_law_rules_right : vs_cc_law_rules_right.getD 7 .none = .int fl_cc_law_rules_right tg_cc_law_rules_right)
    (g9_cc_law_rules_right : vs_cc_law_rules_right.getD 9 .none = .bool in_cc_law_rules_right)
    (g10_cc_law_rules_right : vs_cc_law_rules_right.getD 10 .none = .int tx_cc_law_rules_right tt_cc_law_rules_right)
    (ne_cc_law_rules_right : cc_law_rules_right ≠ PP_law_rules_right)
    (nT_cc_law_rules_right : K.lookup PP_law_rules_right = none)
    (rq_law_rules_right : ((recsOf q).any fun e => e.name == "_law_rules_right") = true)
    (lc_cc_law_terms_right : K.lookup cc_law_terms_right = some ⟨.type "code", dd_cc_law_terms_right, .fields vs_cc_law_terms_right, sl_cc_law_terms_right⟩)
    (v11_cc_law_terms_right : vs_cc_law_terms_right[11]? = some (.ref PP_law_terms_right))
    (g11_cc_law_terms_right : vs_cc_law_terms_right.getD 11 .none = .ref PP_law_terms_right)
    (g18_cc_law_terms_right : vs_cc_law_terms_right.getD 18 .none = .str fi_cc_law_terms_right tf_cc_law_terms_right)
    (g7_cc_law_terms_right : vs_cc_law_terms_right.getD 7 .none = .int fl_cc_law_terms_right tg_cc_law_terms_right)
    (g9_cc_law_terms_right : vs_cc_law_terms_right.getD 9 .none = .bool in_cc_law_terms_right)
    (g10_cc_law_terms_right : vs_cc_law_terms_right.getD 10 .none = .int tx_cc_law_terms_right tt_cc_law_terms_right)
    (ne_cc_law_terms_right : cc_law_terms_right ≠ PP_law_terms_right)
    (nT_cc_law_terms_right : K.lookup PP_law_terms_right = none)
    (rq_law_terms_right : ((recsOf q).any fun e => e.name == "_law_terms_right") = true)
    (dP_law_primes_right_law_rows_right : PP_law_primes_right ≠ PP_law_rows_right)
    (dP_law_primes_right_law_rules_right : PP_law_primes_right ≠ PP_law_rules_right)
    (dP_law_primes_right_law_terms_right : PP_law_primes_right ≠ PP_law_terms_right)
    (dP_law_rows_right_law_rules_right : PP_law_rows_right ≠ PP_law_rules_right)
    (dP_law_rows_right_law_terms_right : PP_law_rows_right ≠ PP_law_terms_right)
    (dP_law_rules_right_law_terms_right : PP_law_rules_right ≠ PP_law_terms_right)
    : LamX.LawAtS l w K CX0 30 63 "_law_script" mg fa h := by
  have e : fa = f_law := by
    cases hfa.symm.trans (PySem.W.mg_of X G n_law)
    rfl
  subst e
  have B : Blt K mg a_PRIMES t_MOST_CUT t_MOST_RULED t_MOST_PLACES t_MOST_TERMS a_PowerError a_BadPrime a_BadRow a_BadCount a_BadRule a_BadPlaces a_BadTerms a_NoPart a_NoInside a_NoRoot a_Answer a_Alike a_Unlike a_Ruled a_Barred := { ValueError := PySem.W.mg_none_of X G z_ValueError, abs := PySem.W.mg_none_of X G z_abs, all := PySem.W.mg_none_of X G z_all, bool := PySem.W.mg_none_of X G z_bool, enumerate := PySem.W.mg_none_of X G z_enumerate, int := PySem.W.mg_none_of X G z_int, isinstance := PySem.W.mg_none_of X G z_isinstance, len := PySem.W.mg_none_of X G z_len, list := PySem.W.mg_none_of X G z_list, max := PySem.W.mg_none_of X G z_max, min := PySem.W.mg_none_of X G z_min, range := PySem.W.mg_none_of X G z_range, reversed := PySem.W.mg_none_of X G z_reversed, sum := PySem.W.mg_none_of X G z_sum, tuple := PySem.W.mg_none_of X G z_tuple, zip := PySem.W.mg_none_of X G z_zip, PRIMES := PySem.W.mg_of X G n_PRIMES, PRIMES_T := sqt_ints o_PRIMES s_PRIMES v_PRIMES, MOST_CUT := PySem.W.mg_of X G n_MOST_CUT, MOST_RULED := PySem.W.mg_of X G n_MOST_RULED, MOST_PLACES := PySem.W.mg_of X G n_MOST_PLACES, MOST_TERMS := PySem.W.mg_of X G n_MOST_TERMS, PowerError := PySem.W.mg_of X G n_PowerError, PowerError_k := k_PowerError, BadPrime := PySem.W.mg_of X G n_BadPrime, BadPrime_k := k_BadPrime, BadRow := PySem.W.mg_of X G n_BadRow, BadRow_k := k_BadRow, BadCount := PySem.W.mg_of X G n_BadCount, BadCount_k := k_BadCount, BadRule := PySem.W.mg_of X G n_BadRule, BadRule_k := k_BadRule, BadPlaces := PySem.W.mg_of X G n_BadPlaces, BadPlaces_k := k_BadPlaces, BadTerms := PySem.W.mg_of X G n_BadTerms, BadTerms_k := k_BadTerms, NoPart := PySem.W.mg_of X G n_NoPart, NoPart_k := k_NoPart, NoInside := PySem.W.mg_of X G n_NoInside, NoInside_k := k_NoInside, NoRoot := PySem.W.mg_of X G n_NoRoot, NoRoot_k := k_NoRoot, Answer := PySem.W.mg_of X G n_Answer, Answer_k := k_Answer, Answer_c := ⟨pg_Answer, hd_Answer, po_Answer, sa_Answer⟩, Alike := PySem.W.mg_of X G n_Alike, Alike_k := k_Alike, Alike_c := ⟨pg_Alike, hd_Alike, po_Alike, sa_Alike⟩, Alike_o := ⟨mk_Alike, io_Alike, k_Alike⟩, Unlike := PySem.W.mg_of X G n_Unlike, Unlike_k := k_Unlike, Unlike_c := ⟨pg_Unlike, hd_Unlike, po_Unlike, sa_Unlike⟩, Unlike_n_at := na_Unlike_at, Ruled := PySem.W.mg_of X G n_Ruled, Ruled_k := k_Ruled, Ruled_c := ⟨pg_Ruled, hd_Ruled, po_Ruled, sa_Ruled⟩, Ruled_n_taps := na_Ruled_taps, Barred := PySem.W.mg_of X G n_Barred, Barred_k := k_Barred, Barred_c := ⟨pg_Barred, hd_Barred, po_Barred, sa_Barred⟩, Barred_n_weights := na_Barred_weights }
  have F_is_number := fun_mk (st := s_is_number) l_is_number c_is_number k_is_number
  have D_is_number : Dat K mg "is_number" s_is_number ["thing"] f_is_number _ := ⟨F_is_number, PySem.W.mg_of X G n_is_number, F_is_number.binds (ps := ["thing"]) fun _ _ _ _ _ _ us hl => match us, hl with | [_], _ => rfl⟩
  have F_is_within := fun_mk (st := s_is_within) l_is_within c_is_within k_is_within
  have D_is_within : Dat K mg "is_within" s_is_within ["thing", "least", "most"] f_is_within _ := ⟨F_is_within, PySem.W.mg_of X G n_is_within, F_is_within.binds (ps := ["thing", "least", "most"]) fun _ _ _ _ _ _ us hl => match us, hl with | [_, _, _], _ => rfl⟩
  have F_is_rest := fun_mk (st := s_is_rest) l_is_rest c_is_rest k_is_rest
  have D_is_rest : Dat K mg "is_rest" s_is_rest ["prime", "thing"] f_is_rest _ := ⟨F_is_rest, PySem.W.mg_of X G n_is_rest, F_is_rest.binds (ps := ["prime", "thing"]) fun _ _ _ _ _ _ us hl => match us, hl with | [_, _], _ => rfl⟩
  have F_are_rests := fun_mk (st := s_are_rests) l_are_rests c_are_rests k_are_rests
  have D_are_rests : Dat K mg "are_rests" s_are_rests ["prime", "thing", "least", "most"] f_are_rests _ := ⟨F_are_rests, PySem.W.mg_of X G n_are_rests, F_are_rests.binds (ps := ["prime", "thing", "least", "most"]) fun _ _ _ _ _ _ us hl => match us, hl with | [_, _, _, _], _ => rfl⟩
  have F_is_rule := fun_mk (st := s_is_rule) l_is_rule c_is_rule k_is_rule
  have D_is_rule : Dat K mg "is_rule" s_is_rule ["prime", "thing"] f_is_rule _ := ⟨F_is_rule, PySem.W.mg_of X G n_is_rule, F_is_rule.binds (ps := ["prime", "thing"]) fun _ _ _ _ _ _ us hl => match us, hl with | [_, _], _ => rfl⟩
  have F_is_term := fun_mk (st := s_is_term) l_is_term c_is_term k_is_term
  have D_is_term : Dat K mg "is_term" s_is_term ["prime", "thing"] f_is_term _ := ⟨F_is_term, PySem.W.mg_of X G n_is_term, F_is_term.binds (ps := ["prime", "thing"]) fun _ _ _ _ _ _ us hl => match us, hl with | [_, _], _ => rfl⟩
  have F_are_terms := fun_mk (st := s_are_terms) l_are_terms c_are_terms k_are_terms
  have D_are_terms : Dat K mg "are_terms" s_are_terms ["prime", "thing"] f_are_terms _ := ⟨F_are_terms, PySem.W.mg_of X G n_are_terms, F_are_terms.binds (ps := ["prime", "thing"]) fun _ _ _ _ _ _ us hl => match us, hl with | [_, _], _ => rfl⟩
  have F_need_prime := fun_mk (st := s_need_prime) l_need_prime c_need_prime k_need_prime
  have D_need_prime : Dat K mg "need_prime" s_need_prime ["prime"] f_need_prime _ := ⟨F_need_prime, PySem.W.mg_of X G n_need_prime, F_need_prime.binds (ps := ["prime"]) fun _ _ _ _ _ _ us hl => match us, hl with | [_], _ => rfl⟩
  have F_need_row := fun_mk (st := s_need_row) l_need_row c_need_row k_need_row
  have D_need_row : Dat K mg "need_row" s_need_row ["prime", "row"] f_need_row _ := ⟨F_need_row, PySem.W.mg_of X G n_need_row, F_need_row.binds (ps := ["prime", "row"]) fun _ _ _ _ _ _ us hl => match us, hl with | [_, _], _ => rfl⟩
  have F_need_prime_and_rows := fun_mk (st := s_need_prime_and_rows) l_need_prime_and_rows c_need_prime_and_rows k_need_prime_and_rows
  have D_need_prime_and_rows : Dat K mg "need_prime_and_rows" s_need_prime_and_rows ["prime", "one", "other"] f_need_prime_and_rows _ := ⟨F_need_prime_and_rows, PySem.W.mg_of X G n_need_prime_and_rows, F_need_prime_and_rows.binds (ps := ["prime", "one", "other"]) fun _ _ _ _ _ _ us hl => match us, hl with | [_, _, _], _ => rfl⟩
  have F_need_rule := fun_mk (st := s_need_rule) l_need_rule c_need_rule k_need_rule
  have D_need_rule : Dat K mg "need_rule" s_need_rule ["prime", "rule"] f_need_rule _ := ⟨F_need_rule, PySem.W.mg_of X G n_need_rule, F_need_rule.binds (ps := ["prime", "rule"]) fun _ _ _ _ _ _ us hl => match us, hl with | [_, _], _ => rfl⟩
  have F_need_places := fun_mk (st := s_need_places) l_need_places c_need_places k_need_places
  have D_need_places : Dat K mg "need_places" s_need_places ["prime", "places"] f_need_places _ := ⟨F_need_places, PySem.W.mg_of X G n_need_places, F_need_places.binds (ps := ["prime", "places"]) fun _ _ _ _ _ _ us hl => match us, hl with | [_, _], _ => rfl⟩
  have F_need_terms := fun_mk (st := s_need_terms) l_need_terms c_need_terms k_need_terms
  have D_need_terms : Dat K mg "need_terms" s_need_terms ["prime", "terms"] f_need_terms _ := ⟨F_need_terms, PySem.W.mg_of X G n_need_terms, F_need_terms.binds (ps := ["prime", "terms"]) fun _ _ _ _ _ _ us hl => match us, hl with | [_, _], _ => rfl⟩
  have F_need_count := fun_mk (st := s_need_count) l_need_count c_need_count k_need_count
  have D_need_count : Dat K mg "need_count" s_need_count ["many"] f_need_count _ := ⟨F_need_count, PySem.W.mg_of X G n_need_count, F_need_count.binds (ps := ["many"]) fun _ _ _ _ _ _ us hl => match us, hl with | [_], _ => rfl⟩
  have F_need_count_within := fun_mk (st := s_need_count_within) l_need_count_within c_need_count_within k_need_count_within
  have D_need_count_within : Dat K mg "need_count_within" s_need_count_within ["many", "least", "most"] f_need_count_within _ := ⟨F_need_count_within, PySem.W.mg_of X G n_need_count_within, F_need_count_within.binds (ps := ["many", "least", "most"]) fun _ _ _ _ _ _ us hl => match us, hl with | [_, _, _], _ => rfl⟩
  have F_inverse := fun_mk (st := s_inverse) l_inverse c_inverse k_inverse
  have D_inverse : Dat K mg "inverse" s_inverse ["prime", "rest"] f_inverse _ := ⟨F_inverse, PySem.W.mg_of X G n_inverse, F_inverse.binds (ps := ["prime", "rest"]) fun _ _ _ _ _ _ us hl => match us, hl with | [_, _], _ => rfl⟩
  have F_plus := fun_mk (st := s_plus) l_plus c_plus k_plus
  have D_plus : Dat K mg "plus" s_plus ["prime", "one", "other"] f_plus _ := ⟨F_plus, PySem.W.mg_of X G n_plus, F_plus.binds (ps := ["prime", "one", "other"]) fun _ _ _ _ _ _ us hl => match us, hl with | [_, _, _], _ => rfl⟩
  have F_times := fun_mk (st := s_times) l_times c_times k_times
  have D_times : Dat K mg "times" s_times ["prime", "one", "other"] f_times _ := ⟨F_times, PySem.W.mg_of X G n_times, F_times.binds (ps := ["prime", "one", "other"]) fun _ _ _ _ _ _ us hl => match us, hl with | [_, _, _], _ => rfl⟩
  have F_parted := fun_mk (st := s_parted) l_parted c_parted k_parted
  have D_parted : Dat K mg "parted" s_parted ["prime", "one", "other"] f_parted _ := ⟨F_parted, PySem.W.mg_of X G n_parted, F_parted.binds (ps := ["prime", "one", "other"]) fun _ _ _ _ _ _ us hl => match us, hl with | [_, _, _], _ => rfl⟩
  have F_product := fun_mk (st := s_product) l_product c_product k_product
  have D_product : Dat K mg "product" s_product ["prime", "one", "other"] f_product _ := ⟨F_product, PySem.W.mg_of X G n_product, F_product.binds (ps := ["prime", "one", "other"]) fun _ _ _ _ _ _ us hl => match us, hl with | [_, _, _], _ => rfl⟩
  have F_product_place := fun_mk (st := s_product_place) l_product_place c_product_place k_product_place
  have D_product_place : Dat K mg "product_place" s_product_place ["one", "other", "place"] f_product_place _ := ⟨F_product_place, PySem.W.mg_of X G n_product_place, F_product_place.binds (ps := ["one", "other", "place"]) fun _ _ _ _ _ _ us hl => match us, hl with | [_, _, _], _ => rfl⟩
  have F_quotient := fun_mk (st := s_quotient) l_quotient c_quotient k_quotient
  have D_quotient : Dat K mg "quotient" s_quotient ["prime", "one", "other"] f_quotient _ := ⟨F_quotient, PySem.W.mg_of X G n_quotient, F_quotient.binds (ps := ["prime", "one", "other"]) fun _ _ _ _ _ _ us hl => match us, hl with | [_, _, _], _ => rfl⟩
  have F_first_places := fun_mk (st := s_first_places) l_first_places c_first_places k_first_places
  have D_first_places : Dat K mg "first_places" s_first_places ["row", "many"] f_first_places _ := ⟨F_first_places, PySem.W.mg_of X G n_first_places, F_first_places.binds (ps := ["row", "many"]) fun _ _ _ _ _ _ us hl => match us, hl with | [_, _], _ => rfl⟩
  have F_tapped := fun_mk (st := s_tapped) l_tapped c_tapped k_tapped
  have D_tapped : Dat K mg "tapped" s_tapped ["prime", "places", "many"] f_tapped _ := ⟨F_tapped, PySem.W.mg_of X G n_tapped, F_tapped.binds (ps := ["prime", "places", "many"]) fun _ _ _ _ _ _ us hl => match us, hl with | [_, _, _], _ => rfl⟩
  have F_put_in := fun_mk (st := s_put_in) l_put_in c_put_in k_put_in
  have D_put_in : Dat K mg "put_in" s_put_in ["prime", "outer", "inner"] f_put_in _ := ⟨F_put_in, PySem.W.mg_of X G n_put_in, F_put_in.binds (ps := ["prime", "outer", "inner"]) fun _ _ _ _ _ _ us hl => match us, hl with | [_, _, _], _ => rfl⟩
  have F_turned_out := fun_mk (st := s_turned_out) l_turned_out c_turned_out k_turned_out
  have D_turned_out : Dat K mg "turned_out" s_turned_out ["prime", "row"] f_turned_out _ := ⟨F_turned_out, PySem.W.mg_of X G n_turned_out, F_turned_out.binds (ps := ["prime", "row"]) fun _ _ _ _ _ _ us hl => match us, hl with | [_, _], _ => rfl⟩
  have F_solved := fun_mk (st := s_solved) l_solved c_solved k_solved
  have D_solved : Dat K mg "solved" s_solved ["prime", "row"] f_solved _ := ⟨F_solved, PySem.W.mg_of X G n_solved, F_solved.binds (ps := ["prime", "row"]) fun _ _ _ _ _ _ us hl => match us, hl with | [_, _], _ => rfl⟩
  have F_grown := fun_mk (st := s_grown) l_grown c_grown k_grown
  have D_grown : Dat K mg "grown" s_grown ["prime", "terms", "many"] f_grown _ := ⟨F_grown, PySem.W.mg_of X G n_grown, F_grown.binds (ps := ["prime", "terms", "many"]) fun _ _ _ _ _ _ us hl => match us, hl with | [_, _, _], _ => rfl⟩
  have F_term_sum := fun_mk (st := s_term_sum) l_term_sum c_term_sum k_term_sum
  have D_term_sum : Dat K mg "term_sum" s_term_sum ["terms", "powers", "place"] f_term_sum _ := ⟨F_term_sum, PySem.W.mg_of X G n_term_sum, F_term_sum.binds (ps := ["terms", "powers", "place"]) fun _ _ _ _ _ _ us hl => match us, hl with | [_, _, _], _ => rfl⟩
  have F_raised := fun_mk (st := s_raised) l_raised c_raised k_raised
  have D_raised : Dat K mg "raised" s_raised ["prime", "row", "many"] f_raised _ := ⟨F_raised, PySem.W.mg_of X G n_raised, F_raised.binds (ps := ["prime", "row", "many"]) fun _ _ _ _ _ _ us hl => match us, hl with | [_, _, _], _ => rfl⟩
  have F_lesser_count := fun_mk (st := s_lesser_count) l_lesser_count c_lesser_count k_lesser_count
  have D_lesser_count : Dat K mg "lesser_count" s_lesser_count ["prime", "row", "many"] f_lesser_count _ := ⟨F_lesser_count, PySem.W.mg_of X G n_lesser_count, F_lesser_count.binds (ps := ["prime", "row", "many"]) fun _ _ _ _ _ _ us hl => match us, hl with | [_, _, _], _ => rfl⟩
  have F_root := fun_mk (st := s_root) l_root c_root k_root
  have D_root : Dat K mg "root" s_root ["prime", "row"] f_root _ := ⟨F_root, PySem.W.mg_of X G n_root, F_root.binds (ps := ["prime", "row"]) fun _ _ _ _ _ _ us hl => match us, hl with | [_, _], _ => rfl⟩
  have F_lesser_root := fun_mk (st := s_lesser_root) l_lesser_root c_lesser_root k_lesser_root
  have D_lesser_root : Dat K mg "lesser_root" s_lesser_root ["prime", "rest"] f_lesser_root _ := ⟨F_lesser_root, PySem.W.mg_of X G n_lesser_root, F_lesser_root.binds (ps := ["prime", "rest"]) fun _ _ _ _ _ _ us hl => match us, hl with | [_, _], _ => rfl⟩
  have F_opened := fun_mk (st := s_opened) l_opened c_opened k_opened
  have D_opened : Dat K mg "opened" s_opened ["prime", "rule", "many"] f_opened _ := ⟨F_opened, PySem.W.mg_of X G n_opened, F_opened.binds (ps := ["prime", "rule", "many"]) fun _ _ _ _ _ _ us hl => match us, hl with | [_, _, _], _ => rfl⟩
  have F_far_place := fun_mk (st := s_far_place) l_far_place c_far_place k_far_place
  have D_far_place : Dat K mg "far_place" s_far_place ["prime", "rule", "at"] f_far_place _ := ⟨F_far_place, PySem.W.mg_of X G n_far_place, F_far_place.binds (ps := ["prime", "rule", "at"]) fun _ _ _ _ _ _ us hl => match us, hl with | [_, _, _], _ => rfl⟩
  have F_alike := fun_mk (st := s_alike) l_alike c_alike k_alike
  have D_alike : Dat K mg "alike" s_alike ["prime", "one", "other"] f_alike _ := ⟨F_alike, PySem.W.mg_of X G n_alike, F_alike.binds (ps := ["prime", "one", "other"]) fun _ _ _ _ _ _ us hl => match us, hl with | [_, _, _], _ => rfl⟩
  have F_law_refused := fun_mk (st := s_law_refused) l_law_refused c_law_refused k_law_refused
  have D_law_refused : Dat K mg "_law_refused" s_law_refused ["_law_ask", "_law_thing", "_law_due"] f_law_refused _ := ⟨F_law_refused, PySem.W.mg_of X G n_law_refused, F_law_refused.binds (ps := ["_law_ask", "_law_thing", "_law_due"]) fun _ _ _ _ _ _ us hl => match us, hl with | [_, _, _], _ => rfl⟩
  have F_law_each := fun_mk (st := s_law_each) l_law_each c_law_each k_law_each
  have D_law_each : Dat K mg "_law_each" s_law_each ["_law_asks", "_law_things", "_law_due"] f_law_each _ := ⟨F_law_each, PySem.W.mg_of X G n_law_each, F_law_each.binds (ps := ["_law_asks", "_law_things", "_law_due"]) fun _ _ _ _ _ _ us hl => match us, hl with | [_, _, _], _ => rfl⟩
  have F_law_no_numbers := fun_mk (st := s_law_no_numbers) l_law_no_numbers c_law_no_numbers k_law_no_numbers
  have D_law_no_numbers : Dat K mg "_law_no_numbers" s_law_no_numbers ["_law_more"] f_law_no_numbers _ := ⟨F_law_no_numbers, PySem.W.mg_of X G n_law_no_numbers, F_law_no_numbers.binds (ps := ["_law_more"]) fun _ _ _ _ _ _ us hl => match us, hl with | [_], _ => rfl⟩
  have F_law_no_lists := fun_mk (st := s_law_no_lists) l_law_no_lists c_law_no_lists k_law_no_lists
  have D_law_no_lists : Dat K mg "_law_no_lists" s_law_no_lists ["_law_more", "_law_most"] f_law_no_lists _ := ⟨F_law_no_lists, PySem.W.mg_of X G n_law_no_lists, F_law_no_lists.binds (ps := ["_law_more", "_law_most"]) fun _ _ _ _ _ _ us hl => match us, hl with | [_, _], _ => rfl⟩
  have F_law_primes_right := fun_mk (st := s_law_primes_right) l_law_primes_right c_law_primes_right k_law_primes_right
  have D_law_primes_right : Dat K mg "_law_primes_right" s_law_primes_right ["_law_more"] f_law_primes_right _ := ⟨F_law_primes_right, PySem.W.mg_of X G n_law_primes_right, F_law_primes_right.binds (ps := ["_law_more"]) fun _ _ _ _ _ _ us hl => match us, hl with | [_], _ => rfl⟩
  have F_law_rows_right := fun_mk (st := s_law_rows_right) l_law_rows_right c_law_rows_right k_law_rows_right
  have D_law_rows_right : Dat K mg "_law_rows_right" s_law_rows_right ["_law_more"] f_law_rows_right _ := ⟨F_law_rows_right, PySem.W.mg_of X G n_law_rows_right, F_law_rows_right.binds (ps := ["_law_more"]) fun _ _ _ _ _ _ us hl => match us, hl with | [_], _ => rfl⟩
  have F_law_rules_right := fun_mk (st := s_law_rules_right) l_law_rules_right c_law_rules_right k_law_rules_right
  have D_law_rules_right : Dat K mg "_law_rules_right" s_law_rules_right ["_law_more"] f_law_rules_right _ := ⟨F_law_rules_right, PySem.W.mg_of X G n_law_rules_right, F_law_rules_right.binds (ps := ["_law_more"]) fun _ _ _ _ _ _ us hl => match us, hl with | [_], _ => rfl⟩
  have F_law_terms_right := fun_mk (st := s_law_terms_right) l_law_terms_right c_law_terms_right k_law_terms_right
  have D_law_terms_right : Dat K mg "_law_terms_right" s_law_terms_right ["_law_more"] f_law_terms_right _ := ⟨F_law_terms_right, PySem.W.mg_of X G n_law_terms_right, F_law_terms_right.binds (ps := ["_law_more"]) fun _ _ _ _ _ _ us hl => match us, hl with | [_], _ => rfl⟩
  have F_law := fun_mk (st := s_law) l_law c_law k_law
  have D_law : Dat K mg "law" s_law ["_law_script"] fa _ := ⟨F_law, hfa, F_law.binds (ps := ["_law_script"]) fun _ _ _ _ _ _ us hl => match us, hl with | [_], _ => rfl⟩
  have K_law_primes_right : DatK K mg "_law_primes_right" s_law_primes_right ["_law_more"] f_law_primes_right _ cc_law_primes_right := ⟨⟨⟨_, _, _, _, _, _, _, _, rfl, l_law_primes_right, c_law_primes_right⟩⟩, D_law_primes_right⟩
  have K_law_rows_right : DatK K mg "_law_rows_right" s_law_rows_right ["_law_more"] f_law_rows_right _ cc_law_rows_right := ⟨⟨⟨_, _, _, _, _, _, _, _, rfl, l_law_rows_right, c_law_rows_right⟩⟩, D_law_rows_right⟩
  have K_law_rules_right : DatK K mg "_law_rules_right" s_law_rules_right ["_law_more"] f_law_rules_right _ cc_law_rules_right := ⟨⟨⟨_, _, _, _, _, _, _, _, rfl, l_law_rules_right, c_law_rules_right⟩⟩, D_law_rules_right⟩
  have K_law_terms_right : DatK K mg "_law_terms_right" s_law_terms_right ["_law_more"] f_law_terms_right _ cc_law_terms_right := ⟨⟨⟨_, _, _, _, _, _, _, _, rfl, l_law_terms_right, c_law_terms_right⟩⟩, D_law_terms_right⟩
  have X_NoPart : ExcF K a_NoPart := ⟨ex_NoPart, sb_NoPart, ty_NoPart, ic_NoPart⟩
  have X_NoRoot : ExcF K a_NoRoot := ⟨ex_NoRoot, sb_NoRoot, ty_NoRoot, ic_NoRoot⟩
  have X_NoInside : ExcF K a_NoInside := ⟨ex_NoInside, sb_NoInside, ty_NoInside, ic_NoInside⟩
  have X_BadPrime : ExcF K a_BadPrime := ⟨ex_BadPrime, sb_BadPrime, ty_BadPrime, ic_BadPrime⟩
  have X_BadRow : ExcF K a_BadRow := ⟨ex_BadRow, sb_BadRow, ty_BadRow, ic_BadRow⟩
  have X_BadPlaces : ExcF K a_BadPlaces := ⟨ex_BadPlaces, sb_BadPlaces, ty_BadPlaces, ic_BadPlaces⟩
  have X_BadRule : ExcF K a_BadRule := ⟨ex_BadRule, sb_BadRule, ty_BadRule, ic_BadRule⟩
  have X_BadTerms : ExcF K a_BadTerms := ⟨ex_BadTerms, sb_BadTerms, ty_BadTerms, ic_BadTerms⟩
  have X_BadCount : ExcF K a_BadCount := ⟨ex_BadCount, sb_BadCount, ty_BadCount, ic_BadCount⟩
  have E_BadPrime : ExcC K a_BadPrime := ⟨ga_BadPrime, gt_BadPrime, sb_BadPrime, hd_BadPrime, cl_BadPrime, sp__get, tk__get, mo_BadPrime⟩
  have E_BadRow : ExcC K a_BadRow := ⟨ga_BadRow, gt_BadRow, sb_BadRow, hd_BadRow, cl_BadRow, sp__get, tk__get, mo_BadRow⟩
  have E_BadCount : ExcC K a_BadCount := ⟨ga_BadCount, gt_BadCount, sb_BadCount, hd_BadCount, cl_BadCount, sp__get, tk__get, mo_BadCount⟩
  have E_BadRule : ExcC K a_BadRule := ⟨ga_BadRule, gt_BadRule, sb_BadRule, hd_BadRule, cl_BadRule, sp__get, tk__get, mo_BadRule⟩
  have E_BadPlaces : ExcC K a_BadPlaces := ⟨ga_BadPlaces, gt_BadPlaces, sb_BadPlaces, hd_BadPlaces, cl_BadPlaces, sp__get, tk__get, mo_BadPlaces⟩
  have E_BadTerms : ExcC K a_BadTerms := ⟨ga_BadTerms, gt_BadTerms, sb_BadTerms, hd_BadTerms, cl_BadTerms, sp__get, tk__get, mo_BadTerms⟩
  have E_NoPart : ExcC K a_NoPart := ⟨ga_NoPart, gt_NoPart, sb_NoPart, hd_NoPart, cl_NoPart, sp__get, tk__get, mo_NoPart⟩
  have E_NoInside : ExcC K a_NoInside := ⟨ga_NoInside, gt_NoInside, sb_NoInside, hd_NoInside, cl_NoInside, sp__get, tk__get, mo_NoInside⟩
  have E_NoRoot : ExcC K a_NoRoot := ⟨ga_NoRoot, gt_NoRoot, sb_NoRoot, hd_NoRoot, cl_NoRoot, sp__get, tk__get, mo_NoRoot⟩
  have M_BadPrime_PowerError : PySem.W.exmOne K (.ref a_BadPrime) (.ref a_PowerError) = some true := PySem.W.exm_ref sb_PowerError hd_PowerError ty_PowerError su_BadPrime_PowerError
  have M_BadRow_PowerError : PySem.W.exmOne K (.ref a_BadRow) (.ref a_PowerError) = some true := PySem.W.exm_ref sb_PowerError hd_PowerError ty_PowerError su_BadRow_PowerError
  have M_BadCount_PowerError : PySem.W.exmOne K (.ref a_BadCount) (.ref a_PowerError) = some true := PySem.W.exm_ref sb_PowerError hd_PowerError ty_PowerError su_BadCount_PowerError
  have M_BadRule_PowerError : PySem.W.exmOne K (.ref a_BadRule) (.ref a_PowerError) = some true := PySem.W.exm_ref sb_PowerError hd_PowerError ty_PowerError su_BadRule_PowerError
  have M_BadPlaces_PowerError : PySem.W.exmOne K (.ref a_BadPlaces) (.ref a_PowerError) = some true := PySem.W.exm_ref sb_PowerError hd_PowerError ty_PowerError su_BadPlaces_PowerError
  have M_BadTerms_PowerError : PySem.W.exmOne K (.ref a_BadTerms) (.ref a_PowerError) = some true := PySem.W.exm_ref sb_PowerError hd_PowerError ty_PowerError su_BadTerms_PowerError
  have M_NoPart_PowerError : PySem.W.exmOne K (.ref a_NoPart) (.ref a_PowerError) = some true := PySem.W.exm_ref sb_PowerError hd_PowerError ty_PowerError su_NoPart_PowerError
  have M_NoInside_PowerError : PySem.W.exmOne K (.ref a_NoInside) (.ref a_PowerError) = some true := PySem.W.exm_ref sb_PowerError hd_PowerError ty_PowerError su_NoInside_PowerError
  have M_NoRoot_PowerError : PySem.W.exmOne K (.ref a_NoRoot) (.ref a_PowerError) = some true := PySem.W.exm_ref sb_PowerError hd_PowerError ty_PowerError su_NoRoot_PowerError
  have V_BadPrime := kit_val sv_BadPrime
  have V_BadRow := kit_val sv_BadRow
  have V_BadCount := kit_val sv_BadCount
  have V_BadRule := kit_val sv_BadRule
  have V_BadPlaces := kit_val sv_BadPlaces
  have V_BadTerms := kit_val sv_BadTerms
  have V_NoPart := kit_val sv_NoPart
  have V_NoInside := kit_val sv_NoInside
  have V_NoRoot := kit_val sv_NoRoot
  have K_BadPrime_BadPrime : PySem.W.kitOne K (.ref a_BadPrime) (.ref a_BadPrime) = some true := kit_self ic_BadPrime ty_BadPrime se_BadPrime
  have K_BadPrime_BadRow : PySem.W.kitOne K (.ref a_BadPrime) (.ref a_BadRow) = some false := kit_other ic_BadRow ty_BadRow su_BadPrime_BadRow se_BadPrime
  have K_BadPrime_BadCount : PySem.W.kitOne K (.ref a_BadPrime) (.ref a_BadCount) = some false := kit_other ic_BadCount ty_BadCount su_BadPrime_BadCount se_BadPrime
  have K_BadPrime_BadRule : PySem.W.kitOne K (.ref a_BadPrime) (.ref a_BadRule) = some false := kit_other ic_BadRule ty_BadRule su_BadPrime_BadRule se_BadPrime
  have K_BadPrime_BadPlaces : PySem.W.kitOne K (.ref a_BadPrime) (.ref a_BadPlaces) = some false := kit_other ic_BadPlaces ty_BadPlaces su_BadPrime_BadPlaces se_BadPrime
  have K_BadPrime_BadTerms : PySem.W.kitOne K (.ref a_BadPrime) (.ref a_BadTerms) = some false := kit_other ic_BadTerms ty_BadTerms su_BadPrime_BadTerms se_BadPrime
  have K_BadPrime_NoPart : PySem.W.kitOne K (.ref a_BadPrime) (.ref a_NoPart) = some false := kit_other ic_NoPart ty_NoPart su_BadPrime_NoPart se_BadPrime
  have K_BadPrime_NoInside : PySem.W.kitOne K (.ref a_BadPrime) (.ref a_NoInside) = some false := kit_other ic_NoInside ty_NoInside su_BadPrime_NoInside se_BadPrime
  have K_BadPrime_NoRoot : PySem.W.kitOne K (.ref a_BadPrime) (.ref a_NoRoot) = some false := kit_other ic_NoRoot ty_NoRoot su_BadPrime_NoRoot se_BadPrime
  have K_BadRow_BadPrime : PySem.W.kitOne K (.ref a_BadRow) (.ref a_BadPrime) = some false := kit_other ic_BadPrime ty_BadPrime su_BadRow_BadPrime se_BadRow
  have K_BadRow_BadRow : PySem.W.kitOne K (.ref a_BadRow) (.ref a_BadRow) = some true := kit_self ic_BadRow ty_BadRow se_BadRow
  have K_BadRow_BadCount : PySem.W.kitOne K (.ref a_BadRow) (.ref a_BadCount) = some false := kit_other ic_BadCount ty_BadCount su_BadRow_BadCount se_BadRow
  have K_BadRow_BadRule : PySem.W.kitOne K (.ref a_BadRow) (.ref a_BadRule) = some false := kit_other ic_BadRule ty_BadRule su_BadRow_BadRule se_BadRow
  have K_BadRow_BadPlaces : PySem.W.kitOne K (.ref a_BadRow) (.ref a_BadPlaces) = some false := kit_other ic_BadPlaces ty_BadPlaces su_BadRow_BadPlaces se_BadRow
  have K_BadRow_BadTerms : PySem.W.kitOne K (.ref a_BadRow) (.ref a_BadTerms) = some false := kit_other ic_BadTerms ty_BadTerms su_BadRow_BadTerms se_BadRow
  have K_BadRow_NoPart : PySem.W.kitOne K (.ref a_BadRow) (.ref a_NoPart) = some false := kit_other ic_NoPart ty_NoPart su_BadRow_NoPart se_BadRow
  have K_BadRow_NoInside : PySem.W.kitOne K (.ref a_BadRow) (.ref a_NoInside) = some false := kit_other ic_NoInside ty_NoInside su_BadRow_NoInside se_BadRow
  have K_BadRow_NoRoot : PySem.W.kitOne K (.ref a_BadRow) (.ref a_NoRoot) = some false := kit_other ic_NoRoot ty_NoRoot su_BadRow_NoRoot se_BadRow
  have K_BadCount_BadPrime : PySem.W.kitOne K (.ref a_BadCount) (.ref a_BadPrime) = some false := kit_other ic_BadPrime ty_BadPrime su_BadCount_BadPrime se_BadCount
  have K_BadCount_BadRow : PySem.W.kitOne K (.ref a_BadCount) (.ref a_BadRow) = some false := kit_other ic_BadRow ty_BadRow su_BadCount_BadRow se_BadCount
  have K_BadCount_BadCount : PySem.W.kitOne K (.ref a_BadCount) (.ref a_BadCount) = some true := kit_self ic_BadCount ty_BadCount se_BadCount
  have K_BadCount_BadRule : PySem.W.kitOne K (.ref a_BadCount) (.ref a_BadRule) = some false := kit_other ic_BadRule ty_BadRule su_BadCount_BadRule se_BadCount
  have K_BadCount_BadPlaces : PySem.W.kitOne K (.ref a_BadCount) (.ref a_BadPlaces) = some false := kit_other ic_BadPlaces ty_BadPlaces su_BadCount_BadPlaces se_BadCount
  have K_BadCount_BadTerms : PySem.W.kitOne K (.ref a_BadCount) (.ref a_BadTerms) = some false := kit_other ic_BadTerms ty_BadTerms su_BadCount_BadTerms se_BadCount
  have K_BadCount_NoPart : PySem.W.kitOne K (.ref a_BadCount) (.ref a_NoPart) = some false := kit_other ic_NoPart ty_NoPart su_BadCount_NoPart se_BadCount
  have K_BadCount_NoInside : PySem.W.kitOne K (.ref a_BadCount) (.ref a_NoInside) = some false := kit_other ic_NoInside ty_NoInside su_BadCount_NoInside se_BadCount
  have K_BadCount_NoRoot : PySem.W.kitOne K (.ref a_BadCount) (.ref a_NoRoot) = some false := kit_other ic_NoRoot ty_NoRoot su_BadCount_NoRoot se_BadCount
  have K_BadRule_BadPrime : PySem.W.kitOne K (.ref a_BadRule) (.ref a_BadPrime) = some false := kit_other ic_BadPrime ty_BadPrime su_BadRule_BadPrime se_BadRule
  have K_BadRule_BadRow : PySem.W.kitOne K (.ref a_BadRule) (.ref a_BadRow) = some false := kit_other ic_BadRow ty_BadRow su_BadRule_BadRow se_BadRule
  have K_BadRule_BadCount : PySem.W.kitOne K (.ref a_BadRule) (.ref a_BadCount) = some false := kit_other ic_BadCount ty_BadCount su_BadRule_BadCount se_BadRule
  have K_BadRule_BadRule : PySem.W.kitOne K (.ref a_BadRule) (.ref a_BadRule) = some true := kit_self ic_BadRule ty_BadRule se_BadRule
  have K_BadRule_BadPlaces : PySem.W.kitOne K (.ref a_BadRule) (.ref a_BadPlaces) = some false := kit_other ic_BadPlaces ty_BadPlaces su_BadRule_BadPlaces se_BadRule
  have K_BadRule_BadTerms : PySem.W.kitOne K (.ref a_BadRule) (.ref a_BadTerms) = some false := kit_other ic_BadTerms ty_BadTerms su_BadRule_BadTerms se_BadRule
  have K_BadRule_NoPart : PySem.W.kitOne K (.ref a_BadRule) (.ref a_NoPart) = some false := kit_other ic_NoPart ty_NoPart su_BadRule_NoPart se_BadRule
  have K_BadRule_NoInside : PySem.W.kitOne K (.ref a_BadRule) (.ref a_NoInside) = some false := kit_other ic_NoInside ty_NoInside su_BadRule_NoInside se_BadRule
  have K_BadRule_NoRoot : PySem.W.kitOne K (.ref a_BadRule) (.ref a_NoRoot) = some false := kit_other ic_NoRoot ty_NoRoot su_BadRule_NoRoot se_BadRule
  have K_BadPlaces_BadPrime : PySem.W.kitOne K (.ref a_BadPlaces) (.ref a_BadPrime) = some false := kit_other ic_BadPrime ty_BadPrime su_BadPlaces_BadPrime se_BadPlaces
  have K_BadPlaces_BadRow : PySem.W.kitOne K (.ref a_BadPlaces) (.ref a_BadRow) = some false := kit_other ic_BadRow ty_BadRow su_BadPlaces_BadRow se_BadPlaces
  have K_BadPlaces_BadCount : PySem.W.kitOne K (.ref a_BadPlaces) (.ref a_BadCount) = some false := kit_other ic_BadCount ty_BadCount su_BadPlaces_BadCount se_BadPlaces
  have K_BadPlaces_BadRule : PySem.W.kitOne K (.ref a_BadPlaces) (.ref a_BadRule) = some false := kit_other ic_BadRule ty_BadRule su_BadPlaces_BadRule se_BadPlaces
  have K_BadPlaces_BadPlaces : PySem.W.kitOne K (.ref a_BadPlaces) (.ref a_BadPlaces) = some true := kit_self ic_BadPlaces ty_BadPlaces se_BadPlaces
  have K_BadPlaces_BadTerms : PySem.W.kitOne K (.ref a_BadPlaces) (.ref a_BadTerms) = some false := kit_other ic_BadTerms ty_BadTerms su_BadPlaces_BadTerms se_BadPlaces
  have K_BadPlaces_NoPart : PySem.W.kitOne K (.ref a_BadPlaces) (.ref a_NoPart) = some false := kit_other ic_NoPart ty_NoPart su_BadPlaces_NoPart se_BadPlaces
  have K_BadPlaces_NoInside : PySem.W.kitOne K (.ref a_BadPlaces) (.ref a_NoInside) = some false := kit_other ic_NoInside ty_NoInside su_BadPlaces_NoInside se_BadPlaces
  have K_BadPlaces_NoRoot : PySem.W.kitOne K (.ref a_BadPlaces) (.ref a_NoRoot) = some false := kit_other ic_NoRoot ty_NoRoot su_BadPlaces_NoRoot se_BadPlaces
  have K_BadTerms_BadPrime : PySem.W.kitOne K (.ref a_BadTerms) (.ref a_BadPrime) = some false := kit_other ic_BadPrime ty_BadPrime su_BadTerms_BadPrime se_BadTerms
  have K_BadTerms_BadRow : PySem.W.kitOne K (.ref a_BadTerms) (.ref a_BadRow) = some false := kit_other ic_BadRow ty_BadRow su_BadTerms_BadRow se_BadTerms
  have K_BadTerms_BadCount : PySem.W.kitOne K (.ref a_BadTerms) (.ref a_BadCount) = some false := kit_other ic_BadCount ty_BadCount su_BadTerms_BadCount se_BadTerms
  have K_BadTerms_BadRule : PySem.W.kitOne K (.ref a_BadTerms) (.ref a_BadRule) = some false := kit_other ic_BadRule ty_BadRule su_BadTerms_BadRule se_BadTerms
  have K_BadTerms_BadPlaces : PySem.W.kitOne K (.ref a_BadTerms) (.ref a_BadPlaces) = some false := kit_other ic_BadPlaces ty_BadPlaces su_BadTerms_BadPlaces se_BadTerms
  have K_BadTerms_BadTerms : PySem.W.kitOne K (.ref a_BadTerms) (.ref a_BadTerms) = some true := kit_self ic_BadTerms ty_BadTerms se_BadTerms
  have K_BadTerms_NoPart : PySem.W.kitOne K (.ref a_BadTerms) (.ref a_NoPart) = some false := kit_other ic_NoPart ty_NoPart su_BadTerms_NoPart se_BadTerms
  have K_BadTerms_NoInside : PySem.W.kitOne K (.ref a_BadTerms) (.ref a_NoInside) = some false := kit_other ic_NoInside ty_NoInside su_BadTerms_NoInside se_BadTerms
  have K_BadTerms_NoRoot : PySem.W.kitOne K (.ref a_BadTerms) (.ref a_NoRoot) = some false := kit_other ic_NoRoot ty_NoRoot su_BadTerms_NoRoot se_BadTerms
  have K_NoPart_BadPrime : PySem.W.kitOne K (.ref a_NoPart) (.ref a_BadPrime) = some false := kit_other ic_BadPrime ty_BadPrime su_NoPart_BadPrime se_NoPart
  have K_NoPart_BadRow : PySem.W.kitOne K (.ref a_NoPart) (.ref a_BadRow) = some false := kit_other ic_BadRow ty_BadRow su_NoPart_BadRow se_NoPart
  have K_NoPart_BadCount : PySem.W.kitOne K (.ref a_NoPart) (.ref a_BadCount) = some false := kit_other ic_BadCount ty_BadCount su_NoPart_BadCount se_NoPart
  have K_NoPart_BadRule : PySem.W.kitOne K (.ref a_NoPart) (.ref a_BadRule) = some false := kit_other ic_BadRule ty_BadRule su_NoPart_BadRule se_NoPart
  have K_NoPart_BadPlaces : PySem.W.kitOne K (.ref a_NoPart) (.ref a_BadPlaces) = some false := kit_other ic_BadPlaces ty_BadPlaces su_NoPart_BadPlaces se_NoPart
  have K_NoPart_BadTerms : PySem.W.kitOne K (.ref a_NoPart) (.ref a_BadTerms) = some false := kit_other ic_BadTerms ty_BadTerms su_NoPart_BadTerms se_NoPart
  have K_NoPart_NoPart : PySem.W.kitOne K (.ref a_NoPart) (.ref a_NoPart) = some true := kit_self ic_NoPart ty_NoPart se_NoPart
  have K_NoPart_NoInside : PySem.W.kitOne K (.ref a_NoPart) (.ref a_NoInside) = some false := kit_other ic_NoInside ty_NoInside su_NoPart_NoInside se_NoPart
  have K_NoPart_NoRoot : PySem.W.kitOne K (.ref a_NoPart) (.ref a_NoRoot) = some false := kit_other ic_NoRoot ty_NoRoot su_NoPart_NoRoot se_NoPart
  have K_NoInside_BadPrime : PySem.W.kitOne K (.ref a_NoInside) (.ref a_BadPrime) = some false := kit_other ic_BadPrime ty_BadPrime su_NoInside_BadPrime se_NoInside
  have K_NoInside_BadRow : PySem.W.kitOne K (.ref a_NoInside) (.ref a_BadRow) = some false := kit_other ic_BadRow ty_BadRow su_NoInside_BadRow se_NoInside
  have K_NoInside_BadCount : PySem.W.kitOne K (.ref a_NoInside) (.ref a_BadCount) = some false := kit_other ic_BadCount ty_BadCount su_NoInside_BadCount se_NoInside
  have K_NoInside_BadRule : PySem.W.kitOne K (.ref a_NoInside) (.ref a_BadRule) = some false := kit_other ic_BadRule ty_BadRule su_NoInside_BadRule se_NoInside
  have K_NoInside_BadPlaces : PySem.W.kitOne K (.ref a_NoInside) (.ref a_BadPlaces) = some false := kit_other ic_BadPlaces ty_BadPlaces su_NoInside_BadPlaces se_NoInside
  have K_NoInside_BadTerms : PySem.W.kitOne K (.ref a_NoInside) (.ref a_BadTerms) = some false := kit_other ic_BadTerms ty_BadTerms su_NoInside_BadTerms se_NoInside
  have K_NoInside_NoPart : PySem.W.kitOne K (.ref a_NoInside) (.ref a_NoPart) = some false := kit_other ic_NoPart ty_NoPart su_NoInside_NoPart se_NoInside
  have K_NoInside_NoInside : PySem.W.kitOne K (.ref a_NoInside) (.ref a_NoInside) = some true := kit_self ic_NoInside ty_NoInside se_NoInside
  have K_NoInside_NoRoot : PySem.W.kitOne K (.ref a_NoInside) (.ref a_NoRoot) = some false := kit_other ic_NoRoot ty_NoRoot su_NoInside_NoRoot se_NoInside
  have K_NoRoot_BadPrime : PySem.W.kitOne K (.ref a_NoRoot) (.ref a_BadPrime) = some false := kit_other ic_BadPrime ty_BadPrime su_NoRoot_BadPrime se_NoRoot
  have K_NoRoot_BadRow : PySem.W.kitOne K (.ref a_NoRoot) (.ref a_BadRow) = some false := kit_other ic_BadRow ty_BadRow su_NoRoot_BadRow se_NoRoot
  have K_NoRoot_BadCount : PySem.W.kitOne K (.ref a_NoRoot) (.ref a_BadCount) = some false := kit_other ic_BadCount ty_BadCount su_NoRoot_BadCount se_NoRoot
  have K_NoRoot_BadRule : PySem.W.kitOne K (.ref a_NoRoot) (.ref a_BadRule) = some false := kit_other ic_BadRule ty_BadRule su_NoRoot_BadRule se_NoRoot
  have K_NoRoot_BadPlaces : PySem.W.kitOne K (.ref a_NoRoot) (.ref a_BadPlaces) = some false := kit_other ic_BadPlaces ty_BadPlaces su_NoRoot_BadPlaces se_NoRoot
  have K_NoRoot_BadTerms : PySem.W.kitOne K (.ref a_NoRoot) (.ref a_BadTerms) = some false := kit_other ic_BadTerms ty_BadTerms su_NoRoot_BadTerms se_NoRoot
  have K_NoRoot_NoPart : PySem.W.kitOne K (.ref a_NoRoot) (.ref a_NoPart) = some false := kit_other ic_NoPart ty_NoPart su_NoRoot_NoPart se_NoRoot
  have K_NoRoot_NoInside : PySem.W.kitOne K (.ref a_NoRoot) (.ref a_NoInside) = some false := kit_other ic_NoInside ty_NoInside su_NoRoot_NoInside se_NoRoot
  have K_NoRoot_NoRoot : PySem.W.kitOne K (.ref a_NoRoot) (.ref a_NoRoot) = some true := kit_self ic_NoRoot ty_NoRoot se_NoRoot
  refine ⟨PySem.W.fnOf "law" "law" (defArgs s_law) (defBody s_law) (defScope s_law) .none kV_law dc_law pm_law an_law cd_law ct_law, [(cc_law_primes_right, PP_law_primes_right), (cc_law_rows_right, PP_law_rows_right), (cc_law_rules_right, PP_law_rules_right), (cc_law_terms_right, PP_law_terms_right)], spLaw K [(PP_law_primes_right, (("_law_primes_right" : Str) ++ ".<locals>." ++ "<lambda>" : Str)), (PP_law_rows_right, (("_law_rows_right" : Str) ++ ".<locals>." ++ "<lambda>" : Str)), (PP_law_rules_right, (("_law_rules_right" : Str) ++ ".<locals>." ++ "<lambda>" : Str)), (PP_law_terms_right, (("_law_terms_right" : Str) ++ ".<locals>." ++ "<lambda>" : Str))], ?_, ?_, ?_, fun s v => .of_eq rfl, ?_, fun base _ _ hTB => ?_⟩
  · intro p hp
    simp only [List.mem_cons, List.not_mem_nil, or_false] at hp
    rcases hp with rfl | rfl | rfl | rfl
    · exact own "_law_primes_right" f_law_primes_right rq_law_primes_right (PySem.W.mg_of X G n_law_primes_right) cc_law_primes_right PP_law_primes_right _ _ _ _ _ _ l_law_primes_right rfl rfl lc_cc_law_primes_right v11_cc_law_primes_right
    · exact own "_law_rows_right" f_law_rows_right rq_law_rows_right (PySem.W.mg_of X G n_law_rows_right) cc_law_rows_right PP_law_rows_right _ _ _ _ _ _ l_law_rows_right rfl rfl lc_cc_law_rows_right v11_cc_law_rows_right
    · exact own "_law_rules_right" f_law_rules_right rq_law_rules_right (PySem.W.mg_of X G n_law_rules_right) cc_law_rules_right PP_law_rules_right _ _ _ _ _ _ l_law_rules_right rfl rfl lc_cc_law_rules_right v11_cc_law_rules_right
    · exact own "_law_terms_right" f_law_terms_right rq_law_terms_right (PySem.W.mg_of X G n_law_terms_right) cc_law_terms_right PP_law_terms_right _ _ _ _ _ _ l_law_terms_right rfl rfl lc_cc_law_terms_right v11_cc_law_terms_right
  · intro p hp
    simp only [List.mem_cons, List.not_mem_nil, or_false] at hp
    rcases hp with rfl | rfl | rfl | rfl
    · exact nT_cc_law_primes_right
    · exact nT_cc_law_rows_right
    · exact nT_cc_law_rules_right
    · exact nT_cc_law_terms_right
  · intro p hp
    simp only [List.mem_cons, List.not_mem_nil, or_false] at hp
    rcases hp with rfl | rfl | rfl | rfl
    · exact ⟨_, vs_cc_law_primes_right, fi_cc_law_primes_right, tf_cc_law_primes_right, fl_cc_law_primes_right, tg_cc_law_primes_right, in_cc_law_primes_right, tx_cc_law_primes_right, tt_cc_law_primes_right, X _ _ lc_cc_law_primes_right, rfl, rfl, v11_cc_law_primes_right, g11_cc_law_primes_right, g18_cc_law_primes_right, g7_cc_law_primes_right, g9_cc_law_primes_right, g10_cc_law_primes_right, ne_cc_law_primes_right⟩
    · exact ⟨_, vs_cc_law_rows_right, fi_cc_law_rows_right, tf_cc_law_rows_right, fl_cc_law_rows_right, tg_cc_law_rows_right, in_cc_law_rows_right, tx_cc_law_rows_right, tt_cc_law_rows_right, X _ _ lc_cc_law_rows_right, rfl, rfl, v11_cc_law_rows_right, g11_cc_law_rows_right, g18_cc_law_rows_right, g7_cc_law_rows_right, g9_cc_law_rows_right, g10_cc_law_rows_right, ne_cc_law_rows_right⟩
    · exact ⟨_, vs_cc_law_rules_right, fi_cc_law_rules_right, tf_cc_law_rules_right, fl_cc_law_rules_right, tg_cc_law_rules_right, in_cc_law_rules_right, tx_cc_law_rules_right, tt_cc_law_rules_right, X _ _ lc_cc_law_rules_right, rfl, rfl, v11_cc_law_rules_right, g11_cc_law_rules_right, g18_cc_law_rules_right, g7_cc_law_rules_right, g9_cc_law_rules_right, g10_cc_law_rules_right, ne_cc_law_rules_right⟩
    · exact ⟨_, vs_cc_law_terms_right, fi_cc_law_terms_right, tf_cc_law_terms_right, fl_cc_law_terms_right, tg_cc_law_terms_right, in_cc_law_terms_right, tx_cc_law_terms_right, tt_cc_law_terms_right, X _ _ lc_cc_law_terms_right, rfl, rfl, v11_cc_law_terms_right, g11_cc_law_terms_right, g18_cc_law_terms_right, g7_cc_law_terms_right, g9_cc_law_terms_right, g10_cc_law_terms_right, ne_cc_law_terms_right⟩
  · refine fun H a ns hl hb hT hS => ⟨a, ns, rfl, hS, hb, tabs_start fun p hp => ?_, fun _ => rfl⟩
    simp only [List.mem_cons, List.not_mem_nil, or_false] at hp
    rcases hp with rfl | rfl | rfl | rfl
    · exact hT (cc_law_primes_right, PP_law_primes_right) List.mem_cons_self
    · exact hT (cc_law_rows_right, PP_law_rows_right) (List.mem_cons_of_mem _ List.mem_cons_self)
    · exact hT (cc_law_rules_right, PP_law_rules_right) (List.mem_cons_of_mem _ (List.mem_cons_of_mem _ List.mem_cons_self))
    · exact hT (cc_law_terms_right, PP_law_terms_right) (List.mem_cons_of_mem _ (List.mem_cons_of_mem _ (List.mem_cons_of_mem _ List.mem_cons_self)))
  have TB_law_primes_right := hTB (cc_law_primes_right, PP_law_primes_right) List.mem_cons_self
  have hm_law_primes_right : (PP_law_primes_right, (("_law_primes_right" : Str) ++ ".<locals>." ++ "<lambda>" : Str)) ∈ ([(PP_law_primes_right, (("_law_primes_right" : Str) ++ ".<locals>." ++ "<lambda>" : Str)), (PP_law_rows_right, (("_law_rows_right" : Str) ++ ".<locals>." ++ "<lambda>" : Str)), (PP_law_rules_right, (("_law_rules_right" : Str) ++ ".<locals>." ++ "<lambda>" : Str)), (PP_law_terms_right, (("_law_terms_right" : Str) ++ ".<locals>." ++ "<lambda>" : Str))] : List (Addr × Str)) := List.mem_cons_self
  have hu_law_primes_right : ∀ p ∈ ([(PP_law_primes_right, (("_law_primes_right" : Str) ++ ".<locals>." ++ "<lambda>" : Str)), (PP_law_rows_right, (("_law_rows_right" : Str) ++ ".<locals>." ++ "<lambda>" : Str)), (PP_law_rules_right, (("_law_rules_right" : Str) ++ ".<locals>." ++ "<lambda>" : Str)), (PP_law_terms_right, (("_law_terms_right" : Str) ++ ".<locals>." ++ "<lambda>" : Str))] : List (Addr × Str)), p.1 = PP_law_primes_right → p.2 = (("_law_primes_right" : Str) ++ ".<locals>." ++ "<lambda>" : Str) := by
    intro p hp e
    simp only [List.mem_cons, List.not_mem_nil, or_false] at hp
    rcases hp with rfl | rfl | rfl | rfl
    · rfl
    · exact absurd e.symm dP_law_primes_right_law_rows_right
    · exact absurd e.symm dP_law_primes_right_law_rules_right
    · exact absurd e.symm dP_law_primes_right_law_terms_right
  have TB_law_rows_right := hTB (cc_law_rows_right, PP_law_rows_right) (List.mem_cons_of_mem _ List.mem_cons_self)
  have hm_law_rows_right : (PP_law_rows_right, (("_law_rows_right" : Str) ++ ".<locals>." ++ "<lambda>" : Str)) ∈ ([(PP_law_primes_right, (("_law_primes_right" : Str) ++ ".<locals>." ++ "<lambda>" : Str)), (PP_law_rows_right, (("_law_rows_right" : Str) ++ ".<locals>." ++ "<lambda>" : Str)), (PP_law_rules_right, (("_law_rules_right" : Str) ++ ".<locals>." ++ "<lambda>" : Str)), (PP_law_terms_right, (("_law_terms_right" : Str) ++ ".<locals>." ++ "<lambda>" : Str))] : List (Addr × Str)) := (List.mem_cons_of_mem _ List.mem_cons_self)
  have hu_law_rows_right : ∀ p ∈ ([(PP_law_primes_right, (("_law_primes_right" : Str) ++ ".<locals>." ++ "<lambda>" : Str)), (PP_law_rows_right, (("_law_rows_right" : Str) ++ ".<locals>." ++ "<lambda>" : Str)), (PP_law_rules_right, (("_law_rules_right" : Str) ++ ".<locals>." ++ "<lambda>" : Str)), (PP_law_terms_right, (("_law_terms_right" : Str) ++ ".<locals>." ++ "<lambda>" : Str))] : List (Addr × Str)), p.1 = PP_law_rows_right → p.2 = (("_law_rows_right" : Str) ++ ".<locals>." ++ "<lambda>" : Str) := by
    intro p hp e
    simp only [List.mem_cons, List.not_mem_nil, or_false] at hp
    rcases hp with rfl | rfl | rfl | rfl
    · exact absurd e dP_law_primes_right_law_rows_right
    · rfl
    · exact absurd e.symm dP_law_rows_right_law_rules_right
    · exact absurd e.symm dP_law_rows_right_law_terms_right
  have TB_law_rules_right := hTB (cc_law_rules_right, PP_law_rules_right) (List.mem_cons_of_mem _ (List.mem_cons_of_mem _ List.mem_cons_self))
  have hm_law_rules_right : (PP_law_rules_right, (("_law_rules_right" : Str) ++ ".<locals>." ++ "<lambda>" : Str)) ∈ ([(PP_law_primes_right, (("_law_primes_right" : Str) ++ ".<locals>." ++ "<lambda>" : Str)), (PP_law_rows_right, (("_law_rows_right" : Str) ++ ".<locals>." ++ "<lambda>" : Str)), (PP_law_rules_right, (("_law_rules_right" : Str) ++ ".<locals>." ++ "<lambda>" : Str)), (PP_law_terms_right, (("_law_terms_right" : Str) ++ ".<locals>." ++ "<lambda>" : Str))] : List (Addr × Str)) := (List.mem_cons_of_mem _ (List.mem_cons_of_mem _ List.mem_cons_self))
  have hu_law_rules_right : ∀ p ∈ ([(PP_law_primes_right, (("_law_primes_right" : Str) ++ ".<locals>." ++ "<lambda>" : Str)), (PP_law_rows_right, (("_law_rows_right" : Str) ++ ".<locals>." ++ "<lambda>" : Str)), (PP_law_rules_right, (("_law_rules_right" : Str) ++ ".<locals>." ++ "<lambda>" : Str)), (PP_law_terms_right, (("_law_terms_right" : Str) ++ ".<locals>." ++ "<lambda>" : Str))] : List (Addr × Str)), p.1 = PP_law_rules_right → p.2 = (("_law_rules_right" : Str) ++ ".<locals>." ++ "<lambda>" : Str) := by
    intro p hp e
    simp only [List.mem_cons, List.not_mem_nil, or_false] at hp
    rcases hp with rfl | rfl | rfl | rfl
    · exact absurd e dP_law_primes_right_law_rules_right
    · exact absurd e dP_law_rows_right_law_rules_right
    · rfl
    · exact absurd e.symm dP_law_rules_right_law_terms_right
  have TB_law_terms_right := hTB (cc_law_terms_right, PP_law_terms_right) (List.mem_cons_of_mem _ (List.mem_cons_of_mem _ (List.mem_cons_of_mem _ List.mem_cons_self)))
  have hm_law_terms_right : (PP_law_terms_right, (("_law_terms_right" : Str) ++ ".<locals>." ++ "<lambda>" : Str)) ∈ ([(PP_law_primes_right, (("_law_primes_right" : Str) ++ ".<locals>." ++ "<lambda>" : Str)), (PP_law_rows_right, (("_law_rows_right" : Str) ++ ".<locals>." ++ "<lambda>" : Str)), (PP_law_rules_right, (("_law_rules_right" : Str) ++ ".<locals>." ++ "<lambda>" : Str)), (PP_law_terms_right, (("_law_terms_right" : Str) ++ ".<locals>." ++ "<lambda>" : Str))] : List (Addr × Str)) := (List.mem_cons_of_mem _ (List.mem_cons_of_mem _ (List.mem_cons_of_mem _ List.mem_cons_self)))
  have hu_law_terms_right : ∀ p ∈ ([(PP_law_primes_right, (("_law_primes_right" : Str) ++ ".<locals>." ++ "<lambda>" : Str)), (PP_law_rows_right, (("_law_rows_right" : Str) ++ ".<locals>." ++ "<lambda>" : Str)), (PP_law_rules_right, (("_law_rules_right" : Str) ++ ".<locals>." ++ "<lambda>" : Str)), (PP_law_terms_right, (("_law_terms_right" : Str) ++ ".<locals>." ++ "<lambda>" : Str))] : List (Addr × Str)), p.1 = PP_law_terms_right → p.2 = (("_law_terms_right" : Str) ++ ".<locals>." ++ "<lambda>" : Str) := by
    intro p hp e
    simp only [List.mem_cons, List.not_mem_nil, or_false] at hp
    rcases hp with rfl | rfl | rfl | rfl
    · exact absurd e dP_law_primes_right_law_terms_right
    · exact absurd e dP_law_rows_right_law_terms_right
    · exact absurd e dP_law_rules_right_law_terms_right
    · rfl
  have C_is_number := ok_is_number (P := l.prog) (w := w) (base := base) D_is_number B 
  have C_is_within := ok_is_within (P := l.prog) (w := w) (base := base) D_is_within B C_is_number
  have C_is_rest := ok_is_rest (P := l.prog) (w := w) (base := base) D_is_rest B C_is_within
  have C_are_rests := ok_are_rests (P := l.prog) (w := w) (base := base) D_are_rests B C_is_rest
  have C_need_prime := ok_need_prime (P := l.prog) (w := w) (base := base) D_need_prime B C_is_number
  have C_need_row := ok_need_row (P := l.prog) (w := w) (base := base) D_need_row B C_are_rests
  have C_need_prime_and_rows := ok_need_prime_and_rows (P := l.prog) (w := w) (base := base) D_need_prime_and_rows B C_need_prime C_need_row
  have C_is_rule := ok_is_rule (P := l.prog) (w := w) (base := base) D_is_rule B C_are_rests
  have C_need_rule := ok_need_rule (P := l.prog) (w := w) (base := base) D_need_rule B C_is_rule
  have C_is_term := ok_is_term (P := l.prog) (w := w) (base := base) D_is_term B C_is_within C_is_rest
  have C_are_terms := ok_are_terms (P := l.prog) (w := w) (base := base) D_are_terms B C_is_term
  have C_need_terms := ok_need_terms (P := l.prog) (w := w) (base := base) D_need_terms B C_are_terms
  have C_need_count := ok_need_count (P := l.prog) (w := w) (base := base) D_need_count B C_is_number
  have C_need_count_within := ok_need_count_within (P := l.prog) (w := w) (base := base) D_need_count_within B C_is_within
  have C_need_places := ok_need_places (P := l.prog) (w := w) (base := base) D_need_places B C_are_rests
  have C_inverse := ok_inverse (P := l.prog) (w := w) (base := base) D_inverse B 
  have C_product_place := ok_product_place (P := l.prog) (w := w) (base := base) D_product_place B 
  have C_product := ok_product (P := l.prog) (w := w) (base := base) D_product B C_product_place
  have C_quotient := ok_quotient (P := l.prog) (w := w) (base := base) D_quotient B C_inverse
  have X_parted := ok_parted_x (P := l.prog) (w := w) (base := base) D_parted B X_NoPart C_need_prime_and_rows
  have C_lesser_count := ok_lesser_count (P := l.prog) (w := w) (base := base) D_lesser_count B 
  have C_raised := ok_raised (P := l.prog) (w := w) (base := base) D_raised B C_need_prime C_need_row C_need_count C_lesser_count C_product
  have C_lesser_root := ok_lesser_root (P := l.prog) (w := w) (base := base) D_lesser_root B 
  have C_root := ok_root (P := l.prog) (w := w) (base := base) D_root B C_need_prime C_need_row C_lesser_root C_inverse
  have X_root := ok_root_x (P := l.prog) (w := w) (base := base) D_root B X_NoRoot C_need_prime C_need_row C_lesser_root
  have C_put_in := ok_put_in (P := l.prog) (w := w) (base := base) D_put_in B C_need_prime_and_rows C_product
  have X_put_in := ok_put_in_x (P := l.prog) (w := w) (base := base) D_put_in B X_NoInside C_need_prime_and_rows
  have C_solved := ok_solved (P := l.prog) (w := w) (base := base) D_solved B C_inverse C_product
  have C_turned_out := ok_turned_out (P := l.prog) (w := w) (base := base) D_turned_out B C_need_prime C_need_row C_solved
  have X_turned_out := ok_turned_out_x (P := l.prog) (w := w) (base := base) D_turned_out B X_NoInside C_need_prime C_need_row
  have C_term_sum := ok_term_sum (P := l.prog) (w := w) (base := base) D_term_sum B 
  have C_grown := ok_grown (P := l.prog) (w := w) (base := base) D_grown B C_need_prime C_need_terms C_need_count_within C_term_sum C_product_place
  have C_first_places := ok_first_places (P := l.prog) (w := w) (base := base) D_first_places B 
  have C_opened := ok_opened (P := l.prog) (w := w) (base := base) D_opened B C_need_prime C_need_rule C_need_count_within C_first_places C_quotient
  have C_is_number_g := ok_is_number_g (P := l.prog) (w := w) (base := base) D_is_number B 
  have C_is_within_g := ok_is_within_g (P := l.prog) (w := w) (base := base) D_is_within B C_is_number_g
  have C_is_rest_g := ok_is_rest_g (P := l.prog) (w := w) (base := base) D_is_rest B C_is_within_g
  have C_are_rests_g := ok_are_rests_g (P := l.prog) (w := w) (base := base) D_are_rests B C_is_rest_g
  have C_is_rule_g := ok_is_rule_g (P := l.prog) (w := w) (base := base) D_is_rule B C_are_rests_g
  have C_is_term_g := ok_is_term_g (P := l.prog) (w := w) (base := base) D_is_term B C_is_within_g C_is_rest_g
  have C_are_terms_g := ok_are_terms_g (P := l.prog) (w := w) (base := base) D_are_terms B C_is_term_g
  have X_need_prime := ok_need_prime_x (P := l.prog) (w := w) (base := base) D_need_prime B X_BadPrime C_is_number_g
  have X_need_row := ok_need_row_x (P := l.prog) (w := w) (base := base) D_need_row B X_BadRow C_are_rests_g
  have X_need_places := ok_need_places_x (P := l.prog) (w := w) (base := base) D_need_places B X_BadPlaces C_are_rests_g
  have X_need_rule := ok_need_rule_x (P := l.prog) (w := w) (base := base) D_need_rule B X_BadRule C_is_rule_g
  have X_need_terms := ok_need_terms_x (P := l.prog) (w := w) (base := base) D_need_terms B X_BadTerms C_are_terms_g
  have X_need_count := ok_need_count_x (P := l.prog) (w := w) (base := base) D_need_count B X_BadCount C_is_number_g
  have X_need_count_within := ok_need_count_within_x (P := l.prog) (w := w) (base := base) D_need_count_within B X_BadCount C_is_within_g
  have X_need_prime_and_rows := ok_need_prime_and_rows_x (P := l.prog) (w := w) (base := base) D_need_prime_and_rows B X_need_prime C_need_prime X_need_row C_need_row
  have X_raised_b := ok_raised_b_x (P := l.prog) (w := w) (base := base) D_raised B X_need_prime C_need_prime X_need_row C_need_row X_need_count
  have X_opened_b := ok_opened_b_x (P := l.prog) (w := w) (base := base) D_opened B X_need_prime C_need_prime X_need_rule C_need_rule X_need_count_within
  have X_far_place_b := ok_far_place_b_x (P := l.prog) (w := w) (base := base) D_far_place B X_need_prime C_need_prime X_need_rule C_need_rule X_need_count
  have X_alike_b := ok_alike_b_x (P := l.prog) (w := w) (base := base) D_alike B X_need_prime C_need_prime X_need_rule C_need_rule
  have X_tapped_b := ok_tapped_b_x (P := l.prog) (w := w) (base := base) D_tapped B X_need_prime C_need_prime X_need_places C_need_places X_need_count_within
  have X_grown_b := ok_grown_b_x (P := l.prog) (w := w) (base := base) D_grown B X_need_prime C_need_prime X_need_terms C_need_terms X_need_count_within
  have X_plus_b := ok_plus_b_x (P := l.prog) (w := w) (base := base) D_plus B X_need_prime_and_rows
  have X_times_b := ok_times_b_x (P := l.prog) (w := w) (base := base) D_times B X_need_prime_and_rows
  have X_parted_b := ok_parted_b_x (P := l.prog) (w := w) (base := base) D_parted B X_need_prime_and_rows
  have X_put_in_b := ok_put_in_b_x (P := l.prog) (w := w) (base := base) D_put_in B X_need_prime_and_rows
  have X_turned_out_b := ok_turned_out_b_x (P := l.prog) (w := w) (base := base) D_turned_out B X_need_prime C_need_prime X_need_row
  have X_root_b := ok_root_b_x (P := l.prog) (w := w) (base := base) D_root B X_need_prime C_need_prime X_need_row
  have C_law_refused := ok_law_refused (P := l.prog) (w := w) (base := base) D_law_refused B E_BadPrime E_BadRow E_BadCount E_BadRule E_BadPlaces E_BadTerms E_NoPart E_NoInside E_NoRoot M_BadPrime_PowerError M_BadRow_PowerError M_BadCount_PowerError M_BadRule_PowerError M_BadPlaces_PowerError M_BadTerms_PowerError M_NoPart_PowerError M_NoInside_PowerError M_NoRoot_PowerError V_BadPrime V_BadRow V_BadCount V_BadRule V_BadPlaces V_BadTerms V_NoPart V_NoInside V_NoRoot K_BadPrime_BadPrime K_BadPrime_BadRow K_BadPrime_BadCount K_BadPrime_BadRule K_BadPrime_BadPlaces K_BadPrime_BadTerms K_BadPrime_NoPart K_BadPrime_NoInside K_BadPrime_NoRoot K_BadRow_BadPrime K_BadRow_BadRow K_BadRow_BadCount K_BadRow_BadRule K_BadRow_BadPlaces K_BadRow_BadTerms K_BadRow_NoPart K_BadRow_NoInside K_BadRow_NoRoot K_BadCount_BadPrime K_BadCount_BadRow K_BadCount_BadCount K_BadCount_BadRule K_BadCount_BadPlaces K_BadCount_BadTerms K_BadCount_NoPart K_BadCount_NoInside K_BadCount_NoRoot K_BadRule_BadPrime K_BadRule_BadRow K_BadRule_BadCount K_BadRule_BadRule K_BadRule_BadPlaces K_BadRule_BadTerms K_BadRule_NoPart K_BadRule_NoInside K_BadRule_NoRoot K_BadPlaces_BadPrime K_BadPlaces_BadRow K_BadPlaces_BadCount K_BadPlaces_BadRule K_BadPlaces_BadPlaces K_BadPlaces_BadTerms K_BadPlaces_NoPart K_BadPlaces_NoInside K_BadPlaces_NoRoot K_BadTerms_BadPrime K_BadTerms_BadRow K_BadTerms_BadCount K_BadTerms_BadRule K_BadTerms_BadPlaces K_BadTerms_BadTerms K_BadTerms_NoPart K_BadTerms_NoInside K_BadTerms_NoRoot K_NoPart_BadPrime K_NoPart_BadRow K_NoPart_BadCount K_NoPart_BadRule K_NoPart_BadPlaces K_NoPart_BadTerms K_NoPart_NoPart K_NoPart_NoInside K_NoPart_NoRoot K_NoInside_BadPrime K_NoInside_BadRow K_NoInside_BadCount K_NoInside_BadRule K_NoInside_BadPlaces K_NoInside_BadTerms K_NoInside_NoPart K_NoInside_NoInside K_NoInside_NoRoot K_NoRoot_BadPrime K_NoRoot_BadRow K_NoRoot_BadCount K_NoRoot_BadRule K_NoRoot_BadPlaces K_NoRoot_BadTerms K_NoRoot_NoPart K_NoRoot_NoInside K_NoRoot_NoRoot
  have C_law_each := ok_law_each (P := l.prog) (w := w) (base := base) D_law_each B C_law_refused
  have C_law_no_numbers := ok_law_no_numbers (P := l.prog) (w := w) (base := base) D_law_no_numbers B 
  have C_law_no_lists := ok_law_no_lists (P := l.prog) (w := w) (base := base) D_law_no_lists B C_law_no_numbers
  have C_law_primes_right := ok_law_primes_right (P := l.prog) (w := w) (base := base) K_law_primes_right B TB_law_primes_right hm_law_primes_right hu_law_primes_right C_law_no_numbers C_law_each X_plus_b X_times_b X_parted_b X_put_in_b X_turned_out_b X_raised_b X_root_b X_opened_b X_far_place_b X_alike_b X_tapped_b X_grown_b
  have C_law_rows_right := ok_law_rows_right (P := l.prog) (w := w) (base := base) K_law_rows_right B TB_law_rows_right hm_law_rows_right hu_law_rows_right C_law_no_numbers C_law_no_lists C_law_each X_plus_b X_times_b X_parted_b X_put_in_b X_turned_out_b X_raised_b X_root_b X_parted X_put_in X_turned_out X_root
  have C_law_rules_right := ok_law_rules_right (P := l.prog) (w := w) (base := base) K_law_rules_right B TB_law_rules_right hm_law_rules_right hu_law_rules_right C_law_no_numbers C_law_no_lists C_law_each X_opened_b X_far_place_b X_alike_b X_tapped_b
  have C_law_terms_right := ok_law_terms_right (P := l.prog) (w := w) (base := base) K_law_terms_right B TB_law_terms_right hm_law_terms_right hu_law_terms_right C_law_no_numbers C_law_each X_grown_b
  exact ok_law (P := l.prog) (w := w) (base := base) D_law B C_law_primes_right C_law_rows_right C_law_rules_right C_law_terms_right C_opened C_grown C_raised
end Pw
open PySem PySem.W PyProof.Rows
set_option maxHeartbeats 0 in
theorem PySem.Challenge.cw_powerrows_k10_refused_holds : PySem.Challenge.rw_powerrows_k10_refused.Holds := by
  w_on; o_law; k_head; (case hw => w_witness2)
  k_fill
  refine Pw.walk_ofOwns (l := PySem.Challenge.rw_powerrows_k10_refused) (n := 63) (k := 30) (x := "_law_script") (CX := fun _ => L2.CX0) rfl (by decide) rfl ⟨rfl, by decide, by decide⟩ (fun w h Y => PySem.W.km_in_of Y) ?F (fun _ _ _ _ _ h => h)
  case F =>
    intro w mg fa h Y KX G hmg own
    refine' Pw.all_mk KX G hmg own ?z_ValueError ?z_abs ?z_all ?z_bool ?z_enumerate ?z_int ?z_isinstance ?z_len ?z_list ?z_max ?z_min ?z_range ?z_reversed ?z_sum ?z_tuple ?z_zip ?n_PRIMES ?o_PRIMES ?s_PRIMES ?v_PRIMES ?n_MOST_CUT ?n_MOST_RULED ?n_MOST_PLACES ?n_MOST_TERMS ?n_PowerError ?k_PowerError ?sb_PowerError ?ty_PowerError ?ic_PowerError ?n_BadPrime ?k_BadPrime ?sb_BadPrime ?ty_BadPrime ?ic_BadPrime ?n_BadRow ?k_BadRow ?sb_BadRow ?ty_BadRow ?ic_BadRow ?n_BadCount ?k_BadCount ?sb_BadCount ?ty_BadCount ?ic_BadCount ?n_BadRule ?k_BadRule ?sb_BadRule ?ty_BadRule ?ic_BadRule ?n_BadPlaces ?k_BadPlaces ?sb_BadPlaces ?ty_BadPlaces ?ic_BadPlaces ?n_BadTerms ?k_BadTerms ?sb_BadTerms ?ty_BadTerms ?ic_BadTerms ?n_NoPart ?k_NoPart ?sb_NoPart ?ty_NoPart ?ic_NoPart ?n_NoInside ?k_NoInside ?sb_NoInside ?ty_NoInside ?ic_NoInside ?n_NoRoot ?k_NoRoot ?sb_NoRoot ?ty_NoRoot ?ic_NoRoot ?n_Answer ?k_Answer ?ty_Answer ?ic_Answer ?pg_Answer ?hd_Answer ?po_Answer ?sa_Answer ?n_Alike ?k_Alike ?ty_Alike ?ic_Alike ?pg_Alike ?hd_Alike ?po_Alike ?sa_Alike ?mk_Alike ?io_Alike ?n_Unlike ?k_Unlike ?ty_Unlike ?ic_Unlike ?pg_Unlike ?hd_Unlike ?po_Unlike ?sa_Unlike ?na_Unlike_at ?n_Ruled ?k_Ruled ?ty_Ruled ?ic_Ruled ?pg_Ruled ?hd_Ruled ?po_Ruled ?sa_Ruled ?na_Ruled_taps ?n_Barred ?k_Barred ?ty_Barred ?ic_Barred ?pg_Barred ?hd_Barred ?po_Barred ?sa_Barred ?na_Barred_weights ?n_is_number ?l_is_number ?c_is_number ?k_is_number ?n_is_within ?l_is_within ?c_is_within ?k_is_within ?n_is_rest ?l_is_rest ?c_is_rest ?k_is_rest ?n_are_rests ?l_are_rests ?c_are_rests ?k_are_rests ?n_is_rule ?l_is_rule ?c_is_rule ?k_is_rule ?n_is_term ?l_is_term ?c_is_term ?k_is_term ?n_are_terms ?l_are_terms ?c_are_terms ?k_are_terms ?n_need_prime ?l_need_prime ?c_need_prime ?k_need_prime ?n_need_row ?l_need_row ?c_need_row ?k_need_row ?n_need_prime_and_rows ?l_need_prime_and_rows ?c_need_prime_and_rows ?k_need_prime_and_rows ?n_need_rule ?l_need_rule ?c_need_rule ?k_need_rule ?n_need_places ?l_need_places ?c_need_places ?k_need_places ?n_need_terms ?l_need_terms ?c_need_terms ?k_need_terms ?n_need_count ?l_need_count ?c_need_count ?k_need_count ?n_need_count_within ?l_need_count_within ?c_need_count_within ?k_need_count_within ?n_inverse ?l_inverse ?c_inverse ?k_inverse ?n_plus ?l_plus ?c_plus ?k_plus ?n_times ?l_times ?c_times ?k_times ?n_parted ?l_parted ?c_parted ?k_parted ?n_product ?l_product ?c_product ?k_product ?n_product_place ?l_product_place ?c_product_place ?k_product_place ?n_quotient ?l_quotient ?c_quotient ?k_quotient ?n_first_places ?l_first_places ?c_first_places ?k_first_places ?n_tapped ?l_tapped ?c_tapped ?k_tapped ?n_put_in ?l_put_in ?c_put_in ?k_put_in ?n_turned_out ?l_turned_out ?c_turned_out ?k_turned_out ?n_solved ?l_solved ?c_solved ?k_solved ?n_grown ?l_grown ?c_grown ?k_grown ?n_term_sum ?l_term_sum ?c_term_sum ?k_term_sum ?n_raised ?l_raised ?c_raised ?k_raised ?n_lesser_count ?l_lesser_count ?c_lesser_count ?k_lesser_count ?n_root ?l_root ?c_root ?k_root ?n_lesser_root ?l_lesser_root ?c_lesser_root ?k_lesser_root ?n_opened ?l_opened ?c_opened ?k_opened ?n_far_place ?l_far_place ?c_far_place ?k_far_place ?n_alike ?l_alike ?c_alike ?k_alike ?n_law_refused ?l_law_refused ?c_law_refused ?k_law_refused ?n_law_each ?l_law_each ?c_law_each ?k_law_each ?n_law_no_numbers ?l_law_no_numbers ?c_law_no_numbers ?k_law_no_numbers ?n_law_no_lists ?l_law_no_lists ?c_law_no_lists ?k_law_no_lists ?n_law_primes_right ?l_law_primes_right ?c_law_primes_right ?k_law_primes_right ?n_law_rows_right ?l_law_rows_right ?c_law_rows_right ?k_law_rows_right ?n_law_rules_right ?l_law_rules_right ?c_law_rules_right ?k_law_rules_right ?n_law_terms_right ?l_law_terms_right ?c_law_terms_right ?k_law_terms_right ?n_law ?l_law ?c_law ?k_law ?ex_NoPart ?ex_NoRoot ?ex_NoInside ?ex_BadPrime ?ex_BadRow ?ex_BadPlaces ?ex_BadRule ?ex_BadTerms ?ex_BadCount ?ga_BadPrime ?gt_BadPrime ?hd_BadPrime ?cl_BadPrime ?sp__get ?tk__get ?mo_BadPrime ?se_BadPrime ?ga_BadRow ?gt_BadRow ?hd_BadRow ?cl_BadRow ?mo_BadRow ?se_BadRow ?ga_BadCount ?gt_BadCount ?hd_BadCount ?cl_BadCount ?mo_BadCount ?se_BadCount ?ga_BadRule ?gt_BadRule ?hd_BadRule ?cl_BadRule ?mo_BadRule ?se_BadRule ?ga_BadPlaces ?gt_BadPlaces ?hd_BadPlaces ?cl_BadPlaces ?mo_BadPlaces ?se_BadPlaces ?ga_BadTerms ?gt_BadTerms ?hd_BadTerms ?cl_BadTerms ?mo_BadTerms ?se_BadTerms ?ga_NoPart ?gt_NoPart ?hd_NoPart ?cl_NoPart ?mo_NoPart ?se_NoPart ?ga_NoInside ?gt_NoInside ?hd_NoInside ?cl_NoInside ?mo_NoInside ?se_NoInside ?ga_NoRoot ?gt_NoRoot ?hd_NoRoot ?cl_NoRoot ?mo_NoRoot ?se_NoRoot ?hd_PowerError ?su_BadPrime_PowerError ?su_BadRow_PowerError ?su_BadCount_PowerError ?su_BadRule_PowerError ?su_BadPlaces_PowerError ?su_BadTerms_PowerError ?su_NoPart_PowerError ?su_NoInside_PowerError ?su_NoRoot_PowerError ?sv_BadPrime ?sv_BadRow ?sv_BadCount ?sv_BadRule ?sv_BadPlaces ?sv_BadTerms ?sv_NoPart ?sv_NoInside ?sv_NoRoot ?su_BadPrime_BadRow ?su_BadPrime_BadCount ?su_BadPrime_BadRule ?su_BadPrime_BadPlaces ?su_BadPrime_BadTerms ?su_BadPrime_NoPart ?su_BadPrime_NoInside ?su_BadPrime_NoRoot ?su_BadRow_BadPrime ?su_BadRow_BadCount ?su_BadRow_BadRule ?su_BadRow_BadPlaces ?su_BadRow_BadTerms ?su_BadRow_NoPart ?su_BadRow_NoInside ?su_BadRow_NoRoot ?su_BadCount_BadPrime ?su_BadCount_BadRow ?su_BadCount_BadRule ?su_BadCount_BadPlaces ?su_BadCount_BadTerms ?su_BadCount_NoPart ?su_BadCount_NoInside ?su_BadCount_NoRoot ?su_BadRule_BadPrime ?su_BadRule_BadRow ?su_BadRule_BadCount ?su_BadRule_BadPlaces ?su_BadRule_BadTerms ?su_BadRule_NoPart ?su_BadRule_NoInside ?su_BadRule_NoRoot ?su_BadPlaces_BadPrime ?su_BadPlaces_BadRow ?su_BadPlaces_BadCount ?su_BadPlaces_BadRule ?su_BadPlaces_BadTerms ?su_BadPlaces_NoPart ?su_BadPlaces_NoInside ?su_BadPlaces_NoRoot ?su_BadTerms_BadPrime ?su_BadTerms_BadRow ?su_BadTerms_BadCount ?su_BadTerms_BadRule ?su_BadTerms_BadPlaces ?su_BadTerms_NoPart ?su_BadTerms_NoInside ?su_BadTerms_NoRoot ?su_NoPart_BadPrime ?su_NoPart_BadRow ?su_NoPart_BadCount ?su_NoPart_BadRule ?su_NoPart_BadPlaces ?su_NoPart_BadTerms ?su_NoPart_NoInside ?su_NoPart_NoRoot ?su_NoInside_BadPrime ?su_NoInside_BadRow ?su_NoInside_BadCount ?su_NoInside_BadRule ?su_NoInside_BadPlaces ?su_NoInside_BadTerms ?su_NoInside_NoPart ?su_NoInside_NoRoot ?su_NoRoot_BadPrime ?su_NoRoot_BadRow ?su_NoRoot_BadCount ?su_NoRoot_BadRule ?su_NoRoot_BadPlaces ?su_NoRoot_BadTerms ?su_NoRoot_NoPart ?su_NoRoot_NoInside ?lc_cc_law_primes_right ?v11_cc_law_primes_right ?g11_cc_law_primes_right ?g18_cc_law_primes_right ?g7_cc_law_primes_right ?g9_cc_law_primes_right ?g10_cc_law_primes_right ?ne_cc_law_primes_right ?nT_cc_law_primes_right ?rq_law_primes_right ?lc_cc_law_rows_right ?v11_cc_law_rows_right ?g11_cc_law_rows_right ?g18_cc_law_rows_right ?g7_cc_law_rows_right ?g9_cc_law_rows_right ?g10_cc_law_rows_right ?ne_cc_law_rows_right ?nT_cc_law_rows_right ?rq_law_rows_right ?lc_cc_law_rules_right ?v11_cc_law_rules_right ?g11_cc_law_rules_right ?g18_cc_law_rules_right ?g7_cc_law_rules_right ?g9_cc_law_rules_right ?g10_cc_law_rules_right ?ne_cc_law_rules_right ?nT_cc_law_rules_right ?rq_law_rules_right ?lc_cc_law_terms_right ?v11_cc_law_terms_right ?g11_cc_law_terms_right ?g18_cc_law_terms_right ?g7_cc_law_terms_right ?g9_cc_law_terms_right ?g10_cc_law_terms_right ?ne_cc_law_terms_right ?nT_cc_law_terms_right ?rq_law_terms_right ?dP_law_primes_right_law_rows_right ?dP_law_primes_right_law_rules_right ?dP_law_primes_right_law_terms_right ?dP_law_rows_right_law_rules_right ?dP_law_rows_right_law_terms_right ?dP_law_rules_right_law_terms_right
    (case z_ValueError => k_is)
    (case z_abs => k_is)
    (case z_all => k_is)
    (case z_bool => k_is)
    (case z_enumerate => k_is)
    (case z_int => k_is)
    (case z_isinstance => k_is)
    (case z_len => k_is)
    (case z_list => k_is)
    (case z_max => k_is)
    (case z_min => k_is)
    (case z_range => k_is)
    (case z_reversed => k_is)
    (case z_sum => k_is)
    (case z_tuple => k_is)
    (case z_zip => k_is)
    (case n_PRIMES => k_is)
    (case o_PRIMES => k_is)
    (case s_PRIMES => decide)
    (case v_PRIMES => rfl)
    (case n_MOST_CUT => k_is)
    (case n_MOST_RULED => k_is)
    (case n_MOST_PLACES => k_is)
    (case n_MOST_TERMS => k_is)
    (case n_PowerError => k_is)
    (case k_PowerError => k_is)
    (case sb_PowerError => k_is)
    (case ty_PowerError => k_is)
    (case ic_PowerError => k_is)
    (case n_BadPrime => k_is)
    (case k_BadPrime => k_is)
    (case sb_BadPrime => k_is)
    (case ty_BadPrime => k_is)
    (case ic_BadPrime => k_is)
    (case n_BadRow => k_is)
    (case k_BadRow => k_is)
    (case sb_BadRow => k_is)
    (case ty_BadRow => k_is)
    (case ic_BadRow => k_is)
    (case n_BadCount => k_is)
    (case k_BadCount => k_is)
    (case sb_BadCount => k_is)
    (case ty_BadCount => k_is)
    (case ic_BadCount => k_is)
    (case n_BadRule => k_is)
    (case k_BadRule => k_is)
    (case sb_BadRule => k_is)
    (case ty_BadRule => k_is)
    (case ic_BadRule => k_is)
    (case n_BadPlaces => k_is)
    (case k_BadPlaces => k_is)
    (case sb_BadPlaces => k_is)
    (case ty_BadPlaces => k_is)
    (case ic_BadPlaces => k_is)
    (case n_BadTerms => k_is)
    (case k_BadTerms => k_is)
    (case sb_BadTerms => k_is)
    (case ty_BadTerms => k_is)
    (case ic_BadTerms => k_is)
    (case n_NoPart => k_is)
    (case k_NoPart => k_is)
    (case sb_NoPart => k_is)
    (case ty_NoPart => k_is)
    (case ic_NoPart => k_is)
    (case n_NoInside => k_is)
    (case k_NoInside => k_is)
    (case sb_NoInside => k_is)
    (case ty_NoInside => k_is)
    (case ic_NoInside => k_is)
    (case n_NoRoot => k_is)
    (case k_NoRoot => k_is)
    (case sb_NoRoot => k_is)
    (case ty_NoRoot => k_is)
    (case ic_NoRoot => k_is)
    (case n_Answer => k_is)
    (case k_Answer => k_is)
    (case ty_Answer => k_is)
    (case ic_Answer => k_is)
    (case pg_Answer => k_is)
    (case hd_Answer => k_is)
    (case po_Answer => k_is)
    (case sa_Answer => k_is)
    (case n_Alike => k_is)
    (case k_Alike => k_is)
    (case ty_Alike => k_is)
    (case ic_Alike => k_is)
    (case pg_Alike => k_is)
    (case hd_Alike => k_is)
    (case po_Alike => k_is)
    (case sa_Alike => k_is)
    (case mk_Alike => k_is)
    (case io_Alike => k_is)
    (case n_Unlike => k_is)
    (case k_Unlike => k_is)
    (case ty_Unlike => k_is)
    (case ic_Unlike => k_is)
    (case pg_Unlike => k_is)
    (case hd_Unlike => k_is)
    (case po_Unlike => k_is)
    (case sa_Unlike => k_is)
    (case na_Unlike_at => k_is)
    (case n_Ruled => k_is)
    (case k_Ruled => k_is)
    (case ty_Ruled => k_is)
    (case ic_Ruled => k_is)
    (case pg_Ruled => k_is)
    (case hd_Ruled => k_is)
    (case po_Ruled => k_is)
    (case sa_Ruled => k_is)
    (case na_Ruled_taps => k_is)
    (case n_Barred => k_is)
    (case k_Barred => k_is)
    (case ty_Barred => k_is)
    (case ic_Barred => k_is)
    (case pg_Barred => k_is)
    (case hd_Barred => k_is)
    (case po_Barred => k_is)
    (case sa_Barred => k_is)
    (case na_Barred_weights => k_is)
    (case n_is_number => k_is)
    (case l_is_number => k_is)
    (case c_is_number => k_is)
    (case k_is_number => k_is)
    (case n_is_within => k_is)
    (case l_is_within => k_is)
    (case c_is_within => k_is)
    (case k_is_within => k_is)
    (case n_is_rest => k_is)
    (case l_is_rest => k_is)
    (case c_is_rest => k_is)
    (case k_is_rest => k_is)
    (case n_are_rests => k_is)
    (case l_are_rests => k_is)
    (case c_are_rests => k_is)
    (case k_are_rests => k_is)
    (case n_is_rule => k_is)
    (case l_is_rule => k_is)
    (case c_is_rule => k_is)
    (case k_is_rule => k_is)
    (case n_is_term => k_is)
    (case l_is_term => k_is)
    (case c_is_term => k_is)
    (case k_is_term => k_is)
    (case n_are_terms => k_is)
    (case l_are_terms => k_is)
    (case c_are_terms => k_is)
    (case k_are_terms => k_is)
    (case n_need_prime => k_is)
    (case l_need_prime => k_is)
    (case c_need_prime => k_is)
    (case k_need_prime => k_is)
    (case n_need_row => k_is)
    (case l_need_row => k_is)
    (case c_need_row => k_is)
    (case k_need_row => k_is)
    (case n_need_prime_and_rows => k_is)
    (case l_need_prime_and_rows => k_is)
    (case c_need_prime_and_rows => k_is)
    (case k_need_prime_and_rows => k_is)
    (case n_need_rule => k_is)
    (case l_need_rule => k_is)
    (case c_need_rule => k_is)
    (case k_need_rule => k_is)
    (case n_need_places => k_is)
    (case l_need_places => k_is)
    (case c_need_places => k_is)
    (case k_need_places => k_is)
    (case n_need_terms => k_is)
    (case l_need_terms => k_is)
    (case c_need_terms => k_is)
    (case k_need_terms => k_is)
    (case n_need_count => k_is)
    (case l_need_count => k_is)
    (case c_need_count => k_is)
    (case k_need_count => k_is)
    (case n_need_count_within => k_is)
    (case l_need_count_within => k_is)
    (case c_need_count_within => k_is)
    (case k_need_count_within => k_is)
    (case n_inverse => k_is)
    (case l_inverse => k_is)
    (case c_inverse => k_is)
    (case k_inverse => k_is)
    (case n_plus => k_is)
    (case l_plus => k_is)
    (case c_plus => k_is)
    (case k_plus => k_is)
    (case n_times => k_is)
    (case l_times => k_is)
    (case c_times => k_is)
    (case k_times => k_is)
    (case n_parted => k_is)
    (case l_parted => k_is)
    (case c_parted => k_is)
    (case k_parted => k_is)
    (case n_product => k_is)
    (case l_product => k_is)
    (case c_product => k_is)
    (case k_product => k_is)
    (case n_product_place => k_is)
    (case l_product_place => k_is)
    (case c_product_place => k_is)
    (case k_product_place => k_is)
    (case n_quotient => k_is)
    (case l_quotient => k_is)
    (case c_quotient => k_is)
    (case k_quotient => k_is)
    (case n_first_places => k_is)
    (case l_first_places => k_is)
    (case c_first_places => k_is)
    (case k_first_places => k_is)
    (case n_tapped => k_is)
    (case l_tapped => k_is)
    (case c_tapped => k_is)
    (case k_tapped => k_is)
    (case n_put_in => k_is)
    (case l_put_in => k_is)
    (case c_put_in => k_is)
    (case k_put_in => k_is)
    (case n_turned_out => k_is)
    (case l_turned_out => k_is)
    (case c_turned_out => k_is)
    (case k_turned_out => k_is)
    (case n_solved => k_is)
    (case l_solved => k_is)
    (case c_solved => k_is)
    (case k_solved => k_is)
    (case n_grown => k_is)
    (case l_grown => k_is)
    (case c_grown => k_is)
    (case k_grown => k_is)
    (case n_term_sum => k_is)
    (case l_term_sum => k_is)
    (case c_term_sum => k_is)
    (case k_term_sum => k_is)
    (case n_raised => k_is)
    (case l_raised => k_is)
    (case c_raised => k_is)
    (case k_raised => k_is)
    (case n_lesser_count => k_is)
    (case l_lesser_count => k_is)
    (case c_lesser_count => k_is)
    (case k_lesser_count => k_is)
    (case n_root => k_is)
    (case l_root => k_is)
    (case c_root => k_is)
    (case k_root => k_is)
    (case n_lesser_root => k_is)
    (case l_lesser_root => k_is)
    (case c_lesser_root => k_is)
    (case k_lesser_root => k_is)
    (case n_opened => k_is)
    (case l_opened => k_is)
    (case c_opened => k_is)
    (case k_opened => k_is)
    (case n_far_place => k_is)
    (case l_far_place => k_is)
    (case c_far_place => k_is)
    (case k_far_place => k_is)
    (case n_alike => k_is)
    (case l_alike => k_is)
    (case c_alike => k_is)
    (case k_alike => k_is)
    (case n_law_refused => k_is)
    (case l_law_refused => k_is)
    (case c_law_refused => k_is)
    (case k_law_refused => k_is)
    (case n_law_each => k_is)
    (case l_law_each => k_is)
    (case c_law_each => k_is)
    (case k_law_each => k_is)
    (case n_law_no_numbers => k_is)
    (case l_law_no_numbers => k_is)
    (case c_law_no_numbers => k_is)
    (case k_law_no_numbers => k_is)
    (case n_law_no_lists => k_is)
    (case l_law_no_lists => k_is)
    (case c_law_no_lists => k_is)
    (case k_law_no_lists => k_is)
    (case n_law_primes_right => k_is)
    (case l_law_primes_right => k_is)
    (case c_law_primes_right => k_is)
    (case k_law_primes_right => k_is)
    (case n_law_rows_right => k_is)
    (case l_law_rows_right => k_is)
    (case c_law_rows_right => k_is)
    (case k_law_rows_right => k_is)
    (case n_law_rules_right => k_is)
    (case l_law_rules_right => k_is)
    (case c_law_rules_right => k_is)
    (case k_law_rules_right => k_is)
    (case n_law_terms_right => k_is)
    (case l_law_terms_right => k_is)
    (case c_law_terms_right => k_is)
    (case k_law_terms_right => k_is)
    (case n_law => k_is)
    (case l_law => k_is)
    (case c_law => k_is)
    (case k_law => k_is)
    (case ex_NoPart => k_exc)
    (case ex_NoRoot => k_exc)
    (case ex_NoInside => k_exc)
    (case ex_BadPrime => k_exc)
    (case ex_BadRow => k_exc)
    (case ex_BadPlaces => k_exc)
    (case ex_BadRule => k_exc)
    (case ex_BadTerms => k_exc)
    (case ex_BadCount => k_exc)
    (case ga_BadPrime => k_is)
    (case gt_BadPrime => k_is)
    (case hd_BadPrime => k_is)
    (case cl_BadPrime => k_is)
    (case sp__get => k_is)
    (case tk__get => k_is)
    (case mo_BadPrime => k_is)
    (case se_BadPrime => k_is)
    (case ga_BadRow => k_is)
    (case gt_BadRow => k_is)
    (case hd_BadRow => k_is)
    (case cl_BadRow => k_is)
    (case mo_BadRow => k_is)
    (case se_BadRow => k_is)
    (case ga_BadCount => k_is)
    (case gt_BadCount => k_is)
    (case hd_BadCount => k_is)
    (case cl_BadCount => k_is)
    (case mo_BadCount => k_is)
    (case se_BadCount => k_is)
    (case ga_BadRule => k_is)
    (case gt_BadRule => k_is)
    (case hd_BadRule => k_is)
    (case cl_BadRule => k_is)
    (case mo_BadRule => k_is)
    (case se_BadRule => k_is)
    (case ga_BadPlaces => k_is)
    (case gt_BadPlaces => k_is)
    (case hd_BadPlaces => k_is)
    (case cl_BadPlaces => k_is)
    (case mo_BadPlaces => k_is)
    (case se_BadPlaces => k_is)
    (case ga_BadTerms => k_is)
    (case gt_BadTerms => k_is)
    (case hd_BadTerms => k_is)
    (case cl_BadTerms => k_is)
    (case mo_BadTerms => k_is)
    (case se_BadTerms => k_is)
    (case ga_NoPart => k_is)
    (case gt_NoPart => k_is)
    (case hd_NoPart => k_is)
    (case cl_NoPart => k_is)
    (case mo_NoPart => k_is)
    (case se_NoPart => k_is)
    (case ga_NoInside => k_is)
    (case gt_NoInside => k_is)
    (case hd_NoInside => k_is)
    (case cl_NoInside => k_is)
    (case mo_NoInside => k_is)
    (case se_NoInside => k_is)
    (case ga_NoRoot => k_is)
    (case gt_NoRoot => k_is)
    (case hd_NoRoot => k_is)
    (case cl_NoRoot => k_is)
    (case mo_NoRoot => k_is)
    (case se_NoRoot => k_is)
    (case hd_PowerError => k_is)
    (case su_BadPrime_PowerError => k_is)
    (case su_BadRow_PowerError => k_is)
    (case su_BadCount_PowerError => k_is)
    (case su_BadRule_PowerError => k_is)
    (case su_BadPlaces_PowerError => k_is)
    (case su_BadTerms_PowerError => k_is)
    (case su_NoPart_PowerError => k_is)
    (case su_NoInside_PowerError => k_is)
    (case su_NoRoot_PowerError => k_is)
    (case sv_BadPrime => k_is)
    (case sv_BadRow => k_is)
    (case sv_BadCount => k_is)
    (case sv_BadRule => k_is)
    (case sv_BadPlaces => k_is)
    (case sv_BadTerms => k_is)
    (case sv_NoPart => k_is)
    (case sv_NoInside => k_is)
    (case sv_NoRoot => k_is)
    (case su_BadPrime_BadRow => k_is)
    (case su_BadPrime_BadCount => k_is)
    (case su_BadPrime_BadRule => k_is)
    (case su_BadPrime_BadPlaces => k_is)
    (case su_BadPrime_BadTerms => k_is)
    (case su_BadPrime_NoPart => k_is)
    (case su_BadPrime_NoInside => k_is)
    (case su_BadPrime_NoRoot => k_is)
    (case su_BadRow_BadPrime => k_is)
    (case su_BadRow_BadCount => k_is)
    (case su_BadRow_BadRule => k_is)
    (case su_BadRow_BadPlaces => k_is)
    (case su_BadRow_BadTerms => k_is)
    (case su_BadRow_NoPart => k_is)
    (case su_BadRow_NoInside => k_is)
    (case su_BadRow_NoRoot => k_is)
    (case su_BadCount_BadPrime => k_is)
    (case su_BadCount_BadRow => k_is)
    (case su_BadCount_BadRule => k_is)
    (case su_BadCount_BadPlaces => k_is)
    (case su_BadCount_BadTerms => k_is)
    (case su_BadCount_NoPart => k_is)
    (case su_BadCount_NoInside => k_is)
    (case su_BadCount_NoRoot => k_is)
    (case su_BadRule_BadPrime => k_is)
    (case su_BadRule_BadRow => k_is)
    (case su_BadRule_BadCount => k_is)
    (case su_BadRule_BadPlaces => k_is)
    (case su_BadRule_BadTerms => k_is)
    (case su_BadRule_NoPart => k_is)
    (case su_BadRule_NoInside => k_is)
    (case su_BadRule_NoRoot => k_is)
    (case su_BadPlaces_BadPrime => k_is)
    (case su_BadPlaces_BadRow => k_is)
    (case su_BadPlaces_BadCount => k_is)
    (case su_BadPlaces_BadRule => k_is)
    (case su_BadPlaces_BadTerms => k_is)
    (case su_BadPlaces_NoPart => k_is)
    (case su_BadPlaces_NoInside => k_is)
    (case su_BadPlaces_NoRoot => k_is)
    (case su_BadTerms_BadPrime => k_is)
    (case su_BadTerms_BadRow => k_is)
    (case su_BadTerms_BadCount => k_is)
    (case su_BadTerms_BadRule => k_is)
    (case su_BadTerms_BadPlaces => k_is)
    (case su_BadTerms_NoPart => k_is)
    (case su_BadTerms_NoInside => k_is)
    (case su_BadTerms_NoRoot => k_is)
    (case su_NoPart_BadPrime => k_is)
    (case su_NoPart_BadRow => k_is)
    (case su_NoPart_BadCount => k_is)
    (case su_NoPart_BadRule => k_is)
    (case su_NoPart_BadPlaces => k_is)
    (case su_NoPart_BadTerms => k_is)
    (case su_NoPart_NoInside => k_is)
    (case su_NoPart_NoRoot => k_is)
    (case su_NoInside_BadPrime => k_is)
    (case su_NoInside_BadRow => k_is)
    (case su_NoInside_BadCount => k_is)
    (case su_NoInside_BadRule => k_is)
    (case su_NoInside_BadPlaces => k_is)
    (case su_NoInside_BadTerms => k_is)
    (case su_NoInside_NoPart => k_is)
    (case su_NoInside_NoRoot => k_is)
    (case su_NoRoot_BadPrime => k_is)
    (case su_NoRoot_BadRow => k_is)
    (case su_NoRoot_BadCount => k_is)
    (case su_NoRoot_BadRule => k_is)
    (case su_NoRoot_BadPlaces => k_is)
    (case su_NoRoot_BadTerms => k_is)
    (case su_NoRoot_NoPart => k_is)
    (case su_NoRoot_NoInside => k_is)
    (case lc_cc_law_primes_right => k_is)
    (case v11_cc_law_primes_right => rfl)
    (case g11_cc_law_primes_right => rfl)
    (case g18_cc_law_primes_right => rfl)
    (case g7_cc_law_primes_right => rfl)
    (case g9_cc_law_primes_right => rfl)
    (case g10_cc_law_primes_right => rfl)
    (case ne_cc_law_primes_right => decide)
    (case nT_cc_law_primes_right => rfl)
    (case rq_law_primes_right => decide +kernel)
    (case lc_cc_law_rows_right => k_is)
    (case v11_cc_law_rows_right => rfl)
    (case g11_cc_law_rows_right => rfl)
    (case g18_cc_law_rows_right => rfl)
    (case g7_cc_law_rows_right => rfl)
    (case g9_cc_law_rows_right => rfl)
    (case g10_cc_law_rows_right => rfl)
    (case ne_cc_law_rows_right => decide)
    (case nT_cc_law_rows_right => rfl)
    (case rq_law_rows_right => decide +kernel)
    (case lc_cc_law_rules_right => k_is)
    (case v11_cc_law_rules_right => rfl)
    (case g11_cc_law_rules_right => rfl)
    (case g18_cc_law_rules_right => rfl)
    (case g7_cc_law_rules_right => rfl)
    (case g9_cc_law_rules_right => rfl)
    (case g10_cc_law_rules_right => rfl)
    (case ne_cc_law_rules_right => decide)
    (case nT_cc_law_rules_right => rfl)
    (case rq_law_rules_right => decide +kernel)
    (case lc_cc_law_terms_right => k_is)
    (case v11_cc_law_terms_right => rfl)
    (case g11_cc_law_terms_right => rfl)
    (case g18_cc_law_terms_right => rfl)
    (case g7_cc_law_terms_right => rfl)
    (case g9_cc_law_terms_right => rfl)
    (case g10_cc_law_terms_right => rfl)
    (case ne_cc_law_terms_right => decide)
    (case nT_cc_law_terms_right => rfl)
    (case rq_law_terms_right => decide +kernel)
    (case dP_law_primes_right_law_rows_right => decide)
    (case dP_law_primes_right_law_rules_right => decide)
    (case dP_law_primes_right_law_terms_right => decide)
    (case dP_law_rows_right_law_rules_right => decide)
    (case dP_law_rows_right_law_terms_right => decide)
    (case dP_law_rules_right_law_terms_right => decide)
