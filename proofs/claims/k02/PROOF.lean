import PyProof.Rows.All
import Wide.All
import OpenK.AllK
import Wide.FinOn
import HandS.ForMost
import HandS.ForExc
import HandS.Evl
import HandS.IsInst
import HandS.ExcIs
import HandS.EndBits
import HandS.Style
import HandS.Zip
import KE.IntBitsLaws
import KE.KEqDeep
import HandS.ExcCtx
import HandS.Hot
import HandS.RevRange
import PyProof.MaxThree
import HandS.Lambda
import HandS.Nested
import HandS.EndOwn
import PySem.Challenge.RW_powerrows_k02_whole_inside
set_option Elab.async false
set_option linter.all false
set_option maxRecDepth 100000
set_option maxHeartbeats 4000000
namespace Pw
/-! ### the mathematics of rows: sequences of whole numbers, their products, modulo p -/
abbrev Sq := Nat → Int
def tl (f : Sq) : Sq := fun n => f (n + 1)
/-- the product of two sequences -/
def cv : Sq → Sq → Nat → Int
  | f, g, 0 => f 0 * g 0
  | f, g, n + 1 => f 0 * g (n + 1) + cv (tl f) g n
def one : Sq := fun n => if n = 0 then 1 else 0
def zer : Sq := fun _ => 0
def plusS (f g : Sq) : Sq := fun n => f n + g n
def smul (c : Int) (f : Sq) : Sq := fun n => c * f n
/-- one place on -/
def sh (f : Sq) : Sq := fun n => match n with
  | 0 => 0
  | n + 1 => f n
theorem cv_add_left (f g h : Sq) (n : Nat) : cv (fun n => f n + g n) h n = cv f h n + cv g h n := by
  induction n generalizing f g with
  | zero => exact Int.add_mul _ _ _
  | succ n ih =>
    show (f 0 + g 0) * h (n + 1) + cv (fun n => tl f n + tl g n) h n = f 0 * h (n + 1) + cv (tl f) h n + (g 0 * h (n + 1) + cv (tl g) h n)
    rw [ih, Int.add_mul]
    omega
theorem cv_smul_left (c : Int) (f h : Sq) (n : Nat) : cv (fun n => c * f n) h n = c * cv f h n := by
  induction n generalizing f with
  | zero => exact Int.mul_assoc _ _ _
  | succ n ih =>
    show (c * f 0) * h (n + 1) + cv (fun n => c * tl f n) h n = c * (f 0 * h (n + 1) + cv (tl f) h n)
    rw [ih, Int.mul_add, Int.mul_assoc]
theorem cv_succ (f g : Sq) (n : Nat) : cv f g (n + 1) = cv f (tl g) n + f (n + 1) * g 0 := by
  induction n generalizing f with
  | zero => rfl
  | succ n ih =>
    show f 0 * g (n + 2) + cv (tl f) g (n + 1) = f 0 * tl g (n + 1) + cv (tl f) (tl g) n + f (n + 2) * g 0
    rw [ih (tl f)]
    show f 0 * g (n + 2) + (cv (tl f) (tl g) n + f (n + 2) * g 0) = f 0 * g (n + 2) + cv (tl f) (tl g) n + f (n + 2) * g 0
    omega
theorem cv_comm (f g : Sq) (n : Nat) : cv f g n = cv g f n := by
  induction n generalizing f g with
  | zero => exact Int.mul_comm _ _
  | succ n ih =>
    rw [cv_succ g f]
    show f 0 * g (n + 1) + cv (tl f) g n = cv g (tl f) n + g (n + 1) * f 0
    rw [ih (tl f) g, Int.mul_comm (f 0)]
    omega
theorem cv_add_right (f g h : Sq) (n : Nat) : cv f (fun n => g n + h n) n = cv f g n + cv f h n := by
  rw [cv_comm, cv_add_left, cv_comm g, cv_comm h]
theorem cv_smul_right (c : Int) (f g : Sq) (n : Nat) : cv f (fun n => c * g n) n = c * cv f g n := by
  rw [cv_comm, cv_smul_left, cv_comm g]
theorem cv_congr {f f' g g' : Sq} {n : Nat} (h1 : ∀ i, i ≤ n → f i = f' i) (h2 : ∀ i, i ≤ n → g i = g' i) : cv f g n = cv f' g' n := by
  induction n generalizing f f' with
  | zero =>
    show f 0 * g 0 = f' 0 * g' 0
    rw [h1 0 (Nat.le_refl _), h2 0 (Nat.le_refl _)]
  | succ n ih =>
    show f 0 * g (n + 1) + cv (tl f) g n = f' 0 * g' (n + 1) + cv (tl f') g' n
    rw [h1 0 (Nat.zero_le _), h2 (n + 1) (Nat.le_refl _), ih (f := tl f) (f' := tl f') (fun i hi => h1 (i + 1) (Nat.succ_le_succ hi)) (fun i hi => h2 i (Nat.le_succ_of_le hi))]
theorem cv_assoc (f g h : Sq) (n : Nat) : cv (cv f g) h n = cv f (cv g h) n := by
  induction n generalizing f g with
  | zero => exact Int.mul_assoc _ _ _
  | succ n ih =>
    show (f 0 * g 0) * h (n + 1) + cv (tl (cv f g)) h n = f 0 * (g 0 * h (n + 1) + cv (tl g) h n) + cv (tl f) (cv g h) n
    have e : cv (tl (cv f g)) h n = f 0 * cv (tl g) h n + cv (cv (tl f) g) h n := by
      have e1 : tl (cv f g) = fun n => (fun n => f 0 * tl g n) n + cv (tl f) g n := rfl
      rw [e1, cv_add_left, cv_smul_left]
    rw [e, ih, Int.mul_add, Int.mul_assoc]
    omega
theorem cv_one_left (g : Sq) (n : Nat) : cv one g n = g n := by
  have z : ∀ (n : Nat) (h : Sq), cv (tl one) h n = 0 := by
    intro n h
    have e : tl one = fun n => 0 * one n := by
      funext m
      show (if m + 1 = 0 then (1 : Int) else 0) = 0 * one m
      rw [if_neg (Nat.succ_ne_zero m), Int.zero_mul]
    rw [e, cv_smul_left, Int.zero_mul]
  cases n with
  | zero => exact Int.one_mul _
  | succ n =>
    show 1 * g (n + 1) + cv (tl one) g n = g (n + 1)
    rw [z, Int.one_mul, Int.add_zero]
theorem cv_one_right (f : Sq) (n : Nat) : cv f one n = f n := by rw [cv_comm, cv_one_left]
theorem cv_zer_left (g : Sq) (n : Nat) : cv zer g n = 0 := by
  have e : zer = fun n => 0 * zer n := by
    funext m
    show (0 : Int) = 0 * _
    rw [Int.zero_mul]
  rw [e, cv_smul_left, Int.zero_mul]
theorem cv_zer_right (f : Sq) (n : Nat) : cv f zer n = 0 := by rw [cv_comm, cv_zer_left]
theorem cv_sh_left (f g : Sq) (n : Nat) : cv (sh f) g n = sh (cv f g) n := by
  cases n with
  | zero => exact Int.zero_mul _
  | succ n =>
    show 0 * g (n + 1) + cv f g n = cv f g n
    rw [Int.zero_mul, Int.zero_add]
theorem cv_sh_right (f g : Sq) (n : Nat) : cv f (sh g) n = sh (cv f g) n := by
  rw [cv_comm, cv_sh_left]
  cases n with
  | zero => rfl
  | succ n => exact cv_comm g f n
/-! ### modulo p -/
theorem em_add {p a b c d : Int} (h1 : a % p = b % p) (h2 : c % p = d % p) : (a + c) % p = (b + d) % p := by
  rw [Int.add_emod, h1, h2, ← Int.add_emod]
theorem em_mul {p a b c d : Int} (h1 : a % p = b % p) (h2 : c % p = d % p) : (a * c) % p = (b * d) % p := by
  rw [Int.mul_emod, h1, h2, ← Int.mul_emod]
theorem em_sub {p a b c d : Int} (h1 : a % p = b % p) (h2 : c % p = d % p) : (a - c) % p = (b - d) % p := by
  rw [Int.sub_emod, h1, h2, ← Int.sub_emod]
theorem em_em {p : Int} (a : Int) : a % p % p = a % p := Int.emod_emod_of_dvd a (Int.dvd_refl p)
theorem cv_em {p : Int} {f f' g g' : Sq} {n : Nat} (h1 : ∀ i, i ≤ n → f i % p = f' i % p) (h2 : ∀ i, i ≤ n → g i % p = g' i % p) : cv f g n % p = cv f' g' n % p := by
  induction n generalizing f f' with
  | zero => exact em_mul (h1 0 (Nat.le_refl _)) (h2 0 (Nat.le_refl _))
  | succ n ih =>
    show (f 0 * g (n + 1) + cv (tl f) g n) % p = (f' 0 * g' (n + 1) + cv (tl f') g' n) % p
    exact em_add (em_mul (h1 0 (Nat.zero_le _)) (h2 (n + 1) (Nat.le_refl _))) (ih (fun i hi => h1 (i + 1) (Nat.succ_le_succ hi)) (fun i hi => h2 i (Nat.le_succ_of_le hi)))
/-! ### lists as sequences -/
def sq (xs : List Int) : Sq := fun n => xs.getD n 0
theorem sum_map_zero {α : Type} (l : List α) : (l.map fun _ => (0 : Int)).sum = 0 := by
  induction l with
  | nil => rfl
  | cons a r ih =>
    show 0 + (r.map fun _ => (0 : Int)).sum = 0
    rw [ih]
    rfl
/-- the sum over all two places that come to n -/
theorem sum_cv (f g : Sq) (n : Nat) : ((List.range (n + 1)).map fun i => f i * g (n - i)).sum = cv f g n := by
  induction n generalizing f with
  | zero =>
    show f 0 * g 0 + 0 = f 0 * g 0
    omega
  | succ n ih =>
    rw [List.range_succ_eq_map, List.map_cons, List.map_map, List.sum_cons]
    show f 0 * g (n + 1) + _ = f 0 * g (n + 1) + cv (tl f) g n
    rw [← ih (tl f)]
    congr 2
    apply List.map_congr_left
    intro i hi
    show f (i + 1) * g (n + 1 - (i + 1)) = f (i + 1) * g (n - i)
    rw [Nat.add_sub_add_right]
/-- the sum without the last of them -/
theorem sum_cv_less (f g : Sq) (n : Nat) : ((List.range n).map fun i => f i * g (n - i)).sum = cv f g n - f n * g 0 := by
  have e := sum_cv f g n
  rw [List.range_succ, List.map_append, List.sum_append] at e
  have e2 : ([n].map fun i => f i * g (n - i)).sum = f n * g 0 := by
    show f n * g (n - n) + 0 = f n * g 0
    rw [Nat.sub_self]
    omega
  rw [e2] at e
  omega
/-! ### the values that the program tells -/
/-- a row: 1 to 20 rests -/
structure Rowp (p : Int) (xs : List Int) : Prop where
  lo : 1 ≤ xs.length
  hi : xs.length ≤ 20
  rest : ∀ x ∈ xs, 0 ≤ x ∧ x < p
def prodL (p : Int) (xs ys : List Int) : List Int := (List.range (min xs.length ys.length)).map fun n => cv (sq xs) (sq ys) n % p
def plusL (p : Int) (xs ys : List Int) : List Int := (List.range (min xs.length ys.length)).map fun n => (sq xs n + sq ys n) % p
theorem prodL_len (p : Int) (xs ys : List Int) : (prodL p xs ys).length = min xs.length ys.length := by
  unfold prodL
  rw [List.length_map, List.length_range]
theorem plusL_len (p : Int) (xs ys : List Int) : (plusL p xs ys).length = min xs.length ys.length := by
  unfold plusL
  rw [List.length_map, List.length_range]
theorem sq_map_range {f : Nat → Int} {m n : Nat} (h : n < m) : sq ((List.range m).map f) n = f n := by
  unfold sq
  rw [List.getD_eq_getElem?_getD, List.getElem?_map, List.getElem?_range h]
  rfl
theorem sq_out {xs : List Int} {n : Nat} (h : xs.length ≤ n) : sq xs n = 0 := by
  unfold sq
  rw [List.getD_eq_getElem?_getD, List.getElem?_eq_none h]
  rfl
theorem sq_at {xs : List Int} {n : Nat} (h : n < xs.length) : xs[n]? = some (sq xs n) := by
  unfold sq
  rw [List.getD_eq_getElem?_getD, List.getElem?_eq_getElem h]
  rfl
theorem sq_mem {xs : List Int} {n : Nat} (h : n < xs.length) : sq xs n ∈ xs := List.mem_of_getElem? (sq_at h)
theorem sq_take {xs : List Int} {m n : Nat} (h : n < m) : sq (xs.take m) n = sq xs n := by
  unfold sq
  rw [List.getD_eq_getElem?_getD, List.getD_eq_getElem?_getD, List.getElem?_take, if_pos h]
theorem sq_append_left {xs ys : List Int} {n : Nat} (h : n < xs.length) : sq (xs ++ ys) n = sq xs n := by
  unfold sq
  rw [List.getD_eq_getElem?_getD, List.getD_eq_getElem?_getD, List.getElem?_append_left h]
theorem sq_append_at {xs : List Int} {y : Int} : sq (xs ++ [y]) xs.length = y := by
  unfold sq
  rw [List.getD_eq_getElem?_getD, List.getElem?_append_right (Nat.le_refl _), Nat.sub_self]
  rfl
/-- lists are the same if their lengths and places are -/
theorem ext_sq {xs ys : List Int} (h : xs.length = ys.length) (e : ∀ n, n < xs.length → sq xs n = sq ys n) : xs = ys := by
  apply List.ext_getElem? 
  intro n
  by_cases hn : n < xs.length
  · rw [sq_at hn, sq_at (h ▸ hn), e n hn]
  · rw [List.getElem?_eq_none (by omega), List.getElem?_eq_none (by omega)]
theorem sq_prodL {p : Int} {xs ys : List Int} {n : Nat} (h : n < min xs.length ys.length) : sq (prodL p xs ys) n = cv (sq xs) (sq ys) n % p := sq_map_range h
theorem sq_plusL {p : Int} {xs ys : List Int} {n : Nat} (h : n < min xs.length ys.length) : sq (plusL p xs ys) n = (sq xs n + sq ys n) % p := sq_map_range h
theorem Rowp.at {p : Int} {xs : List Int} (h : Rowp p xs) {n : Nat} (hn : n < xs.length) : 0 ≤ sq xs n ∧ sq xs n < p := h.rest _ (sq_mem hn)
theorem Rowp.em {p : Int} {xs : List Int} (h : Rowp p xs) {n : Nat} (hn : n < xs.length) : sq xs n % p = sq xs n := Int.emod_eq_of_lt (h.at hn).1 (h.at hn).2
theorem rowp_map {p : Int} (hp : 0 < p) {m : Nat} {f : Nat → Int} (h1 : 1 ≤ m) (h2 : m ≤ 20) : Rowp p ((List.range m).map fun n => f n % p) := by
  refine ⟨by rw [List.length_map, List.length_range]; exact h1, by rw [List.length_map, List.length_range]; exact h2, fun x hx => ?_⟩
  obtain ⟨i, _, rfl⟩ := List.mem_map.mp hx
  exact ⟨Int.emod_nonneg _ (by omega), Int.emod_lt_of_pos _ hp⟩
theorem Rowp.prod {p : Int} (hp : 0 < p) {xs ys : List Int} (h1 : Rowp p xs) (h2 : Rowp p ys) : Rowp p (prodL p xs ys) :=
  rowp_map hp (by have := h1.lo; have := h2.lo; omega) (by have := h1.hi; omega)
theorem Rowp.plus {p : Int} (hp : 0 < p) {xs ys : List Int} (h1 : Rowp p xs) (h2 : Rowp p ys) : Rowp p (plusL p xs ys) :=
  rowp_map hp (by have := h1.lo; have := h2.lo; omega) (by have := h1.hi; omega)
/-! ### primes and inverses -/
def primes : List Int := [2, 3, 5, 7, 11, 13, 17, 19, 23, 29, 31, 37, 41, 43, 47, 53, 59, 61, 67, 71, 73, 79, 83, 89, 97]
def Prm (p : Int) : Prop := p ∈ primes
theorem Prm.pos {p : Int} (h : Prm p) : 2 ≤ p ∧ p ≤ 97 := by
  unfold Prm primes at h
  simp only [List.mem_cons, List.not_mem_nil, or_false] at h
  omega
/-- what is multiplied so often, each time less all whole p -/
def powm (p r : Int) : Nat → Int
  | 0 => 1
  | n + 1 => powm p r n * r % p
def inv (p r : Int) : Int := powm p r (p - 2).toNat
def invCheck : Bool := primes.all fun p => (List.range p.toNat).all fun r => r == 0 || inv p r * r % p == 1
theorem invCheck_ok : invCheck = true := by decide +kernel
theorem inv_ok {p r : Int} (hp : Prm p) (h0 : 0 < r) (h1 : r < p) : inv p r * r % p = 1 := by
  have h := List.all_eq_true.mp invCheck_ok p hp
  have h2 := List.all_eq_true.mp h r.toNat (List.mem_range.mpr (by omega))
  have e : ((r.toNat : Nat) : Int) = r := Int.toNat_of_nonneg (Int.le_of_lt h0)
  have ne : (r.toNat == 0) = false := by
    rw [beq_eq_false_iff_ne]
    omega
  rw [ne, Bool.false_or] at h2
  have h3 := beq_iff_eq.mp h2
  rw [e] at h3
  exact h3
/-! ### the quotient -/
def quo (p c : Int) (f g : Sq) : Nat → List Int
  | 0 => []
  | n + 1 => quo p c f g n ++ [(f n - ((List.range n).map fun i => sq (quo p c f g n) i * g (n - i)).sum) * c % p]
theorem quo_len (p c : Int) (f g : Sq) (n : Nat) : (quo p c f g n).length = n := by
  induction n with
  | zero => rfl
  | succ n ih =>
    show (quo p c f g n ++ [_]).length = n + 1
    rw [List.length_append, ih]
    rfl
theorem quo_sq (p c : Int) (f g : Sq) {n m : Nat} (h : n < m) : sq (quo p c f g m) n = sq (quo p c f g (n + 1)) n := by
  induction m with
  | zero => omega
  | succ m ih =>
    by_cases e : n = m
    · rw [e]
    · show sq (quo p c f g m ++ [_]) n = _
      rw [sq_append_left (by rw [quo_len]; omega)]
      exact ih (by omega)
theorem quo_at (p c : Int) (f g : Sq) (n : Nat) : sq (quo p c f g (n + 1)) n = (f n - ((List.range n).map fun i => sq (quo p c f g n) i * g (n - i)).sum) * c % p := by
  have h := sq_append_at (xs := quo p c f g n) (y := (f n - ((List.range n).map fun i => sq (quo p c f g n) i * g (n - i)).sum) * c % p)
  rw [quo_len] at h
  exact h
theorem quo_mul {p c : Int} {f g : Sq} (hc : c * g 0 % p = 1 % p) {m n : Nat} (h : n < m) : cv (sq (quo p c f g m)) g n % p = f n % p := by
  have e : cv (sq (quo p c f g m)) g n = cv (sq (quo p c f g m)) g n - sq (quo p c f g m) n * g 0 + sq (quo p c f g m) n * g 0 := by omega
  rw [e, ← sum_cv_less]
  have e2 : ((List.range n).map fun i => sq (quo p c f g m) i * g (n - i)).sum = ((List.range n).map fun i => sq (quo p c f g n) i * g (n - i)).sum := by
    congr 1
    apply List.map_congr_left
    intro i hi
    have hi := List.mem_range.mp hi
    rw [quo_sq p c f g (Nat.lt_trans hi h), ← quo_sq p c f g hi]
  rw [e2, quo_sq p c f g h, quo_at]
  generalize ((List.range n).map fun i => sq (quo p c f g n) i * g (n - i)).sum = S
  have h3 : (f n - S) * c % p * g 0 % p = (f n - S) % p := by
    have : ((f n - S) * c % p * g 0) % p = ((f n - S) * (c * g 0)) % p := by
      rw [← Int.mul_assoc]
      exact em_mul (em_em _) rfl
    rw [this]
    have h4 : ((f n - S) * (c * g 0)) % p = ((f n - S) * 1) % p := em_mul rfl hc
    rw [h4, Int.mul_one]
  have h5 : (S + (f n - S) * c % p * g 0) % p = (S + (f n - S)) % p := em_add rfl h3
  rw [h5]
  congr 1
  omega
end Pw
namespace Pw
/-! ### what the drawing helpers tell -/
def absI (x : Int) : Int := if x < 0 then -x else x
theorem absI_nonneg (x : Int) : 0 ≤ absI x := by
  unfold absI
  split <;> omega
def blend (cell at_ whole : Int) : Int := ((cell + 977 * at_) * 48271 + whole) % 2147483647
def lnum (cell at_ whole : Int) : Int :=
  if 10 ^ 18 ≤ cell then cell / (1 + at_ % 7)
  else blend cell at_ whole * (cell + 31 * at_ + 7) * (blend cell at_ whole + cell + 5) * (blend cell at_ whole * blend cell at_ whole + 11) / (1009 + at_)
def lwhole (ns : List Int) : Int := absI (ns.take 63).sum
def lprime (ns : List Int) (by_ : Int) : Int :=
  if (lwhole ns + by_) / 60 % 2 = 0 then sq primes ((lwhole ns + by_) / 120 % 25).toNat else sq primes ((lwhole ns + by_) / 120 % 5).toNat
theorem lprime_prm (ns : List Int) (by_ : Int) : Prm (lprime ns by_) := by
  unfold lprime
  have l : primes.length = 25 := rfl
  split <;> exact sq_mem (by rw [l]; omega)
def lcells (ns : List Int) : List Int := if ns = [] then [5] else ns.take 63
theorem lcells_len (ns : List Int) : 1 ≤ (lcells ns).length ∧ (lcells ns).length ≤ 63 := by
  unfold lcells
  split
  · exact ⟨Nat.le_refl _, by decide⟩
  · rename_i h
    rw [List.length_take]
    have : 0 < ns.length := List.length_pos_iff.mpr h
    omega
theorem lcells_mem {ns : List Int} {x : Int} (h : x ∈ lcells ns) : x ∈ ns ∨ x = 5 := by
  unfold lcells at h
  split at h
  · exact .inr (List.mem_singleton.mp h)
  · exact .inl (List.mem_of_mem_take h)
/-- the place's rest -/
def lrowNum (ns : List Int) (by_ : Int) (n : Nat) : Int :=
  lnum (sq (lcells ns) (((n : Int) + by_) % ((lcells ns).length : Int)).toNat) ((n : Int) + 5 * by_) (absI (lcells ns).sum + 7 * by_) / 3
def lrowAt (ns : List Int) (by_ p : Int) (n : Nat) : Int :=
  sq [lrowNum ns by_ n % p, if lrowNum ns by_ n / 5 % 4 = 0 then lrowNum ns by_ n % p else 0, (absI (lcells ns).sum + 7 * by_) % p] ((absI (lcells ns).sum + 7 * by_) / 3 % 3).toNat
def lrow (ns : List Int) (by_ p most : Int) : List Int :=
  (List.range (1 + (absI (lcells ns).sum + 7 * by_) % most).toNat).map (lrowAt ns by_ p)
theorem lrowAt_rest {ns : List Int} {by_ p : Int} (hp : 0 < p) (n : Nat) : 0 ≤ lrowAt ns by_ p n ∧ lrowAt ns by_ p n < p := by
  have h : ∀ (x y z : Int) (k : Nat), (0 ≤ x ∧ x < p) → (0 ≤ y ∧ y < p) → (0 ≤ z ∧ z < p) → 0 ≤ sq [x, y, z] k ∧ sq [x, y, z] k < p := by
    intro x y z k hx hy hz
    match k with
    | 0 => exact hx
    | 1 => exact hy
    | 2 => exact hz
    | k + 3 =>
      have e : sq [x, y, z] (k + 3) = 0 := rfl
      rw [e]
      exact ⟨Int.le_refl _, hp⟩
  have m : ∀ x : Int, 0 ≤ x % p ∧ x % p < p := fun x => ⟨Int.emod_nonneg _ (by omega), Int.emod_lt_of_pos _ hp⟩
  refine h _ _ _ _ (m _) ?_ (m _)
  split
  · exact m _
  · exact ⟨Int.le_refl _, hp⟩
theorem lrow_len {ns : List Int} {by_ p most : Int} (hm : 0 < most) : 1 ≤ (lrow ns by_ p most).length ∧ ((lrow ns by_ p most).length : Int) ≤ most := by
  unfold lrow
  rw [List.length_map, List.length_range]
  have h1 := Int.emod_nonneg (absI (lcells ns).sum + 7 * by_) (show most ≠ 0 by omega)
  have h2 := Int.emod_lt_of_pos (absI (lcells ns).sum + 7 * by_) hm
  omega
theorem lrow_rowp {ns : List Int} {by_ p most : Int} (hp : 0 < p) (hm : 0 < most) (h20 : most ≤ 20) : Rowp p (lrow ns by_ p most) := by
  have l := lrow_len (ns := ns) (by_ := by_) (p := p) hm
  refine ⟨l.1, by omega, fun x hx => ?_⟩
  obtain ⟨n, _, rfl⟩ := List.mem_map.mp hx
  exact lrowAt_rest hp n
/-! ### the helper's product -/
/-- the sum over the first m places of the one -/
def pc (f g : Sq) : Nat → Nat → Int
  | 0, _ => 0
  | m + 1, k => pc f g m k + if m ≤ k then f m * g (k - m) else 0
theorem pc_sum (f g : Sq) (m k : Nat) (h : m ≤ k + 1) : pc f g m k = ((List.range m).map fun i => f i * g (k - i)).sum := by
  induction m with
  | zero => rfl
  | succ m ih =>
    rw [List.range_succ, List.map_append, List.sum_append, ← ih (by omega)]
    show pc f g m k + (if m ≤ k then f m * g (k - m) else 0) = pc f g m k + (f m * g (k - m) + 0)
    rw [if_pos (by omega), Int.add_zero]
theorem pc_more (f g : Sq) (k d : Nat) : pc f g (k + 1 + d) k = pc f g (k + 1) k := by
  induction d with
  | zero => rfl
  | succ d ih =>
    show pc f g (k + 1 + d) k + (if k + 1 + d ≤ k then f (k + 1 + d) * g (k - (k + 1 + d)) else 0) = _
    rw [if_neg (by omega), ih, Int.add_zero]
theorem pc_cv (f g : Sq) {m k : Nat} (h : k < m) : pc f g m k = cv f g k := by
  obtain ⟨d, rfl⟩ : ∃ d, m = k + 1 + d := ⟨m - (k + 1), by omega⟩
  rw [pc_more, pc_sum f g _ _ (Nat.le_refl _), sum_cv]
/-- .. and so many of the next one's -/
def pcx (f g : Sq) (m far k : Nat) : Int := pc f g m k + if m ≤ k ∧ k < m + far then f m * g (k - m) else 0
theorem pcx_zero (f g : Sq) (m k : Nat) : pcx f g m 0 k = pc f g m k := by
  unfold pcx
  rw [if_neg (by omega), Int.add_zero]
theorem pcx_full (f g : Sq) {m far k : Nat} (h : k < m + far) : pcx f g m far k = pc f g (m + 1) k := by
  unfold pcx
  by_cases c : m ≤ k
  · rw [if_pos ⟨c, h⟩]
    show _ = pc f g m k + (if m ≤ k then f m * g (k - m) else 0)
    rw [if_pos c]
  · rw [if_neg (fun z => c z.1)]
    show _ = pc f g m k + (if m ≤ k then f m * g (k - m) else 0)
    rw [if_neg c]
theorem pcx_at (f g : Sq) (m far : Nat) : pcx f g m (far + 1) (m + far) = pcx f g m far (m + far) + f m * g far := by
  unfold pcx
  rw [if_pos (by omega), if_neg (by omega), show m + far - m = far by omega, Int.add_zero]
theorem pcx_else (f g : Sq) {m far k : Nat} (h : k ≠ m + far) : pcx f g m (far + 1) k = pcx f g m far k := by
  unfold pcx
  by_cases c : m ≤ k ∧ k < m + far
  · rw [if_pos c, if_pos (by omega)]
  · rw [if_neg c, if_neg (by omega)]
theorem set_map_range {α : Type} (f : Nat → α) (n j : Nat) (v : α) : ((List.range n).map f).set j v = (List.range n).map fun k => if k = j then v else f k := by
  apply List.ext_getElem?
  intro i
  rw [List.getElem?_set, List.length_map, List.length_range, List.getElem?_map, List.getElem?_map]
  by_cases hi : i < n
  · rw [List.getElem?_range hi]
    by_cases e : j = i
    · subst e
      rw [if_pos rfl, if_pos hi]
      show some v = some (if j = j then v else f j)
      rw [if_pos rfl]
    · rw [if_neg e]
      show some (f i) = some (if i = j then v else f i)
      rw [if_neg (fun z => e z.symm)]
  · rw [List.getElem?_eq_none (by rw [List.length_range]; omega)]
    by_cases e : j = i
    · rw [if_pos e, if_neg (by omega)]
      rfl
    · rw [if_neg e]
      rfl
theorem dropLast_snoc (xs : List Int) (y : Int) : (xs ++ [y]).dropLast = xs := List.dropLast_concat
end Pw
namespace Pw
theorem Rowp.take {p : Int} {xs : List Int} (h : Rowp p xs) {m : Nat} (h1 : 1 ≤ m) : Rowp p (xs.take m) := by
  have := h.lo
  have := h.hi
  exact ⟨by rw [List.length_take]; omega, by rw [List.length_take]; omega, fun x hx => h.rest x (List.mem_of_mem_take hx)⟩
theorem plusL_comp (p : Int) (xs ys : List Int) : plusL p xs ys = (List.range (min xs.length ys.length)).map fun n => (sq xs n + sq ys n) % p := rfl
end Pw

namespace Pw
/-! ### powers of sequences -/
def pw (f : Sq) : Nat → Sq
  | 0 => one
  | m + 1 => cv (pw f m) f
theorem cv_fun_assoc (f g h : Sq) : cv (cv f g) h = cv f (cv g h) := funext fun n => cv_assoc f g h n
theorem cv_fun_comm (f g : Sq) : cv f g = cv g f := funext fun n => cv_comm f g n
theorem cv_fun_one (f : Sq) : cv f one = f := funext fun n => cv_one_right f n
theorem cv_fun_one_left (f : Sq) : cv one f = f := funext fun n => cv_one_left f n
theorem pw_add (f : Sq) (a b : Nat) : pw f (a + b) = cv (pw f a) (pw f b) := by
  induction b with
  | zero => exact (cv_fun_one _).symm
  | succ b ih =>
    show cv (pw f (a + b)) f = cv (pw f a) (cv (pw f b) f)
    rw [ih, cv_fun_assoc]
theorem pw_one (f : Sq) : pw f 1 = f := cv_fun_one_left f
theorem pw_mul (f : Sq) (a b : Nat) : pw f (a * b) = pw (pw f a) b := by
  induction b with
  | zero => rfl
  | succ b ih =>
    show pw f (a * (b + 1)) = cv (pw (pw f a) b) (pw f a)
    rw [Nat.mul_succ, pw_add, ih]
theorem pw_one_fun (m : Nat) : pw one m = one := by
  induction m with
  | zero => rfl
  | succ m ih =>
    show cv (pw one m) one = one
    rw [ih, cv_fun_one]
theorem pw_em {p : Int} {f g : Sq} {n : Nat} (m : Nat) (h : ∀ i, i ≤ n → f i % p = g i % p) : ∀ i, i ≤ n → pw f m i % p = pw g m i % p := by
  induction m with
  | zero => exact fun _ _ => rfl
  | succ m ih => exact fun i hi => cv_em (fun j hj => ih j (Nat.le_trans hj hi)) (fun j hj => h j (Nat.le_trans hj hi))
theorem pw_congr {f g : Sq} {n : Nat} (m : Nat) (h : ∀ i, i ≤ n → f i = g i) : ∀ i, i ≤ n → pw f m i = pw g m i := by
  induction m with
  | zero => exact fun _ _ => rfl
  | succ m ih => exact fun i hi => cv_congr (fun j hj => ih j (Nat.le_trans hj hi)) (fun j hj => h j (Nat.le_trans hj hi))
theorem pw_at0 (f : Sq) (m : Nat) : pw f m 0 = f 0 ^ m := by
  induction m with
  | zero =>
    rw [Int.pow_zero]
    rfl
  | succ m ih =>
    show pw f m 0 * f 0 = f 0 ^ (m + 1)
    rw [ih, Int.pow_succ]
/-- what begins with 0 begins with so many 0 behind its power -/
theorem cv_low {f g : Sq} {a b : Nat} (hf : ∀ i, i < a → f i = 0) (hg : ∀ i, i < b → g i = 0) : ∀ n, n < a + b → cv f g n = 0 := by
  intro n hn
  rw [← sum_cv]
  have e : (List.range (n + 1)).map (fun i => f i * g (n - i)) = (List.range (n + 1)).map fun _ => (0 : Int) := by
    apply List.map_congr_left
    intro i hi
    have hi := List.mem_range.mp hi
    by_cases c : i < a
    · rw [hf i c, Int.zero_mul]
    · rw [hg (n - i) (by omega), Int.mul_zero]
  rw [e, sum_map_zero]
theorem pw_low {f : Sq} (h0 : f 0 = 0) (m : Nat) : ∀ n, n < m → pw f m n = 0 := by
  induction m with
  | zero => exact fun n hn => absurd hn (Nat.not_lt_zero _)
  | succ m ih =>
    intro n hn
    exact cv_low (b := 1) ih (fun i hi => by rw [show i = 0 by omega, h0]) n hn
/-! ### n times the place: the rule of products -/
def th (f : Sq) : Sq := fun n => (n : Int) * f n
theorem sum_map_add (f g : Nat → Int) (l : List Nat) : (l.map fun i => f i + g i).sum = (l.map f).sum + (l.map g).sum := by
  induction l with
  | nil => rfl
  | cons a r ih =>
    simp only [List.map_cons, List.sum_cons, ih]
    omega
theorem sum_map_mul (c : Int) (f : Nat → Int) (l : List Nat) : (l.map fun i => c * f i).sum = c * (l.map f).sum := by
  induction l with
  | nil => exact (Int.mul_zero _).symm
  | cons a r ih => simp only [List.map_cons, List.sum_cons, ih, Int.mul_add]
theorem th_cv (f g : Sq) (n : Nat) : th (cv f g) n = cv (th f) g n + cv f (th g) n := by
  unfold th
  rw [← sum_cv f g, ← sum_cv (fun n => (n : Int) * f n) g, ← sum_cv f (fun n => (n : Int) * g n), ← sum_map_mul, ← sum_map_add]
  congr 1
  apply List.map_congr_left
  intro i hi
  have hi := List.mem_range.mp hi
  have e : (n : Int) = (i : Int) + ((n - i : Nat) : Int) := by omega
  rw [Int.mul_assoc, Int.mul_left_comm (f i), ← Int.add_mul, ← e]
theorem th_pw (f : Sq) (m : Nat) : ∀ n, th (pw f (m + 1)) n = ((m : Int) + 1) * cv (pw f m) (th f) n := by
  induction m with
  | zero =>
    intro n
    rw [pw_one]
    show th f n = (((0 : Nat) : Int) + 1) * cv one (th f) n
    rw [cv_one_left]
    omega
  | succ m ih =>
    intro n
    show th (cv (pw f (m + 1)) f) n = _
    rw [th_cv]
    have e : th (pw f (m + 1)) = fun n => ((m : Int) + 1) * cv (pw f m) (th f) n := funext ih
    rw [e, cv_smul_left, cv_fun_assoc, cv_fun_comm (th f) f, ← cv_fun_assoc]
    show ((m : Int) + 1) * cv (pw f (m + 1)) (th f) n + cv (pw f (m + 1)) (th f) n = _
    rw [Int.natCast_succ, Int.add_mul, Int.one_mul, Int.add_mul, Int.add_mul, Int.one_mul]
/-- a row raised by the prime has rests but 0 only where the prime goes into the place -/
theorem pw_prime {p : Int} (hp : Prm p) (f : Sq) {n : Nat} (hn : ¬ p ∣ (n : Int)) : pw f p.toNat n % p = 0 := by
  have p2 := hp.pos
  obtain ⟨m, hm⟩ : ∃ m, p.toNat = m + 1 := ⟨p.toNat - 1, by omega⟩
  have h := th_pw f m n
  rw [← hm] at h
  have hpm : (m : Int) + 1 = p := by omega
  rw [hpm] at h
  have h2 : (n : Int) * pw f p.toNat n % p = 0 := by
    have : (n : Int) * pw f p.toNat n = p * cv (pw f m) (th f) n := h
    rw [this]
    exact Int.mul_emod_right _ _
  have r0 := Int.emod_nonneg (n : Int) (show p ≠ 0 by omega)
  have r1 := Int.emod_lt_of_pos (n : Int) (show 0 < p by omega)
  have rn : (n : Int) % p ≠ 0 := fun z => hn (Int.dvd_of_emod_eq_zero z)
  have hi := inv_ok hp (show 0 < (n : Int) % p by omega) r1
  generalize pw f p.toNat n = c at h2
  have e1 : (1 * c) % p = (inv p ((n : Int) % p) * ((n : Int) % p) * c) % p := em_mul (by rw [hi]; exact Int.emod_eq_of_lt (by decide) (by omega)) rfl
  have e2 : (inv p ((n : Int) % p) * ((n : Int) % p) * c) % p = (inv p ((n : Int) % p) * ((n : Int) * c)) % p := by
    rw [← Int.mul_assoc]
    exact em_mul (em_mul rfl (em_em _)) rfl
  have e3 : (inv p ((n : Int) % p) * ((n : Int) * c)) % p = (inv p ((n : Int) % p) * 0) % p := em_mul rfl (by rw [h2, Int.zero_emod])
  rw [Int.one_mul] at e1
  rw [e1, e2, e3, Int.mul_zero, Int.zero_emod]
/-! ### places stretched -/
def dil (q : Nat) (f : Sq) : Sq := fun n => if n % q = 0 then f (n / q) else 0
def shn (f : Sq) (m : Nat) : Sq := fun n => f (m + n)
theorem cv_steps (f g : Sq) (m n : Nat) : cv f g (m + n) = ((List.range m).map fun j => f j * g (m + n - j)).sum + cv (shn f m) g n := by
  induction m generalizing f with
  | zero =>
    rw [Nat.zero_add]
    have e : shn f 0 = f := funext fun n => by
      show f (0 + n) = f n
      rw [Nat.zero_add]
    rw [e]
    show _ = 0 + _
    rw [Int.zero_add]
  | succ m ih =>
    rw [show m + 1 + n = (m + n) + 1 by omega]
    show f 0 * g (m + n + 1) + cv (tl f) g (m + n) = _
    rw [ih (tl f), List.range_succ_eq_map, List.map_cons, List.map_map, List.sum_cons]
    have e1 : (List.range m).map (fun j => tl f j * g (m + n - j)) = (List.range m).map ((fun j => f j * g (m + n + 1 - j)) ∘ Nat.succ) := by
      apply List.map_congr_left
      intro j _
      show f (j + 1) * g (m + n - j) = f (j + 1) * g (m + n + 1 - (j + 1))
      rw [Nat.add_sub_add_right]
    have e2 : shn (tl f) m = shn f (m + 1) := funext fun k => by
      show f (m + k + 1) = f (m + 1 + k)
      congr 1
      omega
    rw [e1, e2]
    show _ = f 0 * g (m + n + 1 - 0) + _ + _
    rw [Nat.sub_zero]
    omega
theorem dil_shn {q : Nat} (hq : 0 < q) (f : Sq) : shn (dil q f) q = dil q (tl f) := funext fun n => by
  show (if (q + n) % q = 0 then f ((q + n) / q) else 0) = if n % q = 0 then f (n / q + 1) else 0
  rw [Nat.add_mod_left, Nat.add_div_left _ hq]
theorem dil_low {q : Nat} (f : Sq) {n : Nat} (h : n < q) (h0 : n ≠ 0) : dil q f n = 0 := by
  show (if n % q = 0 then f (n / q) else 0) = 0
  rw [Nat.mod_eq_of_lt h, if_neg h0]
theorem dil_zero (q : Nat) (f : Sq) : dil q f 0 = f 0 := by
  show (if 0 % q = 0 then f (0 / q) else 0) = f 0
  rw [Nat.zero_mod, if_pos rfl, Nat.zero_div]
theorem sum_first {m : Nat} (f : Nat → Int) (h : ∀ j, 0 < j → j < m + 1 → f j = 0) : ((List.range (m + 1)).map f).sum = f 0 := by
  rw [List.range_succ_eq_map, List.map_cons, List.map_map, List.sum_cons]
  have e : (List.range m).map (f ∘ Nat.succ) = (List.range m).map fun _ => (0 : Int) := by
    apply List.map_congr_left
    intro j hj
    exact h (j + 1) (Nat.succ_pos _) (Nat.succ_lt_succ (List.mem_range.mp hj))
  rw [e, sum_map_zero, Int.add_zero]
theorem cv_dil {q : Nat} (hq : 0 < q) (f g : Sq) (n : Nat) : cv (dil q f) (dil q g) n = dil q (cv f g) n := by
  induction n using Nat.strongRecOn generalizing f with
  | ind n ih =>
    by_cases c : n < q
    · rw [← sum_cv, sum_first _ fun j h0 h1 => by rw [dil_low f (by omega) (by omega), Int.zero_mul]]
      rw [dil_zero, Nat.sub_zero]
      by_cases z : n = 0
      · subst z
        rw [dil_zero, dil_zero]
        rfl
      · rw [dil_low g c z, dil_low _ c z, Int.mul_zero]
    · obtain ⟨k, rfl⟩ : ∃ k, n = q + k := ⟨n - q, by omega⟩
      obtain ⟨q', rfl⟩ : ∃ q', q = q' + 1 := ⟨q - 1, by omega⟩
      rw [cv_steps, sum_first _ fun j h0 h1 => by rw [dil_low f h1 (by omega), Int.zero_mul], dil_shn hq, ih k (by omega), dil_zero, Nat.sub_zero]
      show f 0 * (if (q' + 1 + k) % (q' + 1) = 0 then g ((q' + 1 + k) / (q' + 1)) else 0) + (if k % (q' + 1) = 0 then cv (tl f) g (k / (q' + 1)) else 0) = if (q' + 1 + k) % (q' + 1) = 0 then cv f g ((q' + 1 + k) / (q' + 1)) else 0
      rw [Nat.add_mod_left, Nat.add_div_left _ hq]
      by_cases z : k % (q' + 1) = 0
      · rw [if_pos z, if_pos z, if_pos z]
        rfl
      · rw [if_neg z, if_neg z, if_neg z, Int.mul_zero, Int.add_zero]
theorem dil_one {q : Nat} : dil q one = one := funext fun n => by
  show (if n % q = 0 then (if n / q = 0 then (1 : Int) else 0) else 0) = if n = 0 then 1 else 0
  by_cases z : n = 0
  · subst z
    rw [Nat.zero_mod, Nat.zero_div]
    rfl
  · rw [if_neg z]
    by_cases y : n % q = 0
    · rw [if_pos y, if_neg]
      intro w
      have := Nat.div_add_mod n q
      rw [w, y] at this
      omega
    · rw [if_neg y]
theorem pw_dil {q : Nat} (hq : 0 < q) (f : Sq) (m : Nat) : pw (dil q f) m = dil q (pw f m) := by
  induction m with
  | zero => exact dil_one.symm
  | succ m ih =>
    show cv (pw (dil q f) m) (dil q f) = dil q (cv (pw f m) f)
    rw [ih]
    exact funext fun n => cv_dil hq _ _ n
/-- raised by a power of the prime: rests but 0 only at its multiples -/
theorem pw_primes {p : Int} (hp : Prm p) (k : Nat) : ∀ (f : Sq) (n : Nat), n % (p.toNat ^ k) ≠ 0 → pw f (p.toNat ^ k) n % p = 0 := by
  have p2 := hp.pos
  have q0 : 0 < p.toNat := by omega
  induction k with
  | zero =>
    intro f n h
    rw [Nat.pow_zero, Nat.mod_one] at h
    exact absurd rfl h
  | succ k ih =>
    intro f n h
    have e : pw f (p.toNat ^ (k + 1)) = pw (pw f p.toNat) (p.toNat ^ k) := by
      rw [Nat.pow_succ, Nat.mul_comm, pw_mul]
    have s : ∀ i, i ≤ n → pw f p.toNat i % p = dil p.toNat (fun j => pw f p.toNat (p.toNat * j)) i % p := by
      intro i _
      show _ = (if i % p.toNat = 0 then pw f p.toNat (p.toNat * (i / p.toNat)) else 0) % p
      by_cases z : i % p.toNat = 0
      · rw [if_pos z, Nat.mul_div_cancel' (Nat.dvd_of_mod_eq_zero z)]
      · rw [if_neg z, Int.zero_emod]
        refine pw_prime hp f fun d => z ?_
        have e2 : ((p.toNat : Nat) : Int) = p := Int.toNat_of_nonneg (by omega)
        rw [← e2] at d
        exact Nat.mod_eq_zero_of_dvd (Int.natCast_dvd_natCast.mp d)
    rw [e, pw_em _ s n (Nat.le_refl _), pw_dil q0]
    show (if n % p.toNat = 0 then pw (fun j => pw f p.toNat (p.toNat * j)) (p.toNat ^ k) (n / p.toNat) else 0) % p = 0
    by_cases z : n % p.toNat = 0
    · rw [if_pos z]
      refine ih _ _ fun w => h ?_
      rw [Nat.pow_succ, Nat.mul_comm, Nat.mod_mul, w, z]
      omega
    · rw [if_neg z, Int.zero_emod]
/-- Fermat -/
def fermCheck : Bool := primes.all fun p => (List.range p.toNat).all fun r => r == 0 || powm p r (p - 1).toNat == 1
theorem fermCheck_ok : fermCheck = true := by decide +kernel
theorem powm_pow {p r : Int} (n : Nat) : powm p r n % p = r ^ n % p := by
  induction n with
  | zero =>
    rw [Int.pow_zero]
    rfl
  | succ n ih =>
    show powm p r n * r % p % p = _
    rw [em_em, Int.pow_succ]
    exact em_mul ih rfl
theorem fermat {p r : Int} (hp : Prm p) (h0 : 0 < r) (h1 : r < p) : r ^ (p - 1).toNat % p = 1 := by
  have p2 := hp.pos
  have h := List.all_eq_true.mp fermCheck_ok p hp
  have h2 := List.all_eq_true.mp h r.toNat (List.mem_range.mpr (by omega))
  have e : ((r.toNat : Nat) : Int) = r := Int.toNat_of_nonneg (Int.le_of_lt h0)
  have ne : (r.toNat == 0) = false := by
    rw [beq_eq_false_iff_ne]
    omega
  rw [ne, Bool.false_or] at h2
  have h3 := beq_iff_eq.mp h2
  rw [e] at h3
  rw [← powm_pow, h3]
  exact Int.emod_eq_of_lt (by decide) (by omega)
theorem pow_emod {p a b : Int} (h : a % p = b % p) (n : Nat) : a ^ n % p = b ^ n % p := by
  induction n with
  | zero => rw [Int.pow_zero, Int.pow_zero]
  | succ n ih =>
    rw [Int.pow_succ, Int.pow_succ]
    exact em_mul ih h
/-- raised by a whole turn a row that doesn't begin with 0 is the row 1 -/
theorem pw_turn {p : Int} (hp : Prm p) {f : Sq} (h0 : f 0 % p ≠ 0) (k : Nat) {n : Nat} (hn : n < p.toNat ^ k) : pw f (p.toNat ^ k * (p - 1).toNat) n % p = one n % p := by
  have p2 := hp.pos
  rw [pw_mul]
  have s : ∀ i, i ≤ n → pw f (p.toNat ^ k) i % p = smul (f 0 ^ (p.toNat ^ k)) one i % p := by
    intro i hi
    show _ = (f 0 ^ (p.toNat ^ k) * (if i = 0 then 1 else 0)) % p
    by_cases z : i = 0
    · subst z
      rw [pw_at0, if_pos rfl, Int.mul_one]
    · rw [if_neg z, Int.mul_zero, Int.zero_emod]
      refine pw_primes hp k f i ?_
      rw [Nat.mod_eq_of_lt (by omega)]
      exact z
  rw [pw_em _ s n (Nat.le_refl _)]
  have e : ∀ m : Nat, pw (smul (f 0 ^ (p.toNat ^ k)) one) m = smul ((f 0 ^ (p.toNat ^ k)) ^ m) one := by
    intro m
    induction m with
    | zero =>
      rw [Int.pow_zero]
      exact funext fun n => (Int.one_mul _).symm
    | succ m ih =>
      show cv (pw (smul (f 0 ^ (p.toNat ^ k)) one) m) (smul (f 0 ^ (p.toNat ^ k)) one) = _
      rw [ih]
      funext n
      show cv (fun n => (f 0 ^ (p.toNat ^ k)) ^ m * one n) (fun n => f 0 ^ (p.toNat ^ k) * one n) n = (f 0 ^ (p.toNat ^ k)) ^ (m + 1) * one n
      rw [cv_smul_left, cv_smul_right, cv_one_left, Int.pow_succ, Int.mul_assoc]
  rw [e]
  have r0 := Int.emod_nonneg (f 0) (show p ≠ 0 by omega)
  have r1 := Int.emod_lt_of_pos (f 0) (show 0 < p by omega)
  have fm := fermat hp (show 0 < f 0 % p by omega) r1
  have f1 : (f 0 ^ (p - 1).toNat) % p = 1 % p := by
    rw [pow_emod (em_em (f 0)).symm, fm, Int.emod_eq_of_lt (by decide) (by omega)]
  have f2 : ((f 0 ^ (p.toNat ^ k)) ^ (p - 1).toNat) % p = 1 % p := by
    rw [← Int.pow_mul, Nat.mul_comm, Int.pow_mul, pow_emod f1, Int.one_pow]
  show ((f 0 ^ (p.toNat ^ k)) ^ (p - 1).toNat * one n) % p = one n % p
  rw [em_mul f2 rfl, Int.one_mul]
/-- a count and what it leaves by a whole turn -/
theorem pw_rest {p : Int} (hp : Prm p) {f : Sq} (h0 : f 0 % p ≠ 0) (k m : Nat) {n : Nat} (hn : n < p.toNat ^ k) : pw f m n % p = pw f (m % (p.toNat ^ k * (p - 1).toNat)) n % p := by
  have e : m = (p.toNat ^ k * (p - 1).toNat) * (m / (p.toNat ^ k * (p - 1).toNat)) + m % (p.toNat ^ k * (p - 1).toNat) := (Nat.div_add_mod _ _).symm
  conv => lhs; rw [e]
  rw [pw_add, pw_mul]
  have s : ∀ i, i ≤ n → pw (pw f (p.toNat ^ k * (p - 1).toNat)) (m / (p.toNat ^ k * (p - 1).toNat)) i % p = one i % p := by
    intro i hi
    rw [pw_em (g := one) (n := n) _ (fun j hj => pw_turn hp h0 k (by omega)) i hi, pw_one_fun]
  rw [cv_em s fun _ _ => rfl, cv_one_left]
/-! ### the values that raised tells -/
def powL (p : Int) (xs : List Int) (m : Nat) : List Int := (List.range xs.length).map fun n => pw (sq xs) m n % p
theorem powL_len (p : Int) (xs : List Int) (m : Nat) : (powL p xs m).length = xs.length := by
  unfold powL
  rw [List.length_map, List.length_range]
theorem sq_powL {p : Int} {xs : List Int} {m n : Nat} (h : n < xs.length) : sq (powL p xs m) n = pw (sq xs) m n % p := sq_map_range h
theorem powL_rowp {p : Int} (hp : 0 < p) {xs : List Int} (R : Rowp p xs) (m : Nat) : Rowp p (powL p xs m) := rowp_map hp R.lo R.hi
theorem powL_mul (p : Int) (xs : List Int) (a b : Nat) : prodL p (powL p xs a) (powL p xs b) = powL p xs (a + b) := by
  have l : (prodL p (powL p xs a) (powL p xs b)).length = xs.length := by
    rw [prodL_len, powL_len, powL_len]
    omega
  refine ext_sq (by rw [l, powL_len]) fun n hn => ?_
  rw [l] at hn
  rw [sq_prodL (by rw [powL_len, powL_len]; omega), sq_powL hn, pw_add]
  exact cv_em (fun i hi => by rw [sq_powL (by omega), em_em]) (fun i hi => by rw [sq_powL (by omega), em_em])
theorem powL_one {p : Int} {xs : List Int} (R : Rowp p xs) : powL p xs 1 = xs := by
  refine ext_sq (powL_len _ _ _) fun n hn => ?_
  rw [powL_len] at hn
  rw [sq_powL hn, pw_one, R.em hn]
theorem powL_succ {p : Int} {xs : List Int} (R : Rowp p xs) (m : Nat) : prodL p (powL p xs m) xs = powL p xs (m + 1) := by
  conv => lhs; rw [← powL_one R]
  rw [powL_one R]
  have := powL_mul p xs m 1
  rw [powL_one R] at this
  exact this
theorem powL_zero {p : Int} (hp : 1 < p) {xs : List Int} (h : 1 ≤ xs.length) : powL p xs 0 = 1 :: List.replicate (xs.length - 1) 0 := by
  refine ext_sq ?_ fun n hn => ?_
  · rw [powL_len, List.length_cons, List.length_replicate]
    omega
  · rw [powL_len] at hn
    rw [sq_powL hn]
    show (if n = 0 then (1 : Int) else 0) % p = _
    cases n with
    | zero =>
      rw [if_pos rfl]
      exact Int.emod_eq_of_lt (by decide) hp
    | succ n =>
      rw [if_neg (Nat.succ_ne_zero _), Int.zero_emod]
      show (0 : Int) = (List.replicate (xs.length - 1) 0).getD n 0
      rw [List.getD_eq_getElem?_getD, List.getElem?_replicate]
      split <;> rfl
/-- the same for counts that the rows don't tell apart -/
theorem powL_low {p : Int} {xs : List Int} (h0 : sq xs 0 = 0) (m : Nat) : powL p xs m = powL p xs (min m xs.length) := by
  by_cases c : m ≤ xs.length
  · rw [Nat.min_eq_left c]
  · rw [Nat.min_eq_right (by omega)]
    unfold powL
    apply List.map_congr_left
    intro n hn
    have hn := List.mem_range.mp hn
    rw [pw_low h0 m n (by omega), pw_low h0 xs.length n hn]
theorem powL_turn {p : Int} (hp : Prm p) {xs : List Int} (h0 : sq xs 0 % p ≠ 0) (k m : Nat) (hk : xs.length ≤ p.toNat ^ k) : powL p xs m = powL p xs (m % (p.toNat ^ k * (p - 1).toNat)) := by
  unfold powL
  apply List.map_congr_left
  intro n hn
  have hn := List.mem_range.mp hn
  exact pw_rest hp h0 k m (by omega)
end Pw

namespace Pw
/-! ### roots -/
/-- the lesser rest that multiplied by itself comes to r; 0 where there is none -/
def lroot (p r : Int) : Int := (((List.range (p / 2).toNat).map fun (i : Nat) => (i : Int) + 1).find? fun l => l * l % p == r).getD 0
def squares (p : Int) : List Int := (List.range (p - 1).toNat).map fun (i : Nat) => ((i : Int) + 1) * ((i : Int) + 1) % p
def rootCheck : Bool := primes.all fun p => p == 2 || (List.range p.toNat).all fun r => (squares p).contains (r : Int) == !(lroot p r == 0)
theorem rootCheck_ok : rootCheck = true := by decide +kernel
theorem squares_lroot {p r : Int} (hp : Prm p) (h2 : p ≠ 2) (h0 : 0 ≤ r) (h1 : r < p) : r ∈ squares p ↔ lroot p r ≠ 0 := by
  have p2 := hp.pos
  have h := List.all_eq_true.mp rootCheck_ok p hp
  have ne : (p == 2) = false := by
    rw [beq_eq_false_iff_ne]
    exact h2
  rw [ne, Bool.false_or] at h
  have h3 := beq_iff_eq.mp (List.all_eq_true.mp h r.toNat (List.mem_range.mpr (by omega)))
  have e : ((r.toNat : Nat) : Int) = r := Int.toNat_of_nonneg h0
  rw [e] at h3
  rw [← List.contains_iff_mem, h3, Bool.not_eq_true', beq_eq_false_iff_ne]
theorem lroot_some {p r : Int} (h : lroot p r ≠ 0) : 1 ≤ lroot p r ∧ lroot p r ≤ p / 2 ∧ lroot p r * lroot p r % p = r := by
  unfold lroot at h ⊢
  cases e : (((List.range (p / 2).toNat).map fun (i : Nat) => (i : Int) + 1).find? fun l => l * l % p == r) with
  | none =>
    rw [e] at h
    exact absurd rfl h
  | some l =>
    have h1 := List.find?_some e
    have h2 := List.mem_of_find?_eq_some e
    obtain ⟨i, hi, rfl⟩ := List.mem_map.mp h2
    have hi := List.mem_range.mp hi
    refine ⟨?_, ?_, beq_iff_eq.mp h1⟩
    · show 1 ≤ (i : Int) + 1
      omega
    · show (i : Int) + 1 ≤ p / 2
      omega
/-- the root's first places -/
def rtL (p half first : Int) (f : Sq) : Nat → List Int
  | 0 => [first]
  | n + 1 => rtL p half first f n ++ [(f (n + 1) - ((List.range n).map fun i => sq (rtL p half first f n) (i + 1) * sq (rtL p half first f n) (n - i)).sum) * half % p]
theorem rtL_len (p half first : Int) (f : Sq) (n : Nat) : (rtL p half first f n).length = n + 1 := by
  induction n with
  | zero => rfl
  | succ n ih =>
    show (rtL p half first f n ++ [_]).length = n + 1 + 1
    rw [List.length_append, ih]
    rfl
theorem rtL_sq (p half first : Int) (f : Sq) {n m : Nat} (h : n ≤ m) : sq (rtL p half first f m) n = sq (rtL p half first f n) n := by
  induction m with
  | zero =>
    obtain rfl : n = 0 := by omega
    rfl
  | succ m ih =>
    by_cases e : n = m + 1
    · rw [e]
    · show sq (rtL p half first f m ++ [_]) n = _
      rw [sq_append_left (by rw [rtL_len]; omega)]
      exact ih (by omega)
theorem rtL_at (p half first : Int) (f : Sq) (n : Nat) : sq (rtL p half first f (n + 1)) (n + 1) = (f (n + 1) - ((List.range n).map fun i => sq (rtL p half first f n) (i + 1) * sq (rtL p half first f n) (n - i)).sum) * half % p := by
  have h := sq_append_at (xs := rtL p half first f n) (y := (f (n + 1) - ((List.range n).map fun i => sq (rtL p half first f n) (i + 1) * sq (rtL p half first f n) (n - i)).sum) * half % p)
  rw [rtL_len] at h
  exact h
theorem rtL_zero (p half first : Int) (f : Sq) (m : Nat) : sq (rtL p half first f m) 0 = first := by
  rw [rtL_sq p half first f (Nat.zero_le m)]
  rfl
theorem rtL_rest {p half first : Int} {f : Sq} (hp : 0 < p) (h : 0 ≤ first ∧ first < p) (n : Nat) : ∀ x ∈ rtL p half first f n, 0 ≤ x ∧ x < p := by
  induction n with
  | zero =>
    intro x hx
    obtain rfl := List.mem_singleton.mp hx
    exact h
  | succ n ih =>
    intro x hx
    rcases List.mem_append.mp hx with hx | hx
    · exact ih x hx
    · obtain rfl := List.mem_singleton.mp hx
      exact ⟨Int.emod_nonneg _ (by omega), Int.emod_lt_of_pos _ hp⟩
/-- a row by itself: both ends, and what lies between -/
theorem cv_self (t : Sq) (n : Nat) : cv t t (n + 1) = 2 * t 0 * t (n + 1) + ((List.range n).map fun i => t (i + 1) * t (n - i)).sum := by
  rw [← sum_cv, List.range_succ, List.map_append, List.sum_append, List.range_succ_eq_map, List.map_cons, List.map_map, List.sum_cons]
  have e : (List.range n).map ((fun i => t i * t (n + 1 - i)) ∘ Nat.succ) = (List.range n).map fun i => t (i + 1) * t (n - i) := by
    apply List.map_congr_left
    intro i _
    show t (i + 1) * t (n + 1 - (i + 1)) = _
    rw [Nat.add_sub_add_right]
  rw [e]
  show t 0 * t (n + 1) + _ + (t (n + 1) * t (n + 1 - (n + 1)) + 0) = _
  rw [Nat.sub_self, Int.mul_comm (t (n + 1)), Int.mul_assoc, Int.two_mul]
  omega
theorem rtL_mul {p half first : Int} {f : Sq} (hh : half * (2 * first) % p = 1 % p) (h0 : first * first % p = f 0 % p) {m n : Nat} (h : n ≤ m) : cv (sq (rtL p half first f m)) (sq (rtL p half first f m)) n % p = f n % p := by
  cases n with
  | zero =>
    show sq (rtL p half first f m) 0 * sq (rtL p half first f m) 0 % p = _
    rw [rtL_zero, h0]
  | succ n =>
    rw [cv_self, rtL_zero]
    have e2 : (List.range n).map (fun i => sq (rtL p half first f m) (i + 1) * sq (rtL p half first f m) (n - i)) = (List.range n).map fun i => sq (rtL p half first f n) (i + 1) * sq (rtL p half first f n) (n - i) := by
      apply List.map_congr_left
      intro i hi
      have hi := List.mem_range.mp hi
      rw [rtL_sq p half first f (show i + 1 ≤ m by omega), ← rtL_sq p half first f (show i + 1 ≤ n by omega), rtL_sq p half first f (show n - i ≤ m by omega), ← rtL_sq p half first f (show n - i ≤ n by omega)]
    rw [e2, rtL_sq p half first f h, rtL_at]
    generalize ((List.range n).map fun i => sq (rtL p half first f n) (i + 1) * sq (rtL p half first f n) (n - i)).sum = S
    have a1 : 2 * first * ((f (n + 1) - S) * half % p) % p = (f (n + 1) - S) % p := by
      have b1 : 2 * first * ((f (n + 1) - S) * half % p) % p = (2 * first * ((f (n + 1) - S) * half)) % p := em_mul rfl (em_em _)
      have b2 : 2 * first * ((f (n + 1) - S) * half) = (f (n + 1) - S) * (half * (2 * first)) := by
        rw [Int.mul_left_comm, Int.mul_comm (2 * first) half]
      have b3 : (f (n + 1) - S) * (half * (2 * first)) % p = (f (n + 1) - S) * 1 % p := em_mul rfl hh
      rw [b1, b2, b3, Int.mul_one]
    rw [em_add a1 (rfl : S % p = S % p)]
    congr 1
    omega
/-- what root tells -/
def rootL (p : Int) (xs : List Int) : List Int := rtL p (inv p (2 * lroot p (sq xs 0))) (lroot p (sq xs 0)) (sq xs) (xs.length - 1)
theorem rootL_len {p : Int} {xs : List Int} (h : 1 ≤ xs.length) : (rootL p xs).length = xs.length := by
  unfold rootL
  rw [rtL_len]
  omega
theorem odd_half {p : Int} (hp : Prm p) (h2 : p ≠ 2) : p % 2 = 1 := by
  unfold Prm primes at hp
  simp only [List.mem_cons, List.not_mem_nil, or_false] at hp
  omega
theorem rootL_rowp {p : Int} {xs : List Int} (hp : Prm p) (R : Rowp p xs) (hr : lroot p (sq xs 0) ≠ 0) : Rowp p (rootL p xs) := by
  have p2 := hp.pos
  have l := lroot_some hr
  exact ⟨by rw [rootL_len R.lo]; exact R.lo, by rw [rootL_len R.lo]; exact R.hi, rtL_rest (by omega) (by omega) _⟩
theorem rootL_mul {p : Int} {xs : List Int} (hp : Prm p) (h2 : p ≠ 2) (R : Rowp p xs) (hr : lroot p (sq xs 0) ≠ 0) : prodL p (rootL p xs) (rootL p xs) = xs := by
  have p2 := hp.pos
  have po := odd_half hp h2
  have l := lroot_some hr
  have r0 := R.lo
  have hlen : (prodL p (rootL p xs) (rootL p xs)).length = xs.length := by
    rw [prodL_len, rootL_len r0]
    omega
  refine ext_sq hlen fun n hn => ?_
  rw [hlen] at hn
  rw [sq_prodL (by rw [rootL_len r0]; omega), ← R.em hn]
  unfold rootL
  have hi := inv_ok hp (show 0 < 2 * lroot p (sq xs 0) by omega) (by omega)
  exact rtL_mul (by rw [hi, Int.emod_eq_of_lt (by decide) (by omega)]) (by rw [l.2.2, R.em (by omega)]) (by omega)
theorem rootL_zero (p : Int) (xs : List Int) : sq (rootL p xs) 0 = lroot p (sq xs 0) := rtL_zero _ _ _ _ _
/-! ### the row 1 ahead of the prime's power -/
theorem powL_prime5 {p : Int} (hp : Prm p) {xs : List Int} (R : Rowp p xs) (h1 : sq xs 0 = 1) : powL p xs (p ^ 5).toNat = 1 :: List.replicate (xs.length - 1) 0 := by
  have p2 := hp.pos
  have hl := R.lo
  have hu := R.hi
  have ep : ((p.toNat : Nat) : Int) = p := Int.toNat_of_nonneg (by omega)
  have e5 : (p ^ 5).toNat = p.toNat ^ 5 := by
    have : p ^ 5 = ((p.toNat ^ 5 : Nat) : Int) := by rw [Int.natCast_pow, ep]
    rw [this, Int.toNat_natCast]
  have big : 32 ≤ p.toNat ^ 5 := Nat.pow_le_pow_left (show 2 ≤ p.toNat by omega) 5
  rw [e5]
  refine ext_sq ?_ fun n hn => ?_
  · rw [powL_len, List.length_cons, List.length_replicate]
    omega
  · rw [powL_len] at hn
    rw [sq_powL hn]
    cases n with
    | zero =>
      rw [pw_at0, h1, Int.one_pow]
      exact Int.emod_eq_of_lt (by decide) (by omega)
    | succ n =>
      rw [pw_primes hp 5 (sq xs) (n + 1) (by rw [Nat.mod_eq_of_lt (by omega)]; omega)]
      show (0 : Int) = (List.replicate (xs.length - 1) 0).getD n 0
      rw [List.getD_eq_getElem?_getD, List.getElem?_replicate]
      split <;> rfl
end Pw
namespace Pw
theorem find_range {m i : Nat} {f : Nat → Int} {pr : Int → Bool} (hi : i < m) (hf : ∀ j, j < i → pr (f j) = false) (ht : pr (f i) = true) : ((List.range m).map f).find? pr = some (f i) := by
  rw [List.find?_eq_some_iff_getElem]
  refine ⟨ht, i, by rw [List.length_map, List.length_range]; exact hi, by rw [List.getElem_map, List.getElem_range], fun j hj => ?_⟩
  rw [List.getElem_map, List.getElem_range, hf j hj]
  rfl
theorem find_none {m : Nat} {f : Nat → Int} {pr : Int → Bool} (hf : ∀ j, j < m → pr (f j) = false) : ((List.range m).map f).find? pr = none := by
  rw [List.find?_eq_none]
  intro x hx
  obtain ⟨j, hj, rfl⟩ := List.mem_map.mp hx
  rw [hf j (List.mem_range.mp hj)]
  exact Bool.false_ne_true
end Pw
namespace Pw
theorem Rowp.cons {p c : Int} {xs : List Int} (R : Rowp p xs) (h0 : 0 ≤ c) (h1 : c < p) (hl : xs.length ≤ 19) : Rowp p (c :: xs) :=
  ⟨by rw [List.length_cons]; omega, by rw [List.length_cons]; omega, fun x hx => by
    rcases List.mem_cons.mp hx with e | hx
    · rw [e]
      exact ⟨h0, h1⟩
    · exact R.rest x hx⟩
end Pw

namespace Pw
/-! ### sequences put in one another -/
/-- the sum over the first m places of f of its rest times the power of h -/
def com (m : Nat) (f h : Sq) (n : Nat) : Int := ((List.range m).map fun i => f i * pw h i n).sum
def co (f h : Sq) (n : Nat) : Int := com (n + 1) f h n
def xs1 : Sq := sh one
theorem com_succ (m : Nat) (f h : Sq) (n : Nat) : com (m + 1) f h n = com m f h n + f m * pw h m n := by
  unfold com
  rw [List.range_succ, List.map_append, List.sum_append]
  show _ + (f m * pw h m n + 0) = _
  rw [Int.add_zero]
theorem com_zero (f h : Sq) (n : Nat) : com 0 f h n = 0 := rfl
theorem com_congr {m : Nat} {f f' : Sq} (h : Sq) (n : Nat) (e : ∀ i, i < m → f i = f' i) : com m f h n = com m f' h n := by
  unfold com
  congr 1
  apply List.map_congr_left
  intro i hi
  rw [e i (List.mem_range.mp hi)]
theorem com_em {p : Int} {m : Nat} {f f' h h' : Sq} {n : Nat} (e : ∀ i, i < m → f i % p = f' i % p) (eh : ∀ i, i ≤ n → h i % p = h' i % p) : com m f h n % p = com m f' h' n % p := by
  induction m with
  | zero => rfl
  | succ m ih =>
    rw [com_succ, com_succ]
    exact em_add (ih fun i hi => e i (by omega)) (em_mul (e m (by omega)) (pw_em m eh n (Nat.le_refl _)))
theorem cv_com (m : Nat) (f h g : Sq) (n : Nat) : cv g (com m f h) n = ((List.range m).map fun i => f i * cv g (pw h i) n).sum := by
  induction m with
  | zero => exact cv_zer_right g n
  | succ m ih =>
    have e : com (m + 1) f h = fun n => com m f h n + (fun n => f m * pw h m n) n := funext fun n => com_succ m f h n
    rw [e, cv_add_right, cv_smul_right, ih, List.range_succ, List.map_append, List.sum_append]
    show _ = _ + (f m * cv g (pw h m) n + 0)
    rw [Int.add_zero]
theorem pw_succ_left (h : Sq) (m : Nat) : pw h (m + 1) = cv h (pw h m) := by
  show cv (pw h m) h = _
  rw [cv_fun_comm]
/-- by the first place of f and the others -/
theorem com_step (m : Nat) (f h : Sq) (n : Nat) : com (m + 1) f h n = f 0 * one n + cv h (com m (tl f) h) n := by
  rw [cv_com]
  show ((List.range (m + 1)).map fun i => f i * pw h i n).sum = _
  rw [List.range_succ_eq_map, List.map_cons, List.map_map, List.sum_cons]
  have e : (List.range m).map ((fun i => f i * pw h i n) ∘ Nat.succ) = (List.range m).map fun i => tl f i * cv h (pw h i) n := by
    apply List.map_congr_left
    intro i _
    show f (i + 1) * pw h (i + 1) n = f (i + 1) * cv h (pw h i) n
    rw [pw_succ_left]
  rw [e]
  rfl
theorem com_more {f h : Sq} (h0 : h 0 = 0) {m n : Nat} (hm : n < m) : com m f h n = co f h n := by
  obtain ⟨d, rfl⟩ : ∃ d, m = n + 1 + d := ⟨m - (n + 1), by omega⟩
  clear hm
  induction d with
  | zero => rfl
  | succ d ih =>
    rw [show n + 1 + (d + 1) = (n + 1 + d) + 1 by omega, com_succ, ih, pw_low h0 (n + 1 + d) n (by omega), Int.mul_zero, Int.add_zero]
theorem cv_congr0 {g F F' : Sq} (g0 : g 0 = 0) {n : Nat} (e : ∀ i, i < n → F i = F' i) : cv g F n = cv g F' n := by
  rw [cv_comm g, cv_comm g]
  cases n with
  | zero =>
    show F 0 * g 0 = F' 0 * g 0
    rw [g0, Int.mul_zero, Int.mul_zero]
  | succ n =>
    rw [cv_succ, cv_succ, g0, Int.mul_zero, Int.mul_zero]
    congr 1
    exact cv_congr (fun i hi => e i (by omega)) fun _ _ => rfl
theorem co_step {f h : Sq} (h0 : h 0 = 0) (n : Nat) : co f h n = f 0 * one n + cv h (co (tl f) h) n := by
  show com (n + 1) f h n = _
  rw [com_step]
  congr 1
  exact cv_congr0 h0 fun i hi => com_more h0 (by omega)
theorem co_at0 {f h : Sq} (h0 : h 0 = 0) : co f h 0 = f 0 := by
  rw [co_step h0]
  show f 0 * 1 + h 0 * _ = f 0
  rw [h0, Int.zero_mul, Int.mul_one, Int.add_zero]
theorem com_add (m : Nat) (f g h : Sq) (n : Nat) : com m (fun i => f i + g i) h n = com m f h n + com m g h n := by
  unfold com
  rw [← sum_map_add]
  congr 1
  apply List.map_congr_left
  intro i _
  exact Int.add_mul _ _ _
theorem com_smul (m : Nat) (c : Int) (f h : Sq) (n : Nat) : com m (fun i => c * f i) h n = c * com m f h n := by
  unfold com
  rw [← sum_map_mul]
  congr 1
  apply List.map_congr_left
  intro i _
  exact Int.mul_assoc _ _ _
/-- products are kept -/
theorem co_mul {h : Sq} (h0 : h 0 = 0) (n : Nat) : ∀ (f g : Sq), co (cv f g) h n = cv (co f h) (co g h) n := by
  induction n using Nat.strongRecOn with
  | ind n ih =>
    intro f g
    rw [co_step h0]
    have ef : co f h = fun k => f 0 * one k + cv h (co (tl f) h) k := funext fun k => co_step h0 k
    have eg : ∀ k, co (tl (cv f g)) h k = f 0 * co (tl g) h k + co (cv (tl f) g) h k := fun k => by
      show com (k + 1) (fun i => (fun i => f 0 * tl g i) i + cv (tl f) g i) h k = _
      rw [com_add, com_smul]
      rfl
    have e1 : cv h (co (tl (cv f g)) h) n = f 0 * cv h (co (tl g) h) n + cv h (co (cv (tl f) g) h) n := by
      rw [show co (tl (cv f g)) h = fun k => (fun k => f 0 * co (tl g) h k) k + co (cv (tl f) g) h k from funext eg, cv_add_right, cv_smul_right]
    have e2 : cv h (co (cv (tl f) g) h) n = cv h (cv (co (tl f) h) (co g h)) n := cv_congr0 h0 fun i hi => ih i hi (tl f) g
    rw [e1, e2]
    conv => rhs; rw [ef]
    rw [cv_add_left, cv_smul_left, cv_one_left, cv_assoc, co_step (f := g) h0]
    show f 0 * g 0 * one n + _ = _
    rw [Int.mul_add, Int.mul_assoc]
    omega
theorem co_one {h : Sq} (h0 : h 0 = 0) (n : Nat) : co one h n = one n := by
  rw [co_step h0]
  have e : cv h (co (tl one) h) n = 0 := by
    have z : co (tl one) h = zer := funext fun k => by
      show com (k + 1) (tl one) h k = 0
      have : tl one = fun i => 0 * one i := funext fun i => by
        show (if i + 1 = 0 then (1 : Int) else 0) = _
        rw [if_neg (Nat.succ_ne_zero _), Int.zero_mul]
      rw [this, com_smul, Int.zero_mul]
    rw [z, cv_zer_right]
  rw [e, Int.add_zero]
  show (1 : Int) * one n = one n
  rw [Int.one_mul]
theorem co_pw {h : Sq} (h0 : h 0 = 0) (g : Sq) (i : Nat) : co (pw g i) h = pw (co g h) i := by
  induction i with
  | zero => exact funext fun n => co_one h0 n
  | succ i ih =>
    funext n
    show co (cv (pw g i) g) h n = cv (pw (co g h) i) (co g h) n
    rw [co_mul h0, ih]
/-- either way round -/
theorem co_assoc {g h : Sq} (g0 : g 0 = 0) (h0 : h 0 = 0) (n : Nat) : ∀ f : Sq, co (co f g) h n = co f (co g h) n := by
  induction n using Nat.strongRecOn with
  | ind n ih =>
    intro f
    have G0 : co g h 0 = 0 := by rw [co_at0 h0, g0]
    rw [co_step (f := f) G0]
    have ef : co f g = fun k => (fun k => f 0 * one k) k + cv g (co (tl f) g) k := funext fun k => co_step g0 k
    have e1 : co (co f g) h n = f 0 * co one h n + co (cv g (co (tl f) g)) h n := by
      conv => lhs; rw [ef]
      show com (n + 1) (fun k => (fun k => f 0 * one k) k + cv g (co (tl f) g) k) h n = _
      rw [com_add, com_smul]
      rfl
    rw [e1, co_one h0, co_mul h0]
    congr 1
    exact cv_congr0 G0 fun i hi => ih i hi (tl f)
theorem xs1_pw (i n : Nat) : pw xs1 i n = if n = i then 1 else 0 := by
  induction i generalizing n with
  | zero => rfl
  | succ i ih =>
    rw [pw_succ_left]
    show cv (sh one) (pw xs1 i) n = _
    rw [cv_sh_left]
    cases n with
    | zero =>
      rw [if_neg (by omega)]
      rfl
    | succ n =>
      show cv one (pw xs1 i) n = _
      rw [cv_one_left, ih]
      by_cases c : n = i
      · rw [if_pos c, if_pos (by omega)]
      · rw [if_neg c, if_neg (by omega)]
theorem co_id_right (f : Sq) (n : Nat) : co f xs1 n = f n := by
  show com (n + 1) f xs1 n = f n
  rw [com_succ, xs1_pw, if_pos rfl, Int.mul_one]
  have : com n f xs1 n = 0 := by
    unfold com
    rw [show (List.range n).map (fun i => f i * pw xs1 i n) = (List.range n).map fun _ => (0 : Int) from List.map_congr_left fun i hi => by
      rw [xs1_pw, if_neg (by have := List.mem_range.mp hi; omega), Int.mul_zero], sum_map_zero]
  rw [this, Int.zero_add]
theorem co_id_left {h : Sq} (h0 : h 0 = 0) (n : Nat) : co xs1 h n = h n := by
  rw [co_step h0]
  have e : tl xs1 = one := rfl
  have z : cv h (co (tl xs1) h) n = h n := by
    rw [e, show co one h = one from funext fun n => co_one h0 n, cv_one_right]
  rw [z]
  show (0 : Int) * one n + h n = h n
  rw [Int.zero_mul, Int.zero_add]
theorem co_em {p : Int} {f f' h h' : Sq} {n : Nat} (e : ∀ i, i ≤ n → f i % p = f' i % p) (eh : ∀ i, i ≤ n → h i % p = h' i % p) : co f h n % p = co f' h' n % p := com_em (fun i hi => e i (by omega)) eh
/-! ### the values that put_in tells -/
def putL (p : Int) (xs ys : List Int) : List Int := (List.range (min xs.length ys.length)).map fun n => co (sq xs) (sq ys) n % p
theorem putL_len (p : Int) (xs ys : List Int) : (putL p xs ys).length = min xs.length ys.length := by
  unfold putL
  rw [List.length_map, List.length_range]
theorem sq_putL {p : Int} {xs ys : List Int} {n : Nat} (h : n < min xs.length ys.length) : sq (putL p xs ys) n = co (sq xs) (sq ys) n % p := sq_map_range h
theorem putL_rowp {p : Int} (hp : 0 < p) {xs ys : List Int} (h1 : Rowp p xs) (h2 : Rowp p ys) : Rowp p (putL p xs ys) :=
  rowp_map hp (by have := h1.lo; have := h2.lo; omega) (by have := h1.hi; omega)
theorem putL_at0 {p : Int} {xs ys : List Int} (h1 : 1 ≤ xs.length) (h2 : 1 ≤ ys.length) (h0 : sq ys 0 = 0) : sq (putL p xs ys) 0 = sq xs 0 % p := by
  rw [sq_putL (by omega), co_at0 h0]
/-- so many places of three rows, either way round -/
theorem putL_assoc {p : Int} {xs ys zs : List Int} (g0 : sq ys 0 = 0) (h0 : sq zs 0 = 0) (hy : 1 ≤ ys.length) (hz : 1 ≤ zs.length) : (putL p (putL p xs ys) zs).take (min xs.length (min ys.length zs.length)) = (putL p xs (putL p ys zs)).take (min xs.length (min ys.length zs.length)) := by
  have hG : sq (putL p ys zs) 0 = 0 := by rw [putL_at0 hy hz h0, g0, Int.zero_emod]
  refine ext_sq ?_ fun n hn => ?_
  · rw [List.length_take, List.length_take, putL_len, putL_len, putL_len, putL_len]
    omega
  · rw [List.length_take, putL_len, putL_len] at hn
    rw [sq_take (by omega), sq_take (by omega), sq_putL (by rw [putL_len]; omega), sq_putL (by rw [putL_len]; omega)]
    have a : co (sq (putL p xs ys)) (sq zs) n % p = co (co (sq xs) (sq ys)) (sq zs) n % p := co_em (fun i hi => by rw [sq_putL (by omega), em_em]) fun _ _ => rfl
    have b : co (sq xs) (sq (putL p ys zs)) n % p = co (sq xs) (co (sq ys) (sq zs)) n % p := co_em (fun _ _ => rfl) fun i hi => by rw [sq_putL (by omega), em_em]
    rw [a, b, co_assoc g0 h0]
theorem sq_set_same {xs : List Int} {n : Nat} {v : Int} (h : n < xs.length) : sq (xs.set n v) n = v := by
  unfold sq
  rw [List.getD_eq_getElem?_getD, List.getElem?_set, if_pos rfl, if_pos h]
  rfl
theorem sq_set_ne {xs : List Int} {n j : Nat} {v : Int} (h : n ≠ j) : sq (xs.set j v) n = sq xs n := by
  unfold sq
  rw [List.getD_eq_getElem?_getD, List.getElem?_set, if_neg (fun z => h z.symm), ← List.getD_eq_getElem?_getD]
/-- as it is reckoned from the last place down: so many places are done -/
def hornL (p : Int) (f g : Sq) (N m : Nat) : List Int := (List.range N).map fun n => com m (shn f (N - m)) g n % p
theorem horn_step {p : Int} {f : Sq} {ys : List Int} {N m : Nat} (hm : m < N) (hN : N ≤ ys.length) : ((prodL p (hornL p f (sq ys) N m) ys).set 0 ((sq (prodL p (hornL p f (sq ys) N m) ys) 0 + f (N - (m + 1))) % p)) = hornL p f (sq ys) N (m + 1) := by
  have l : (hornL p f (sq ys) N m).length = N := by
    unfold hornL
    rw [List.length_map, List.length_range]
  have l2 : (prodL p (hornL p f (sq ys) N m) ys).length = N := by
    rw [prodL_len, l]
    omega
  have et : shn f (N - m) = tl (shn f (N - (m + 1))) := funext fun k => by
    show f (N - m + k) = f (N - (m + 1) + (k + 1))
    congr 1
    omega
  have key : ∀ n, n < N → (sq (prodL p (hornL p f (sq ys) N m) ys) n + f (N - (m + 1)) * one n) % p = com (m + 1) (shn f (N - (m + 1))) (sq ys) n % p := fun n hn => by
    rw [sq_prodL (by rw [l]; omega), com_step, ← et]
    have e : cv (sq (hornL p f (sq ys) N m)) (sq ys) n % p = cv (sq ys) (com m (shn f (N - m)) (sq ys)) n % p := by
      rw [cv_comm (sq ys)]
      refine cv_em (fun i hi => ?_) fun _ _ => rfl
      unfold hornL
      rw [sq_map_range (by omega), em_em]
    have e2 : (cv (sq (hornL p f (sq ys) N m)) (sq ys) n % p + f (N - (m + 1)) * one n) % p = (cv (sq ys) (com m (shn f (N - m)) (sq ys)) n + f (N - (m + 1)) * one n) % p := em_add (by rw [em_em, e]) rfl
    rw [e2, Int.add_comm]
    rfl
  refine ext_sq ?_ fun n hn => ?_
  · rw [List.length_set, l2]
    unfold hornL
    rw [List.length_map, List.length_range]
  · rw [List.length_set, l2] at hn
    have k := key n hn
    have r : sq (hornL p f (sq ys) N (m + 1)) n = com (m + 1) (shn f (N - (m + 1))) (sq ys) n % p := by
      unfold hornL
      rw [sq_map_range hn]
    rw [r, ← k]
    cases n with
    | zero =>
      rw [sq_set_same (by omega)]
      show _ = (_ + f (N - (m + 1)) * 1) % p
      rw [Int.mul_one]
    | succ n =>
      rw [sq_set_ne (by omega)]
      show _ = (_ + f (N - (m + 1)) * 0) % p
      rw [Int.mul_zero, Int.add_zero, sq_prodL (by rw [l]; omega), em_em]
theorem horn_end {p : Int} {xs ys : List Int} (h0 : sq ys 0 = 0) : hornL p (sq xs) (sq ys) (min xs.length ys.length) (min xs.length ys.length) = putL p xs ys := by
  unfold hornL putL
  apply List.map_congr_left
  intro n hn
  have e : shn (sq xs) (min xs.length ys.length - min xs.length ys.length) = sq xs := funext fun k => by
    show sq xs (_ + k) = _
    rw [Nat.sub_self, Nat.zero_add]
  rw [e, com_more h0 (List.mem_range.mp hn)]
theorem horn_zero (p : Int) (f g : Sq) (N : Nat) : hornL p f g N 0 = List.replicate N 0 := by
  unfold hornL
  refine ext_sq (by rw [List.length_map, List.length_range, List.length_replicate]) fun n hn => ?_
  rw [List.length_map, List.length_range] at hn
  rw [sq_map_range hn, com_zero, Int.zero_emod]
  show (0 : Int) = (List.replicate N 0).getD n 0
  rw [List.getD_eq_getElem?_getD, List.getElem?_replicate]
  split <;> rfl
end Pw

namespace Pw
/-! ### turned inside out -/
/-- what still lacks of 0, 1, 0, 0 .. behind so many places -/
def missL (p : Int) (xs ts : List Int) (k : Nat) : List Int := (List.range xs.length).map fun n => (xs1 n - com k (sq ts) (sq xs) n) % p
def shareOf (p : Int) (xs ts : List Int) (k : Nat) : Int := sq (missL p xs ts k) k * inv p (sq (powL p xs k) k) % p
/-- the first so many places -/
def turnL (p : Int) (xs : List Int) : Nat → List Int
  | 0 => []
  | 1 => [0]
  | k + 2 => turnL p xs (k + 1) ++ [shareOf p xs (turnL p xs (k + 1)) (k + 1)]
theorem turnL_len (p : Int) (xs : List Int) (k : Nat) : (turnL p xs k).length = k := by
  induction k with
  | zero => rfl
  | succ k ih =>
    cases k with
    | zero => rfl
    | succ k =>
      show (turnL p xs (k + 1) ++ [_]).length = k + 1 + 1
      rw [List.length_append, ih]
      rfl
theorem turnL_sq (p : Int) (xs : List Int) {n m : Nat} (h : n < m) : sq (turnL p xs m) n = sq (turnL p xs (n + 1)) n := by
  induction m with
  | zero => omega
  | succ m ih =>
    by_cases e : n = m
    · rw [e]
    · cases m with
      | zero => omega
      | succ m =>
        show sq (turnL p xs (m + 1) ++ [_]) n = _
        rw [sq_append_left (by rw [turnL_len]; omega)]
        exact ih (by omega)
theorem turnL_last (p : Int) (xs : List Int) (k : Nat) : sq (turnL p xs (k + 2)) (k + 1) = shareOf p xs (turnL p xs (k + 1)) (k + 1) := by
  have h := sq_append_at (xs := turnL p xs (k + 1)) (y := shareOf p xs (turnL p xs (k + 1)) (k + 1))
  rw [turnL_len] at h
  exact h
theorem turnL_rest {p : Int} (hp : 0 < p) (xs : List Int) (k : Nat) : ∀ x ∈ turnL p xs k, 0 ≤ x ∧ x < p := by
  induction k with
  | zero => exact fun x h => nomatch h
  | succ k ih =>
    cases k with
    | zero =>
      intro x hx
      obtain rfl := List.mem_singleton.mp hx
      exact ⟨Int.le_refl _, hp⟩
    | succ k =>
      intro x hx
      rcases List.mem_append.mp hx with hx | hx
      · exact ih x hx
      · obtain rfl := List.mem_singleton.mp hx
        exact ⟨Int.emod_nonneg _ (by omega), Int.emod_lt_of_pos _ hp⟩
theorem turnL_zero (p : Int) (xs : List Int) {m : Nat} (h : 0 < m) : sq (turnL p xs m) 0 = 0 := by
  rw [turnL_sq p xs h]
  rfl
/-- what lacks, by one place more -/
theorem com_turn (p : Int) (xs : List Int) (k n : Nat) : com (k + 2) (sq (turnL p xs (k + 2))) (sq xs) n = com (k + 1) (sq (turnL p xs (k + 1))) (sq xs) n + shareOf p xs (turnL p xs (k + 1)) (k + 1) * pw (sq xs) (k + 1) n := by
  rw [com_succ, turnL_last]
  congr 1
  refine com_congr _ _ fun i hi => ?_
  rw [turnL_sq p xs (show i < k + 2 by omega), ← turnL_sq p xs hi]
theorem missL_len (p : Int) (xs ts : List Int) (k : Nat) : (missL p xs ts k).length = xs.length := by
  unfold missL
  rw [List.length_map, List.length_range]
theorem sq_missL {p : Int} {xs ts : List Int} {k n : Nat} (h : n < xs.length) : sq (missL p xs ts k) n = (xs1 n - com k (sq ts) (sq xs) n) % p := sq_map_range h
theorem miss_step {p : Int} (xs : List Int) (k n : Nat) (h : n < xs.length) : (sq (missL p xs (turnL p xs (k + 1)) (k + 1)) n - shareOf p xs (turnL p xs (k + 1)) (k + 1) * sq (powL p xs (k + 1)) n) % p = sq (missL p xs (turnL p xs (k + 2)) (k + 2)) n := by
  rw [sq_missL h, sq_missL h, com_turn, sq_powL h]
  have e : ((xs1 n - com (k + 1) (sq (turnL p xs (k + 1))) (sq xs) n) % p - shareOf p xs (turnL p xs (k + 1)) (k + 1) * (pw (sq xs) (k + 1) n % p)) % p = ((xs1 n - com (k + 1) (sq (turnL p xs (k + 1))) (sq xs) n) - shareOf p xs (turnL p xs (k + 1)) (k + 1) * pw (sq xs) (k + 1) n) % p := em_sub (em_em _) (em_mul rfl (em_em _))
  rw [e]
  congr 1
  omega
theorem pw_diag {h : Sq} (h0 : h 0 = 0) (k : Nat) : pw h k k = h 1 ^ k := by
  induction k with
  | zero =>
    rw [Int.pow_zero]
    rfl
  | succ k ih =>
    show cv (pw h k) h (k + 1) = _
    rw [cv_comm]
    show h 0 * pw h k (k + 1) + cv (tl h) (pw h k) k = _
    rw [h0, Int.zero_mul, Int.zero_add]
    have e : cv (tl h) (pw h k) k = h 1 * pw h k k := by
      cases k with
      | zero => rfl
      | succ k =>
        show h 1 * pw h (k + 1) (k + 1) + cv (tl (tl h)) (pw h (k + 1)) k = _
        have z : cv (tl (tl h)) (pw h (k + 1)) k = 0 := cv_low (a := 0) (b := k + 1) (fun i hi => absurd hi (Nat.not_lt_zero _)) (fun i hi => pw_low h0 _ i hi) k (by omega)
        rw [z, Int.add_zero]
    rw [e, ih, Int.pow_succ, Int.mul_comm]
theorem pow_ne {p r : Int} (hp : Prm p) (h0 : 0 < r) (h1 : r < p) (k : Nat) : r ^ k % p ≠ 0 := by
  have p2 := hp.pos
  induction k with
  | zero =>
    rw [Int.pow_zero, Int.emod_eq_of_lt (by decide) (by omega)]
    decide
  | succ k ih =>
    intro z
    refine ih ?_
    have hi := inv_ok hp h0 h1
    have e : r ^ k % p = (r ^ (k + 1) * inv p r) % p := by
      rw [Int.pow_succ, Int.mul_assoc, Int.mul_comm r]
      have : (r ^ k * (inv p r * r)) % p = (r ^ k * 1) % p := em_mul rfl (by rw [hi, Int.emod_eq_of_lt (by decide) (by omega)])
      rw [this, Int.mul_one]
    rw [e, em_mul (z.trans (Int.zero_emod p).symm) rfl, Int.zero_mul, Int.zero_emod]
/-- ahead of the place that is reckoned nothing lacks -/
theorem miss_zero {p : Int} (hp : Prm p) {xs : List Int} (R : Rowp p xs) (x0 : sq xs 0 = 0) (x1 : sq xs 1 ≠ 0) (k : Nat) : k + 1 ≤ xs.length → ∀ n, n < k + 1 → sq (missL p xs (turnL p xs (k + 1)) (k + 1)) n = 0 := by
  have p2 := hp.pos
  induction k with
  | zero =>
    intro hk n hn
    obtain rfl : n = 0 := by omega
    rw [sq_missL (by omega), com_succ, com_zero]
    show (0 - (0 + 0 * pw (sq xs) 0 0)) % p = 0
    rw [Int.zero_mul]
    exact Int.zero_emod p
  | succ k ih =>
    intro hk n hn
    rw [← miss_step xs k n (by omega)]
    by_cases c : n < k + 1
    · rw [ih (by omega) n c, sq_powL (by omega), pw_low x0 (k + 1) n c, Int.zero_emod, Int.mul_zero]
      exact Int.zero_emod p
    · obtain rfl : n = k + 1 := by omega
      have b1 := R.at (n := 1) (by omega)
      have d : sq (powL p xs (k + 1)) (k + 1) = sq xs 1 ^ (k + 1) % p := by rw [sq_powL (by omega), pw_diag x0]
      have nz := pow_ne hp (show 0 < sq xs 1 by omega) b1.2 (k + 1)
      have d0 := Int.emod_nonneg (sq xs 1 ^ (k + 1)) (show p ≠ 0 by omega)
      have d1 := Int.emod_lt_of_pos (sq xs 1 ^ (k + 1)) (show 0 < p by omega)
      have hi := inv_ok hp (show 0 < sq (powL p xs (k + 1)) (k + 1) by omega) (by omega)
      unfold shareOf
      generalize sq (missL p xs (turnL p xs (k + 1)) (k + 1)) (k + 1) = M
      generalize hP : sq (powL p xs (k + 1)) (k + 1) = Pw at hi ⊢
      have e : (M * inv p Pw % p * Pw) % p = M % p := by
        have e1 : (M * inv p Pw % p * Pw) % p = (M * (inv p Pw * Pw)) % p := by
          rw [← Int.mul_assoc]
          exact em_mul (em_em _) rfl
        have e2 : (M * (inv p Pw * Pw)) % p = (M * 1) % p := em_mul rfl (by rw [hi, Int.emod_eq_of_lt (by decide) (by omega)])
        rw [e1, e2, Int.mul_one]
      rw [em_sub (rfl : M % p = M % p) e, Int.sub_self, Int.zero_emod]
def outL (p : Int) (xs : List Int) : List Int := turnL p xs xs.length
theorem outL_len (p : Int) (xs : List Int) : (outL p xs).length = xs.length := turnL_len _ _ _
theorem outL_left {p : Int} (hp : Prm p) {xs : List Int} (R : Rowp p xs) (x0 : sq xs 0 = 0) (x1 : sq xs 1 ≠ 0) {n : Nat} (hn : n < xs.length) : co (sq (outL p xs)) (sq xs) n % p = xs1 n % p := by
  obtain ⟨k, hk⟩ : ∃ k, xs.length = k + 1 := ⟨xs.length - 1, by omega⟩
  have z := miss_zero hp R x0 x1 k (by omega) n (by omega)
  rw [sq_missL hn, ← hk] at z
  have e : com xs.length (sq (outL p xs)) (sq xs) n = co (sq (outL p xs)) (sq xs) n := com_more x0 hn
  have z2 : (xs1 n - co (sq (outL p xs)) (sq xs) n) % p = 0 := by
    rw [← e]
    exact z
  have h := em_add (z2.trans (Int.zero_emod p).symm) (rfl : co (sq (outL p xs)) (sq xs) n % p = co (sq (outL p xs)) (sq xs) n % p)
  rw [show xs1 n - co (sq (outL p xs)) (sq xs) n + co (sq (outL p xs)) (sq xs) n = xs1 n by omega, Int.zero_add] at h
  exact h.symm
theorem outL_zero (p : Int) {xs : List Int} (h : 1 ≤ xs.length) : sq (outL p xs) 0 = 0 := turnL_zero p xs (by omega)
theorem xs1_one : xs1 1 = 1 := rfl
/-- its place 1 isn't 0 either -/
theorem outL_one {p : Int} (hp : Prm p) {xs : List Int} (R : Rowp p xs) (h2 : 2 ≤ xs.length) (x0 : sq xs 0 = 0) (x1 : sq xs 1 ≠ 0) : sq (outL p xs) 1 ≠ 0 := by
  have p2 := hp.pos
  intro z
  have h := outL_left hp R x0 x1 (n := 1) (by omega)
  have e : co (sq (outL p xs)) (sq xs) 1 = 0 := by
    show com 2 _ _ 1 = 0
    rw [com_succ, com_succ, com_zero, z, outL_zero p (by omega)]
    omega
  rw [e, xs1_one, Int.zero_emod, Int.emod_eq_of_lt (by decide) (by omega)] at h
  exact absurd h (by decide)
theorem outL_rowp {p : Int} (hp : Prm p) {xs : List Int} (R : Rowp p xs) : Rowp p (outL p xs) :=
  ⟨by rw [outL_len]; exact R.lo, by rw [outL_len]; exact R.hi, turnL_rest (by have := hp.pos; omega) xs _⟩
/-- either way round; turned once more it is the row -/
theorem outL_both {p : Int} (hp : Prm p) {xs : List Int} (R : Rowp p xs) (h2 : 2 ≤ xs.length) (x0 : sq xs 0 = 0) (x1 : sq xs 1 ≠ 0) : outL p (outL p xs) = xs := by
  have p2 := hp.pos
  have R2 := outL_rowp hp R
  have t0 := outL_zero p (xs := xs) (by omega)
  have t1 := outL_one hp R h2 x0 x1
  have l := outL_len p xs
  refine ext_sq (by rw [outL_len, l]) fun n hn => ?_
  rw [outL_len, l] at hn
  rw [← (outL_rowp hp R2).em (by rw [outL_len, l]; exact hn), ← R.em hn]
  -- s = s put on (t put on r) = (s put on t) put on r = r
  have a : co (sq (outL p (outL p xs))) (co (sq (outL p xs)) (sq xs)) n % p = co (sq (outL p (outL p xs))) xs1 n % p := co_em (fun _ _ => rfl) fun i hi => outL_left hp R x0 x1 (by omega)
  have b : co (co (sq (outL p (outL p xs))) (sq (outL p xs))) (sq xs) n % p = co xs1 (sq xs) n % p := co_em (fun i hi => outL_left hp R2 t0 t1 (by rw [l]; omega)) fun _ _ => rfl
  rw [co_assoc t0 x0, a, co_id_right, co_id_left x0] at b
  exact b
theorem outL_right {p : Int} (hp : Prm p) {xs : List Int} (R : Rowp p xs) (h2 : 2 ≤ xs.length) (x0 : sq xs 0 = 0) (x1 : sq xs 1 ≠ 0) {n : Nat} (hn : n < xs.length) : co (sq xs) (sq (outL p xs)) n % p = xs1 n % p := by
  have R2 := outL_rowp hp R
  have h := outL_left hp R2 (outL_zero p (by omega)) (outL_one hp R h2 x0 x1) (n := n) (by rw [outL_len]; exact hn)
  rw [outL_both hp R h2 x0 x1] at h
  exact h
/-- 0, 1, 0, 0 .. -/
def plainL (n : Nat) : List Int := 0 :: 1 :: List.replicate (n - 2) 0
theorem sq_plainL {n k : Nat} : sq (plainL n) k = xs1 k := by
  match k with
  | 0 => rfl
  | 1 => rfl
  | k + 2 =>
    show (List.replicate (n - 2) (0 : Int)).getD k 0 = 0
    rw [List.getD_eq_getElem?_getD, List.getElem?_replicate]
    split <;> rfl
theorem plainL_len {n : Nat} (h : 2 ≤ n) : (plainL n).length = n := by
  unfold plainL
  rw [List.length_cons, List.length_cons, List.length_replicate]
  omega
theorem xs1_em {p : Int} (hp : Prm p) (n : Nat) : xs1 n % p = xs1 n := by
  have p2 := hp.pos
  match n with
  | 0 => exact Int.zero_emod p
  | 1 => exact Int.emod_eq_of_lt (by decide) (by show (1 : Int) < p; omega)
  | n + 2 => exact Int.zero_emod p
theorem put_out_left {p : Int} (hp : Prm p) {xs : List Int} (R : Rowp p xs) (h2 : 2 ≤ xs.length) (x0 : sq xs 0 = 0) (x1 : sq xs 1 ≠ 0) : putL p (outL p xs) xs = plainL xs.length := by
  refine ext_sq (by rw [putL_len, outL_len, plainL_len h2]; omega) fun n hn => ?_
  rw [putL_len, outL_len] at hn
  rw [sq_putL (by rw [outL_len]; omega), outL_left hp R x0 x1 (by omega), xs1_em hp, sq_plainL]
theorem put_out_right {p : Int} (hp : Prm p) {xs : List Int} (R : Rowp p xs) (h2 : 2 ≤ xs.length) (x0 : sq xs 0 = 0) (x1 : sq xs 1 ≠ 0) : putL p xs (outL p xs) = plainL xs.length := by
  refine ext_sq (by rw [putL_len, outL_len, plainL_len h2]; omega) fun n hn => ?_
  rw [putL_len, outL_len] at hn
  rw [sq_putL (by rw [outL_len]; omega), outL_right hp R h2 x0 x1 (by omega), xs1_em hp, sq_plainL]
/-- the first of what lacks -/
theorem miss_first {p : Int} (hp : Prm p) {xs : List Int} (h2 : 2 ≤ xs.length) : missL p xs (turnL p xs 1) 1 = plainL xs.length := by
  refine ext_sq (by rw [missL_len, plainL_len h2]) fun n hn => ?_
  rw [missL_len] at hn
  rw [sq_missL hn, com_succ, com_zero, sq_plainL]
  have e : xs1 n - (0 + sq (turnL p xs 1) 0 * pw (sq xs) 0 n) = xs1 n := by
    show xs1 n - (0 + 0 * pw (sq xs) 0 n) = xs1 n
    rw [Int.zero_mul]
    omega
  rw [e, xs1_em hp]
end Pw
namespace Pw
/-- as the helper reckons what is put in: so many places of the outer row are done -/
def comL (p : Int) (xs ys : List Int) (N i : Nat) : List Int := (List.range N).map fun n => com i (sq xs) (sq ys) n % p
theorem comL_len (p : Int) (xs ys : List Int) (N i : Nat) : (comL p xs ys N i).length = N := by
  unfold comL
  rw [List.length_map, List.length_range]
theorem comL_next {p : Int} (xs ys : List Int) (N i : Nat) (hN : N ≤ ys.length) : (List.range (min (comL p xs ys N i).length (powL p (ys.take N) i).length)).map (fun n => (sq (comL p xs ys N i) n + sq xs i * sq (powL p (ys.take N) i) n) % p) = comL p xs ys N (i + 1) := by
  have lt : (ys.take N).length = N := by
    rw [List.length_take]
    omega
  rw [comL_len, powL_len, lt, Nat.min_self]
  unfold comL
  apply List.map_congr_left
  intro n hn
  have hn := List.mem_range.mp hn
  rw [sq_map_range hn, sq_powL (by omega), com_succ]
  have e : pw (sq (ys.take N)) i n = pw (sq ys) i n := pw_congr i (n := n) (fun j hj => sq_take (by omega)) n (Nat.le_refl _)
  rw [e]
  exact em_add (em_em _) (em_mul rfl (em_em _))
theorem comL_end {p : Int} {xs ys : List Int} (h0 : sq ys 0 = 0) : comL p xs ys (min xs.length ys.length) (min xs.length ys.length) = putL p xs ys := by
  unfold comL putL
  apply List.map_congr_left
  intro n hn
  rw [com_more h0 (List.mem_range.mp hn)]
theorem comL_zero (p : Int) (xs ys : List Int) (N : Nat) : comL p xs ys N 0 = List.replicate N 0 := by
  unfold comL
  refine ext_sq (by rw [List.length_map, List.length_range, List.length_replicate]) fun n hn => ?_
  rw [List.length_map, List.length_range] at hn
  rw [sq_map_range hn, com_zero, Int.zero_emod]
  show (0 : Int) = (List.replicate N 0).getD n 0
  rw [List.getD_eq_getElem?_getD, List.getElem?_replicate]
  split <;> rfl
theorem comL_sml {p : Int} (h0 : 0 < p) (h1 : p ≤ 1000) (xs ys : List Int) (N i : Nat) : ∀ x ∈ comL p xs ys N i, 0 ≤ x ∧ x < 1000 := fun x hx => by
  unfold comL at hx
  obtain ⟨n, _, rfl⟩ := List.mem_map.mp hx
  have r1 := Int.emod_nonneg (com i (sq xs) (sq ys) n) (show p ≠ 0 by omega)
  have r2 := Int.emod_lt_of_pos (com i (sq xs) (sq ys) n) h0
  omega
end Pw

namespace Pw
open PySem PySem.Spec PyProof.Rows L2 Evl
/-! ### a callee -/
structure Cal (P : Program) (w : World) (K : PySem.W.Frag) (mg : Str → Option Value) (base : Heap) (CX : CXT) (x : Str) (k : Nat) (ps : List Str) (sp : Sp) : Prop where
  ex : ∃ (f : Addr) (fd : FuncData), FnOk P w K mg base CX k f fd ps sp ∧ mg x = some (.ref f) ∧ PySem.W.keepIn K (.ref f) = true ∧ Binds K fd ps []
/-- a def of the text: where it stands -/
structure Dat (K : PySem.W.Frag) (mg : Str → Option Value) (x : Str) (st : Stmt) (ps : List Str) (f : Addr) (fd : FuncData) : Prop where
  F : Fun K x x st f fd
  g : mg x = some (.ref f)
  b : Binds K fd ps []
section
variable {P : Program} {w : World} {K : PySem.W.Frag} {mg : Str → Option Value} {base : Heap}
theorem Dat.cal {CX : CXT} {x : Str} {st : Stmt} {ps : List Str} {f : Addr} {fd : FuncData} {k : Nat} {sp : Sp} (D : Dat K mg x st ps f fd) (h : FnOk P w K mg base CX k f fd ps sp) : Cal P w K mg base CX x k ps sp := ⟨f, fd, h, D.g, D.F.kp, D.b⟩
theorem Cal.imp {CX : CXT} {x : Str} {ps : List Str} {k : Nat} {sp sp' : Sp} (C : Cal P w K mg base CX x k ps sp) (h : ∀ vs H Q E, sp' vs H Q E → sp vs H Q E) : Cal P w K mg base CX x k ps sp' := by
  obtain ⟨f, fd, F, g, kp, b⟩ := C.ex
  exact ⟨f, fd, F.imp h, g, kp, b⟩
end
section
variable {X : Cx} {x : Str} {p pos : Pos} {e : Expr} {es : List Expr} {t : TA} {sp : Sp} {k : Nat} {ps : List Str}
theorem pe_c0 (C : Cal X.prog X.w X.K X.mg X.base CX0 x k ps sp) (hr : Room k X.A) (ha : PA X (e :: es) t) (hg : Gl X x := by rfl) (hdb : (x == ("__debug__" : Str)) = false := by decide)
    (he : starEach (e :: es) X.env = (false, eval e X.env) :: starEach es X.env := by rfl) (hpl : (backTo pos (starEach es X.env)).any (·.1) = false := by rfl) :
    PE X (.Call (.Name x p) (e :: es) [] pos) (tCall sp [] E0 t) := by
  obtain ⟨f, fd, F, g, kp, b⟩ := C.ex
  exact pe_call F hr hg g kp b .nil pass0 ha hdb he hpl
/-! ### products of any size -/
theorem op_mulV : OpR X (binaryOp .Mult) (rI IntMulOk fun i j => .int (i * j)) := opI fun _ _ _ _ _ _ _ hc q => mul_int q hc
end
theorem mul_l {i j : Int} (h : -18446744073709551616 < i ∧ i < 18446744073709551616) : IntMulOk i j := .of_left (intBits_le_64 h.1 h.2)
theorem mul_r {i j : Int} (h : -18446744073709551616 < j ∧ j < 18446744073709551616) : IntMulOk i j := .of_right (intBits_le_64 h.1 h.2)
/-! ### readings -/
section
variable {K : PySem.W.Frag} {σ : L2.St} {H H' : Hp} {ta tb tc te : TE} {t u : TT} {x y z v : V} {r r' : R2}
theorem ev_chain {b1 b2 : Bool} (ha : Ev ta σ H x) (hb : Ev tb σ H y) (hr : RV r x y H (.bl b1)) (hc : b1 = true → Ev tc σ H z) (hr' : b1 = true → RV r' y z H (.bl b2)) : Ev (tChain r r' ta tb tc) σ H (.bl (b1 && b2)) := fun H1 e Q q =>
  ha H1 e _ fun H2 e2 => hb H2 (e.trans e2) _ fun H3 e3 => hr H3 ((e.trans e2).trans e3) _ fun H4 e4 => ⟨b1, rfl, by
    have ee := ((e.trans e2).trans e3).trans e4
    have en := (e2.trans e3).trans e4
    cases b1 with
    | true =>
      show tc σ H4 fun w' H4 => r' y w' H4 Q
      exact hc rfl H4 ee _ fun H5 e5 => hr' rfl H5 (ee.trans e5) Q fun H6 e6 => q H6 ((en.trans e5).trans e6)
    | false =>
      show Q (.bl false) H4
      exact q H4 en⟩
/-- a call of a built-in upon one new list -/
theorem ev_cbL {r : List V → Hp → VK → Prop} {xs : List V} (h : EvL te σ H xs) (hr : ∀ p H1, H1 p = some (.lst xs) → Ex H H1 → RC r [.ref p] H1 z) : Ev (tCB r (tCons te tNil)) σ H z := fun H1 e Q q =>
  h H1 e _ fun p H2 _ e2 hp => hr p H2 hp (e.trans e2) H2 (Ex.refl H2) Q fun H3 e3 => q H3 (e2.trans e3)
theorem rc_sum {a : Addr} {ns : List Int} (h : SqL K H a (ns.map V.int)) : RC (rSum K) [.ref a] H (.int ns.sum) := fun H1 e _ q => ⟨a, ns, rfl, ex_l e h, q H1 (Ex.refl H1)⟩
theorem rc_all {a : Addr} {bs : List Bool} (h : SqL K H a (bs.map V.bl)) : RC (rAll K) [.ref a] H (.bl (bs.all id)) := fun H1 e _ q => ⟨a, bs, rfl, ex_l e h, q H1 (Ex.refl H1)⟩
theorem rc_any {a : Addr} {bs : List Bool} (h : SqL K H a (bs.map V.bl)) : RC (rAny K) [.ref a] H (.bl (bs.any id)) := fun H1 e _ q => ⟨a, bs, rfl, ex_l e h, q H1 (Ex.refl H1)⟩
theorem rc_len {a : Addr} {xs : List V} (h : SqL K H a xs) : RC (rLenS K) [.ref a] H (.int (xs.length : Int)) := fun H1 e _ q => ⟨a, xs, rfl, .inl (ex_l e h), q H1 (Ex.refl H1)⟩
theorem rc_min {i j : Int} : RC (fun vs H Q => ∃ i j, vs = [V.int i, V.int j] ∧ Q (.int (if j < i then j else i)) H) [.int i, .int j] H (.int (if j < i then j else i)) := fun H1 _ _ q => ⟨i, j, rfl, q H1 (Ex.refl H1)⟩
theorem rc_abs {i : Int} : RC (fun vs H Q => ∃ i, vs = [V.int i] ∧ Q (.int (if i < 0 then -i else i)) H) [.int i] H (.int (if i < 0 then -i else i)) := fun H1 _ _ q => ⟨i, rfl, q H1 (Ex.refl H1)⟩
theorem rcl_list {a : Addr} {xs : List V} (h : SqL K H a xs) : RCL (rListS K) [.ref a] H xs := fun H1 e _ q =>
  ⟨a, xs, rfl, .inl (ex_l e h), fun l hl => q l _ hl (Ex.new hl) upd_same⟩
/-! ### == of lists of ints -/
theorem dp_ints (ns : List Int) : DpAll K H (ns.map V.int) (ns.map PyData.int) := by
  induction ns with
  | nil => exact .nil
  | cons n r ih => exact .cons (.int n) ih
theorem eqv_ints (ns ms : List Int) : PyData.eqv (.list (ns.map PyData.int)) (.list (ms.map PyData.int)) = decide (ns = ms) := by
  simp only [PyData.eqv]
  exact PySem.W.ked_eqvAll ns ms
theorem rv_eqL {a b : Addr} {ns ms : List Int} (ha : SqL K H a (ns.map V.int)) (hb : SqL K H b (ms.map V.int)) : RV (rEqD K) (.ref a) (.ref b) H (.bl (decide (ns = ms))) := fun H1 e Q q =>
  ⟨_, _, .lst (ex_l e ha) (dp_ints ns), .lst (ex_l e hb) (dp_ints ms), PySem.W.ke_shaped_ints ns, PySem.W.ke_shaped_ints ms, by rw [eqv_ints]; exact q H1 (Ex.refl H1)⟩
theorem rv_neL {a b : Addr} {ns ms : List Int} (ha : SqL K H a (ns.map V.int)) (hb : SqL K H b (ms.map V.int)) : RV (rNeD K) (.ref a) (.ref b) H (.bl (!decide (ns = ms))) := fun H1 e Q q =>
  ⟨_, _, .lst (ex_l e ha) (dp_ints ns), .lst (ex_l e hb) (dp_ints ms), PySem.W.ke_shaped_ints ns, PySem.W.ke_shaped_ints ms, by rw [eqv_ints]; exact q H1 (Ex.refl H1)⟩
/-- an item of a list of ints at a place within it -/
theorem rv_at {a : Addr} {ns : List Int} {i : Int} {n : Nat} (h : SqL K H a (ns.map V.int)) (e : i = (n : Int)) (hn : n < ns.length) : RV (rIxL K) (.ref a) (.int i) H (.int (sq ns n)) := by
  refine rv_ixL h ?_
  rw [e]
  refine atI_nat ?_
  rw [List.getElem?_map, sq_at hn]
  rfl
/-! ### isinstance -/
theorem rc_isi {x : V} {c t : String} {b : Bool} (h : TyX K H x (.type t)) (hx : ∀ H1, Ex H H1 → TyX K H1 x (.type t)) (hb : kitB t c = some b) : RC (rIsi K) [x, .ty c] H (.bl b) := fun H1 e _ q =>
  ⟨x, .ty c, .type t, .type c, b, rfl, .ty c, hx H1 e, kit_ty hb, q H1 (Ex.refl H1)⟩
theorem rc_isi_int {i : Int} {c : String} {b : Bool} (hb : kitB "int" c = some b) : RC (rIsi K) [.int i, .ty c] H (.bl b) := rc_isi (.base (.int i)) (fun _ _ => .base (.int i)) hb
theorem rc_isi_bl {k : Bool} {c : String} {b : Bool} (hb : kitB "bool" c = some b) : RC (rIsi K) [.bl k, .ty c] H (.bl b) := rc_isi (.base (.bl k)) (fun _ _ => .base (.bl k)) hb
theorem rc_isi_lst {a : Addr} {xs : List V} {c : String} {b : Bool} (ha : H a = some (.lst xs)) (hb : kitB "list" c = some b) : RC (rIsi K) [.ref a, .ty c] H (.bl b) := rc_isi (.base (.lst ha)) (fun _ e => .base (.lst (e a _ ha))) hb
/-! ### loops and tests -/
theorem et_test' {b : Bool} (h : Ev te σ H (.bl b)) : EvT (tTest te) σ H b := et_test h
end
end Pw
namespace Pw
open PySem PySem.Spec PyProof.Rows L2 Evl
section
variable {K : PySem.W.Frag} {σ : L2.St} {H H' : Hp} {ta tb tc te : TE} {t u : TT} {x y z v : V} {r r' : R2}
theorem given_all {n : Nat} {v : Nat → V} : given n (fun _ => true) v = (List.range n).map v := by
  unfold given
  rw [List.filter_eq_self.mpr fun _ _ => rfl]
theorem et_yes : EvT tYes σ H true := fun H1 _ _ q => q H1 (Ex.refl H1)
theorem el_is {xs ys : List V} (h : EvL te σ H xs) (e : xs = ys) : EvL te σ H ys := by
  rw [← e]
  exact h
/-- [e for x in xs], a list of ints -/
theorem el_mapL {a : Addr} {ns : List Int} {tl : TE} {j : Nat} {vs : List Nat} (v : Nat → V) (h : Ev tl σ H (.ref a)) (hx : SqL K H a (ns.map V.int)) (hz : ns.length ≤ 40000) (hw : ∀ x, wipe ((wipe σ vs).set j (some x)) vs = wipe σ vs)
    (he : ∀ (i : Nat) H1, Ex H H1 → i < ns.length → Ev te ((wipe σ vs).set j (some (.int (sq ns i)))) H1 (v i)) : EvL (tLc (iList K tl) (gName j) tYes te vs) σ H ((List.range ns.length).map v) := by
  refine el_is (el_lcL (xs := ns.map V.int) (fun _ => true) v h hx (by rw [List.length_map]; exact hz) hw (fun _ _ _ _ _ => et_yes) (fun i x H1 e hi _ => ?_)) ?_
  · rw [List.getElem?_map] at hi
    have hn : i < ns.length := by
      by_cases c : i < ns.length
      · exact c
      · rw [List.getElem?_eq_none (by omega)] at hi
        cases hi
    rw [sq_at hn] at hi
    cases hi
    exact he i H1 e hn
  · rw [given_all, List.length_map]
/-- [e for x in range(n)] -/
theorem el_mapR {ta : TA} {j : Nat} {vs : List Nat} {n : Int} (v : Nat → V) (h : EvA ta σ H [.int n]) (hn : 0 ≤ n ∧ n ≤ 40000) (hw : ∀ x, wipe ((wipe σ vs).set j (some x)) vs = wipe σ vs)
    (he : ∀ (i : Nat) H1, Ex H H1 → (i : Int) < n → Ev te ((wipe σ vs).set j (some (.int (i : Int)))) H1 (v i)) : EvL (tLc (iRng1 ta) (gName j) tYes te vs) σ H ((List.range n.toNat).map v) :=
  el_is (el_lcR1 (fun _ => true) v h hn hw (fun _ _ _ _ => et_yes) (fun i H1 e hi _ => he i H1 e hi)) given_all
theorem map_map_int {n : Nat} {f : Nat → Int} : (List.range n).map (fun i => V.int (f i)) = ((List.range n).map f).map V.int := by
  rw [List.map_map]
  rfl
theorem map_map_bl {n : Nat} {f : Nat → Bool} : (List.range n).map (fun i => V.bl (f i)) = ((List.range n).map f).map V.bl := by
  rw [List.map_map]
  rfl
theorem all_true {n : Nat} : ((List.range n).map fun _ => true).all id = true := by
  rw [List.all_eq_true]
  intro x hx
  obtain ⟨_, _, rfl⟩ := List.mem_map.mp hx
  rfl
theorem min_if {a b : Nat} : (if (b : Int) < (a : Int) then (b : Int) else (a : Int)) = ((min a b : Nat) : Int) := by
  by_cases h : b < a
  · rw [if_pos (by omega), Nat.min_eq_right (by omega)]
  · rw [if_neg (by omega), Nat.min_eq_left (by omega)]
end
end Pw
namespace Pw
open PySem PySem.Spec PyProof.Rows L2 Evl
section
variable {K : PySem.W.Frag} {σ : L2.St} {H H' : Hp} {ta tb tc te : TE} {t u : TT} {x y z v : V} {r r' : R2}
theorem rc_lenI {a : Addr} {ns : List Int} (h : SqL K H a (ns.map V.int)) : RC (rLenS K) [.ref a] H (.int (ns.length : Int)) := by
  have g := rc_len h
  rw [List.length_map] at g
  exact g
theorem rc_minN {a b : Nat} : RC (fun vs H Q => ∃ i j, vs = [V.int i, V.int j] ∧ Q (.int (if j < i then j else i)) H) [.int (a : Int), .int (b : Int)] H (.int ((min a b : Nat) : Int)) := by
  have g := rc_min (H := H) (i := (a : Int)) (j := (b : Int))
  rw [min_if] at g
  exact g
/-- small items -/
def Sml (xs : List Int) : Prop := ∀ x ∈ xs, -1000000 < x ∧ x < 1000000
theorem Sml.at {xs : List Int} (h : Sml xs) (n : Nat) : -1000000 < sq xs n ∧ sq xs n < 1000000 := by
  by_cases c : n < xs.length
  · exact h _ (sq_mem c)
  · rw [sq_out (by omega)]
    decide
theorem Rowp.sml {p : Int} {xs : List Int} (hp : p ≤ 1000) (h : Rowp p xs) : Sml xs := fun x hx => by
  have := h.rest x hx
  omega
theorem el_int {n : Nat} {f : Nat → Int} (h : EvL te σ H ((List.range n).map fun i => V.int (f i))) : EvL te σ H (((List.range n).map f).map V.int) := el_is h map_map_int
end
end Pw
namespace Pw
open PySem PySem.Spec PyProof.Rows L2 Evl
section
variable {K : PySem.W.Frag} {σ : L2.St} {H H' : Hp} {ta tb tc te : TE} {t u : TT} {x y z v : V} {r r' : R2}
/-- [e for x, y in zip(xs, ys)], two lists of ints -/
theorem el_zip {a b : Addr} {xs ys : List Int} {tA : TA} {i j : Nat} {vs : List Nat} (v : Nat → V) (h : EvA tA σ H [.ref a, .ref b]) (hx : SqL K H a (xs.map V.int)) (hy : SqL K H b (ys.map V.int)) (hz : xs.length ≤ 40000)
    (hw : ∀ x y, wipe (((wipe σ vs).set i (some x)).set j (some y)) vs = wipe σ vs)
    (he : ∀ (n : Nat) H1, Ex H H1 → n < min xs.length ys.length → Ev te (((wipe σ vs).set i (some (.int (sq xs n)))).set j (some (.int (sq ys n)))) H1 (v n)) :
    EvL (tLc (iZip K tA) (gTup K 2 (gCons (gName i) (gCons (gName j) gNil))) tYes te vs) σ H ((List.range (min xs.length ys.length)).map v) := fun H0 e Q q => h H0 e _ fun H1 e1 => by
  refine ⟨a, b, _, _, rfl, ex_l (e.trans e1) hx, ex_l (e.trans e1) hy, fun Dl hD => ?_⟩
  refine ⟨fun n m H' => m = min xs.length ys.length - n ∧ n ≤ min xs.length ys.length ∧ Cw H1 (fun _ => true) v Dl n H', ⟨min xs.length ys.length, rfl, Nat.zero_le _, hD, Ex.new hD, upd_same⟩, fun n m H' hW => ?_⟩
  obtain ⟨rfl, hn, p⟩ := hW
  have ex := (e.trans e1).trans p.2.1
  by_cases hlt : n < min xs.length ys.length
  · have gx : (xs.map V.int)[n]? = some (.int (sq xs n)) := by
      rw [List.getElem?_map, sq_at (by omega)]
      rfl
    have gy : (ys.map V.int)[n]? = some (.int (sq ys n)) := by
      rw [List.getElem?_map, sq_at (by omega)]
      rfl
    refine .inr ⟨⟨_, _, _, _, ex_l ex hx, ex_l ex hy, gx, gy⟩, fun H3 => Cw H1 (fun _ => true) v Dl (n + 1) H3, fun H3 c => ⟨min xs.length ys.length - (n + 1), by omega, rfl, by omega, c⟩, fun z H3 hz3 => ?_⟩
    obtain ⟨T, x1, x2, rfl, hT, rfl, f1, f2⟩ := hz3
    have ex1 : x1 = .int (sq xs n) := Option.some.inj ((f1 _ (ex_l ex hx)).symm.trans gx)
    have ex2 : x2 = .int (sq ys n) := Option.some.inj ((f2 _ (ex_l ex hy)).symm.trans gy)
    subst ex1 ex2
    have p' : Cw H1 (fun _ => true) v Dl n (upd H' T (.tup [.int (sq xs n), .int (sq ys n)])) := ⟨p.1, p.2.1.trans (Ex.new hT), by
      rw [upd_ne (ne_of_none p.2.2 hT)]
      exact p.2.2⟩
    exact ⟨T, _, rfl, st_of upd_same, rfl, .int (sq xs n), _, rfl, .int (sq ys n), _, rfl, rfl, hw _ _, cw_turn p' (by omega) et_yes fun _ => he n H1 (e.trans e1) hlt⟩
  · have en : n = min xs.length ys.length := by omega
    refine .inl ⟨⟨_, _, ex_l ex hx, ex_l ex hy, ?_⟩, ?_⟩
    · rw [List.length_map, List.length_map]
      omega
    · rw [en] at p
      have p2 := p.2.2
      rw [given_all] at p2
      exact q Dl H' (fresh_back e1 p.1) (e1.trans p.2.1) p2
/-! ### slices -/
theorem cut_to (ns : List Int) (k : Nat) : cutV (ns.map V.int) none (some (k : Int)) = (ns.take k).map V.int := by
  unfold cutV
  rw [HT.sIx_none, HT.sIx_nat, List.drop_zero, Nat.sub_zero, List.map_take]
  by_cases h : k ≤ (ns.map V.int).length
  · rw [Nat.min_eq_left h]
  · rw [Nat.min_eq_right (by omega), List.take_of_length_le (Nat.le_refl _), List.take_of_length_le (by omega)]
theorem cut_from (ns : List Int) (k : Nat) : cutV (ns.map V.int) (some (k : Int)) none = (ns.drop k).map V.int := by
  unfold cutV
  rw [HT.sIx_none, HT.sIx_nat, List.map_drop]
  by_cases h : k ≤ (ns.map V.int).length
  · rw [Nat.min_eq_left h, List.take_of_length_le (by rw [List.length_drop]; omega)]
  · have h1 : List.drop (ns.map V.int).length (ns.map V.int) = [] := List.drop_eq_nil_of_le (Nat.le_refl _)
    have h2 : List.drop k (ns.map V.int) = [] := List.drop_eq_nil_of_le (by omega)
    rw [Nat.min_eq_right (by omega), h1, h2, List.take_nil]
/-- all but the last -/
theorem cut_last (ns : List Int) : cutV (ns.map V.int) none (some (-1)) = ns.dropLast.map V.int := by
  unfold cutV
  rw [HT.sIx_none, List.drop_zero, Nat.sub_zero, show HT.sIx (ns.map V.int).length (ns.map V.int).length (some (-1)) = (ns.map V.int).length - 1 from ?_, List.map_dropLast, List.dropLast_eq_take]
  unfold HT.sIx
  simp only [List.length_map]
  split <;> omega
end
end Pw
namespace Pw
open PySem PySem.Spec PyProof.Rows L2 Evl
section
variable {K : PySem.W.Frag} {σ : L2.St} {H H' : Hp} {ta tb tc te te2 : TE} {t u : TT} {x y z v : V} {r r' : R2} {D : Ends} {tz : TS}
/-- a, b = e, e2 -/
theorem q_par {i j : Nat} (h1 : Ev te σ H x) (h2 : Ev te2 σ H y) (k : ∀ H1, Ex H H1 → tz D ((σ.set i (some x)).set j (some y)) H1) : tSeq (tPar i j (tCons te (tCons te2 tNil))) tz D σ H :=
  h1 H (Ex.refl H) _ fun H1 e1 => h2 H1 e1 _ fun H2 e2 => ⟨x, y, rfl, k H2 (e1.trans e2)⟩
theorem q_parL {i j : Nat} {xs : List V} (h1 : Ev te σ H x) (h2 : EvL te2 σ H xs) (k : ∀ p H1, H p = none → Ex H H1 → H1 p = some (.lst xs) → tz D ((σ.set i (some x)).set j (some (.ref p))) H1) : tSeq (tPar i j (tCons te (tCons te2 tNil))) tz D σ H :=
  h1 H (Ex.refl H) _ fun H1 e1 => h2 H1 e1 _ fun p H2 n2 e2 hp => ⟨x, .ref p, rfl, k p H2 (fresh_back e1 n2) (e1.trans e2) hp⟩
theorem q_parLL {i j : Nat} {xs ys : List V} (h1 : EvL te σ H xs) (h2 : EvL te2 σ H ys) (k : ∀ p q H1, H p = none → H q = none → p ≠ q → Ex H H1 → H1 p = some (.lst xs) → H1 q = some (.lst ys) → tz D ((σ.set i (some (.ref p))).set j (some (.ref q))) H1) : tSeq (tPar i j (tCons te (tCons te2 tNil))) tz D σ H :=
  h1 H (Ex.refl H) _ fun p H1 n1 e1 hp => h2 H1 e1 _ fun q H2 n2 e2 hq => ⟨.ref p, .ref q, rfl, k p q H2 n1 (fresh_back e1 n2) (ne_of_none hp n2) (e1.trans e2) (e2 p _ hp) hq⟩
/-- a, b, c = list, list, int -/
theorem q_par3LL {i j l : Nat} {te3 : TE} {xs ys : List V} (h1 : EvL te σ H xs) (h2 : EvL te2 σ H ys) (h3 : Ev te3 σ H z) (k : ∀ p q H1, H p = none → H q = none → p ≠ q → Ex H H1 → H1 p = some (.lst xs) → H1 q = some (.lst ys) → tz D (((σ.set i (some (.ref p))).set j (some (.ref q))).set l (some z)) H1) : tSeq (tPar3 i j l (tCons te (tCons te2 (tCons te3 tNil)))) tz D σ H :=
  h1 H (Ex.refl H) _ fun p H1 n1 e1 hp => h2 H1 e1 _ fun q H2 n2 e2 hq => h3 H2 (e1.trans e2) _ fun H3 e3 => ⟨.ref p, .ref q, z, rfl, k p q H3 n1 (fresh_back e1 n2) (ne_of_none hp n2) ((e1.trans e2).trans e3) (e3 p _ (e2 p _ hp)) (e3 q _ hq)⟩
/-- the first operand a new tuple -/
theorem ev_opU1 {xs : List V} (ha : EvU ta σ H xs) (hb : Ev tb σ H y) (hr : ∀ p H1, H1 p = some (.tup xs) → Ex H H1 → RV r (.ref p) y H1 z) : Ev (tOp r ta tb) σ H z := fun H1 e Q q =>
  ha H1 e _ fun p H2 _ e2 hp => hb H2 (e.trans e2) _ fun H3 e3 => hr p H3 (e3 p _ hp) ((e.trans e2).trans e3) H3 (Ex.refl H3) Q fun H4 e4 => q H4 ((e2.trans e3).trans e4)
theorem el_if {b : Bool} {xs : List V} (h : EvT t σ H b) (h1 : b = true → EvL ta σ H xs) (h2 : b = false → EvL tb σ H xs) : EvL (tIf t ta tb) σ H xs := fun H1 e Q q => h H1 e _ fun H2 e2 => by
  cases b with
  | true =>
    show ta σ H2 Q
    exact h1 rfl H2 (e.trans e2) Q fun p H3 n3 e3 hp => q p H3 (fresh_back e2 n3) (e2.trans e3) hp
  | false =>
    show tb σ H2 Q
    exact h2 rfl H2 (e.trans e2) Q fun p H3 n3 e3 hp => q p H3 (fresh_back e2 n3) (e2.trans e3) hp
theorem el_cat {a b : Addr} {xs ys : List V} (ha : Ev ta σ H (.ref a)) (hb : Ev tb σ H (.ref b)) (h1 : H a = some (.lst xs)) (h2 : H b = some (.lst ys)) (hz : xs.length + ys.length ≤ 100000) : EvL (tOp rCat ta tb) σ H (xs ++ ys) := fun H1 e Q q =>
  ha H1 e _ fun H2 e2 => hb H2 (e.trans e2) _ fun H3 e3 => ⟨a, b, xs, ys, rfl, rfl, ((e.trans e2).trans e3) a _ h1, ((e.trans e2).trans e3) b _ h2, sz_of hz, fun p hp => q p _ (fresh_back (e2.trans e3) hp) ((e2.trans e3).trans (Ex.new hp)) upd_same⟩
/-- a new list and a known one, put behind one another -/
theorem el_catL {b : Addr} {xs ys : List V} (ha : EvL ta σ H xs) (hb : Ev tb σ H (.ref b)) (h2 : H b = some (.lst ys)) (hz : xs.length + ys.length ≤ 100000) : EvL (tOp rCat ta tb) σ H (xs ++ ys) := fun H1 e Q q =>
  ha H1 e _ fun a H2 n2 e2 h1 => hb H2 (e.trans e2) _ fun H3 e3 => ⟨a, b, xs, ys, rfl, rfl, e3 a _ h1, ((e.trans e2).trans e3) b _ h2, sz_of hz, fun p hp => q p _ (fresh_back (e2.trans e3) hp) ((e2.trans e3).trans (Ex.new hp)) upd_same⟩
theorem el_catLL {xs ys : List V} (ha : EvL ta σ H xs) (hb : EvL tb σ H ys) (hz : xs.length + ys.length ≤ 100000) : EvL (tOp rCat ta tb) σ H (xs ++ ys) := fun H1 e Q q =>
  ha H1 e _ fun a H2 n2 e2 h1 => hb H2 (e.trans e2) _ fun b H3 n3 e3 h2 => ⟨a, b, xs, ys, rfl, rfl, e3 a _ h1, h2, sz_of hz, fun p hp => q p _ (fresh_back (e2.trans e3) hp) ((e2.trans e3).trans (Ex.new hp)) upd_same⟩
/-- [x] * n -/
theorem el_rep {n : Int} {xs : List V} (ha : EvL ta σ H xs) (hb : Ev tb σ H (.int n)) (hn : -100000 ≤ n ∧ n ≤ 100000) (hz : xs.length = 1) : EvL (tOp rRep ta tb) σ H (List.replicate n.toNat xs).flatten := fun H1 e Q q =>
  ha H1 e _ fun a H2 n2 e2 h1 => hb H2 (e.trans e2) _ fun H3 e3 => ⟨a, n, xs, rfl, rfl, e3 a _ h1, by omega, by omega, sz_of (by rw [hz]; omega), fun p hp => q p _ (fresh_back (e2.trans e3) hp) ((e2.trans e3).trans (Ex.new hp)) upd_same⟩
theorem rep_one (n : Nat) (x : V) : (List.replicate n [x]).flatten = List.replicate n x := by
  induction n with
  | zero => rfl
  | succ n ih =>
    rw [List.replicate_succ, List.flatten_cons, ih]
    rfl
theorem rep_map (n : Nat) (x : Int) : List.replicate n (V.int x) = ((List.range n).map fun _ => x).map V.int := by
  rw [List.map_map]
  apply List.ext_getElem?
  intro i
  by_cases h : i < n
  · rw [List.getElem?_replicate, if_pos h, List.getElem?_map, List.getElem?_range h]
    rfl
  · rw [List.getElem?_eq_none (by simp; omega), List.getElem?_eq_none (by simp; omega)]
/-- an item of a tuple of ints -/
theorem rv_atU {a : Addr} {ns : List Int} {i : Int} {n : Nat} (h : SqT K H a (ns.map V.int)) (e : i = (n : Int)) (hn : n < ns.length) : RV (rIxT K) (.ref a) (.int i) H (.int (sq ns n)) := by
  refine rv_ixT h ?_
  rw [e]
  refine atI_nat ?_
  rw [List.getElem?_map, sq_at hn]
  rfl
/-! ### isinstance of the error that a suite holds -/
def rIsX (K : PySem.W.Frag) (a : Addr) (cls : Value) (d : Option Addr) : List V → Hp → VK → Prop := fun xs H Q => ∃ D, cls = .ref D ∧ d = none ∧ ExcC K D ∧ rIsE K D a xs H Q
theorem call_isX {X : Cx} {a : Addr} {oe : Obj} {pn : List (Addr × Obj)} {cls : Value} {d : Option Addr} (hz : Zc cls d oe) (hf : ∃ vs, oe.data = .fields vs) : CallR (X.suite a ((a, oe) :: pn)) (.builtin "isinstance") (rIsX X.K a cls d) := by
  intro pins s σ H xs us Q I r h
  obtain ⟨D, rfl, rfl, C, h⟩ := h
  exact call_isE C hz hf pins s σ H xs us Q I r h
theorem rc_isX {a D C : Addr} {b : Bool} (E : ExcC K D) (hb : PySem.W.kitOne K (.ref D) (.ref C) = some b) : RC (rIsX K a (.ref D) none) [.ref a, .ref C] H (.bl b) := fun H1 e _ q =>
  ⟨D, rfl, rfl, E, .ref C, .ref C, b, rfl, fun _ r => r, hb, q H1 (Ex.refl H1)⟩
theorem rc_isXT {a D : Addr} {c : String} {b : Bool} (E : ExcC K D) (hb : PySem.W.kitOne K (.ref D) (.type c) = some b) : RC (rIsX K a (.ref D) none) [.ref a, .ty c] H (.bl b) := fun H1 e _ q =>
  ⟨D, rfl, rfl, E, .ty c, .type c, b, rfl, fun _ r => r, hb, q H1 (Ex.refl H1)⟩
/-- an own class asked of an instance of another -/
theorem kit_own {D C : Addr} {b : Bool} (h1 : PySem.W.isClsIn K C = true) (h2 : PySem.W.typeIn K (.ref C) = some (.type "type")) (h3 : PySem.W.subIn K (.ref D) (.ref C) = some b) (h4 : D = C → b = true) : PySem.W.kitOne K (.ref D) (.ref C) = some b := by
  unfold PySem.W.kitOne
  by_cases e : D = C
  · subst e
    rw [if_pos (beq_self_eq_true _), h4 rfl]
  · have ne : ¬ ((Value.ref D == Value.ref C) = true) := fun z => e (Value.ref.inj (beq_iff_eq.mp z))
    rw [if_neg ne]
    show (if ((PySem.W.clsIn K C).isSome && PySem.W.typeIn K (.ref C) == some (.type "type")) = true then PySem.W.subIn K (.ref D) (.ref C) else none) = some b
    have h1' : (PySem.W.clsIn K C).isSome = true := h1
    rw [h1', h2, if_pos (by rfl)]
    exact h3
end
end Pw
namespace Pw
open PySem PySem.Spec PyProof.Rows L2 Evl
section
variable {K : PySem.W.Frag} {σ : L2.St} {H H' : Hp} {ta tb tc te te2 : TE} {t u : TT} {x y z v : V} {r r' : R2} {D : Ends} {tz : TS}
/-- arguments, new lists among them: what holds of them and the heap behind -/
def EvAP (tA : TA) (σ : L2.St) (H : Hp) (P : List V → Hp → Prop) : Prop := ∀ H1, Ex H H1 → ∀ Q : List V → Hp → Prop, (∀ vs H2, Ex H1 H2 → P vs H2 → Q vs H2) → tA σ H1 Q
theorem eap_nil : EvAP tNil σ H (fun vs _ => vs = []) := fun H1 _ _ q => q [] H1 (Ex.refl H1) rfl
theorem eap_cons {tr : TA} {P : List V → Hp → Prop} (h : Ev te σ H x) (hr : EvAP tr σ H P) : EvAP (tCons te tr) σ H (fun vs H2 => ∃ r, vs = x :: r ∧ P r H2) := fun H1 e Q q =>
  h H1 e _ fun H2 e2 => hr H2 (e.trans e2) _ fun vs H3 e3 hP => q _ H3 (e2.trans e3) ⟨vs, rfl, hP⟩
theorem eap_consL {tr : TA} {P : List V → Hp → Prop} {xs : List V} (h : EvL te σ H xs) (hr : EvAP tr σ H P) : EvAP (tCons te tr) σ H (fun vs H2 => ∃ p r, vs = .ref p :: r ∧ H2 p = some (.lst xs) ∧ H p = none ∧ P r H2) := fun H1 e Q q =>
  h H1 e _ fun p H2 n2 e2 hp => hr H2 (e.trans e2) _ fun vs H3 e3 hP => q _ H3 (e2.trans e3) ⟨p, vs, rfl, e3 p _ hp, fresh_back e n2, hP⟩
theorem el_callP {sp : Sp} {E : XK} {tA : TA} {P : List V → Hp → Prop} {zs : List V} (h : EvAP tA σ H P) (hs : ∀ vs H1, Ex H H1 → P vs H1 → SpL sp (vs ++ []) H1 zs) : EvL (tCall sp [] E tA) σ H zs := fun H1 e Q q =>
  h H1 e _ fun vs H2 e2 hP => hs vs H2 (e.trans e2) hP H2 (Ex.refl H2) Q (fun p H3 n3 e3 hp => q p H3 (fresh_back e2 n3) (e2.trans e3) hp) E
theorem ev_callP {sp : Sp} {E : XK} {tA : TA} {P : List V → Hp → Prop} (h : EvAP tA σ H P) (hs : ∀ vs H1, Ex H H1 → P vs H1 → SpV sp (vs ++ []) H1 z) : Ev (tCall sp [] E tA) σ H z := fun H1 e Q q =>
  h H1 e _ fun vs H2 e2 hP => hs vs H2 (e.trans e2) hP H2 (Ex.refl H2) Q (fun H3 e3 => q H3 (e2.trans e3)) E
/-- a, b = list, list, by a tuple -/
theorem q_asgTLL {i j : Nat} {xs ys : List V} (h1 : EvL te σ H xs) (h2 : EvL te2 σ H ys) (k : ∀ p q H1, H p = none → H q = none → p ≠ q → Ex H H1 → H1 p = some (.lst xs) → H1 q = some (.lst ys) → tz D ((σ.set i (some (.ref p))).set j (some (.ref q))) H1) :
    tSeq (tAsg (tTup (tCons te (tCons te2 tNil))) (gTup K 2 (gCons (gName i) (gCons (gName j) gNil)))) tz D σ H :=
  h1 H (Ex.refl H) _ fun p H1 n1 e1 hp => h2 H1 e1 _ fun q H2 n2 e2 hq => ⟨by show 2 ≤ sizeLine; decide, fun t ht => ⟨t, _, rfl, st_of upd_same, rfl, .ref p, _, rfl, .ref q, _, rfl, rfl,
    k p q _ n1 (fresh_back e1 n2) (ne_of_none hp n2) ((e1.trans e2).trans (Ex.new ht)) (by rw [upd_ne (ne_of_none (e2 p _ hp) ht)]; exact e2 p _ hp) (by rw [upd_ne (ne_of_none hq ht)]; exact hq)⟩⟩
end
end Pw

namespace Pw
open PySem PySem.Spec PyProof.Rows L2 HotX
section
variable {prog : Program} {w : World} {A : Around} {E : Value → Shared → Prop} {s : Shared}
theorem list_end_hot {it l x1 : Addr} {i : Nat} {items : Array Value} {Q : Option Value → Shared → Prop} (hot : HotAt A x1 s.heap) (hne : x1 ≠ it)
    (hit : s.heap.IsListIter it l i) (hl : s.heap.IsList l items) (hx : items[i]? = none)
    (hQ : ∀ h', (∀ b o, b ≠ it → s.heap.get? b = some o → h'.get? b = some o) → Q none { s with heap := h' }) : wpAny (model prog w) A (pyNext (.ref it)) Q E s := by
  obtain ⟨o, ho, hc, hd⟩ := id hit
  obtain ⟨ol, hol, _, nl, hdl⟩ := hl
  obtain ⟨hh, o1, vs1, h1, d1, c1⟩ := hot
  unfold pyNext
  refine wpAny_bind (wpAny_attempt (wpAny_callSpecial?_slot (name := Str.ofString "__next__") hit.typeIs slot_listiter_next
    (wpAny_call_entry slot_listiter_next hit.typeIs entry_listiter_next ?_ (args_listiter_next _))))
  show wpAny _ _ (field (.ref it) 0 >>= _) _ _ s
  refine wpAny_bind (wpAny_field ho hd (x := .ref l) rfl ?_)
  show wpAny _ _ (if (Value.ref l == Value.none) = true then _ else _) _ _ s
  rw [if_neg (show ¬ ((Value.ref l == Value.none) = true) from Bool.false_ne_true)]
  show wpAny _ _ (field (.ref it) 1 >>= _) _ _ s
  refine wpAny_bind (wpAny_field ho hd (x := .int i 0) rfl ?_)
  show wpAny _ _ (seqItems? (.ref l) >>= _) _ _ s
  refine wpAny_bind (wpAny_seqItems hol hdl ?_)
  simp only [Int.toNat_natCast, hx]
  refine wpAny_bind (wpAny_rule (wpAny_bind (wpAny_setField ho hd (by simp) ?_)))
  show wpAny _ _ (newExc (.type "StopIteration") [] >>= _) _ _ _
  refine wpAny_bind ?_
  simp only [newExc, newTuple]
  refine wpAny_bind (wpAny_newObj_type ?_ (by size_fits))
  refine wpAny_bind (m := firstArgMember _ _) (wpAny_of_eq (a := Value.none) (by first | rfl | (simp only [firstArgMember]; rfl)) ?_)
  refine wpAny_newObj_type ?_ (by size_fits)
  have hu : ∀ b ob, b ≠ it → s.heap.get? b = some ob → (s.heap.update it (Obj.mapFields (·.setIfInBounds 0 Value.none))).get? b = some ob := fun b ob hb e => by
    rw [Heap.get?_update_other _ _ hb.symm]
    exact e
  first
    | refine raiseNew_hot (x1 := x1) ⟨hh, o1, vs1, Heap.get?_push_of_some _ (Heap.get?_push_of_some _ (hu x1 o1 hne h1)), d1, c1⟩ (Nat.ne_of_lt (Heap.lt_size (Heap.get?_push_of_some _ (hu x1 o1 hne h1)))) (Heap.get?_push_size _ rfl) rfl (by first | (simp; done) | (simp; omega) | (simp only [Array.size_append]; simp; omega)) ?_
  refine wpAny_bind (wpAny_isInstance (T := "StopIteration") (b := true) ⟨_, Heap.get?_update_self _ (Heap.get?_push_size _ rfl) rfl, rfl⟩ isSubtype_stop ?_)
  refine wpAny_pure (hQ _ fun b ob hb e => ?_)
  rw [Heap.get?_update_other _ _ (Nat.ne_of_gt (Heap.lt_size (Heap.get?_push_of_some _ (hu b ob hb e))))]
  exact Heap.get?_push_of_some _ (Heap.get?_push_of_some _ (hu b ob hb e))
/-- a list walked while an exception is handled -/
theorem walks_listH {x1 I ax : Addr} (hne : ax ≠ I) (hx : x1 ≠ I) (items : Array Value) :
    Walks prog w A I [I, ax, x1] [I] items.size (fun i v => items[i]? = some v) (fun i h => h.IsListIter I ax i ∧ h.IsList ax items ∧ HotAt A x1 h) where
  sub := fun b hb => by simp at hb; simp [hb]
  frame := fun _ _ _ st hk => ⟨st.1.at fun o e => hk I (by simp) o e, st.2.1.at fun o e => hk ax (by simp) o e, by
    obtain ⟨hh, o1, vs1, h1, d1, c1⟩ := st.2.2
    exact ⟨hh, o1, vs1, hk x1 (by simp) _ h1, d1, c1⟩⟩
  item := fun i s Q E hi st hQ => by
    refine wpAny_pyNext_list_item st.1 st.2.1 (x := items[i]) (by simp [hi]) fun h' hit' hs' => ?_
    obtain ⟨hh, o1, vs1, h1, d1, c1⟩ := st.2.2
    exact hQ _ h' s.toks (by simp [hi]) ⟨hit', st.2.1.extBut hs'.extBut hne, hh, o1, vs1, hs'.extBut _ _ hx h1, d1, c1⟩ fun b o hb e => hs'.extBut b o (fun h => hb (by simp [h])) e
  done := fun s Q E st hQ => list_end_hot st.2.2 hx st.1 st.2.1 (by simp) fun h' he' => hQ h' s.toks fun b o hb e => he' b o (fun h => hb (by simp [h])) e
  self := fun _ _ _ _ st hQ => wpAny_pyIter_listiter st.1 hQ
end
/-- any(list) within an except suite -/
theorem cr_anyH {X : Cx} {a : Addr} {oe : Obj} {pn : List (Addr × Obj)} {cls : Value} {d : Option Addr} (hz : L2N.Zn cls d oe) (hf : ∃ vs, oe.data = .fields vs) : CallR (X.suite a ((a, oe) :: pn)) (.builtin "any") (rAny X.K) := by
  intro pins s σ H vs us Q I r h
  obtain ⟨l, bs, rfl, hs, q⟩ := h
  obtain ⟨its, rv, hl, _⟩ := I.list hs
  rw [Vals.ref1 r]
  have hb := rv.bls
  obtain ⟨hget, hfree⟩ := I.pin (a, oe) (List.mem_append.mpr (.inl List.mem_cons_self))
  obtain ⟨vs1, hv⟩ := hf
  refine call_any_walk (iter_any hl.isList fun s₂ e2 st hne => ?_)
  subst e2
  have hot : HotAt (X.suite a ((a, oe) :: pn)).A.in1 a (s.heap.push { cls := .type "list_iterator", data := .fields #[.ref l, .int 0 0] }) := ⟨rfl, oe, vs1, Heap.get?_push_of_some _ hget, hv, hz.2.2 vs1 hv⟩
  refine ⟨_, _, _, _, _, _, _, rfl, walks_listH (A := (X.suite a ((a, oe) :: pn)).A.in1) (x1 := a) hne (Nat.ne_of_lt (Heap.lt_size hget)) its.toArray, ⟨st.1, st.2, hot⟩, truth_bools hb, fun h' tk hk => ?_⟩
  refine ⟨.bl _, H, I.kept fun b o eo => hk b o (fun hmem => ?_) (Heap.get?_push_of_some _ eo), ?_, q⟩
  · rcases List.mem_cons.mp hmem with e1 | hmem
    · exact absurd (e1 ▸ Heap.lt_size eo) (Nat.lt_irrefl _)
    · cases hmem
  · show Value.bool _ = Value.bool _
    rw [← L2.any_range, hb, List.size_toArray, List.length_map]
theorem takes0N {X : Cx} : L2N.Takes X (fun _ _ _ _ => False) := fun _ _ x => by
  obtain ⟨_, _, _, _, _, _, _, _, _, _, _, _, _, _, _, _, z⟩ := x
  exact z.elim
section
variable {P : Program} {w : World} {K : PySem.W.Frag} {mg : Str → Option Value} {base : Heap}
/-- a def that may raise -/
theorem okN {x qual : Str} {st : Stmt} {f : Addr} {fd : FuncData} {N ps : List Str} {k : Nat} {sp : Sp} (F : Fun K x qual st f fd) (S : FnScope N ps (defScope st)) (len : ∀ vs H Q E, sp vs H Q E → vs.length = ps.length)
    (hbody : ∀ (cdv : Value) (A : Around) (outer : List Env) (s : Shared) (H : Hp) (vs : List V) (Q : VK) (E : XK), Room k (A.deeper (envOfC qual (defScope st) s.heap.objs.size f cdv)) → sp vs H Q E →
      ∃ t, PSs (cxOf (L2N.CX P w) P w K mg base N qual (defScope st) f cdv A outer s H E) (defBody st) t ∧ t { nx := fun _ H' => Q .non H', rt := Q } (start N vs) H) : FnOk P w K mg base (L2N.CX P w) (k + 1) f fd ps sp := by
  obtain ⟨oc, od, kV, doc, pm, an, cdv, ct, osl, rfl, lk, hcd⟩ := F.ex
  exact fn_of lk hcd S len fun A outer s H vs Q E hr hsp => hbody cdv A outer s H vs Q E hr hsp
end
section
variable {X : Cx} {x : Str} {p pos : Pos} {e : Expr} {es : List Expr} {t : TA} {sp : Sp} {k : Nat} {ps : List Str}
/-- a call of such a def in a try -/
theorem pe_cS {E : L2.St → XK} (C : Cal X.prog X.w X.K X.mg X.base (L2N.CX X.prog X.w) x k ps sp) (hr : Room k X.A) (hx : ∀ σ, PassesAt (L2N.CX X.prog X.w) X σ (E σ)) (ha : PA X (e :: es) t) (hg : Gl X x := by rfl) (hdb : (x == ("__debug__" : Str)) = false := by decide)
    (he : starEach (e :: es) X.env = (false, eval e X.env) :: starEach es X.env := by rfl) (hpl : (backTo pos (starEach es X.env)).any (·.1) = false := by rfl) :
    PE X (.Call (.Name x p) (e :: es) [] pos) (tCallS sp E t) := by
  obtain ⟨f, fd, F, g, kp, b⟩ := C.ex
  exact pe_callS F hr hg g kp b hx ha hdb he hpl
end
/-- what the top's own exception classes are -/
structure ExcF (K : PySem.W.Frag) (a : Addr) : Prop where
  exc : PySem.W.excIn K a [.type "ValueError", .type "Exception", .type "BaseException", .type "object"] "ValueError.__new__" = true
  sb : PySem.W.subIn K (.ref a) (.type "BaseException") = some true
  ty : PySem.W.typeIn K (.ref a) = some (.type "type")
  ic : PySem.W.isClsIn K a = true
end Pw
namespace Pw
open PySem PySem.Spec PyProof.Rows L2 Evl
/-- try: f(..), the call lets an exception out or comes back -/
theorem q_tryc {σ : L2.St} {H : Hp} {D : Ends} {tz : TS} {sp : Sp} {tA : TA} {vs : List V} {W : Ends → WX} (h : EvA tA σ H vs) (k : ∀ H1, Ex H H1 → sp vs H1 (fun _ H2 => tz D σ H2) (WE (W { D with nx := tz D }) σ)) :
    tSeq (fun D σ H => tDrop (tCallS sp (WE (W D)) tA) D σ H) tz D σ H := h H (Ex.refl H) _ fun H1 e1 => k H1 e1
end Pw
namespace Pw
open PySem PySem.Spec PyProof.Rows L2 Evl
theorem vals_abs {ns : List Int} : ∀ {its : List Value}, its.map absV = (ns.map fun i => some (V.int i)) → Vals (ns.map V.int) its := by
  induction ns with
  | nil =>
    intro its h
    cases its with
    | nil => exact .nil
    | cons u r => cases h
  | cons n r ih =>
    intro its h
    cases its with
    | nil => cases h
    | cons u t =>
      have h1 : absV u = some (V.int n) := (List.cons.inj h).1
      have h2 : t.map absV = r.map fun i => some (V.int i) := (List.cons.inj h).2
      refine .cons ?_ (ih h2)
      cases u <;> cases h1
      exact ⟨_, rfl⟩
/-- a tuple of ints of the written part -/
theorem sqt_ints {K : PySem.W.Frag} {a : Addr} {dd : Option Addr} {its : Array Value} {n : Nat} {sl : Array (Option Value)} {ns : List Int} (h : K.lookup a = some ⟨.type "tuple", dd, .seq its n, sl⟩) (hz : its.size ≤ sizeLine) (e : its.toList.map absV = ns.map fun i => some (V.int i)) (H : Hp) :
    SqT K H a (ns.map V.int) := .inr ⟨_, its, n, h, rfl, rfl, hz, vals_abs e⟩
/-- isinstance of an error: another class -/
theorem kit_other {K : PySem.W.Frag} {D C : Addr} (h1 : PySem.W.isClsIn K C = true) (h2 : PySem.W.typeIn K (.ref C) = some (.type "type")) (h3 : PySem.W.subIn K (.ref D) (.ref C) = some false) (h0 : PySem.W.subIn K (.ref D) (.ref D) = some true) : PySem.W.kitOne K (.ref D) (.ref C) = some false :=
  kit_own h1 h2 h3 fun e => by
    subst e
    rw [h0] at h3
    cases h3
theorem kit_self {K : PySem.W.Frag} {D : Addr} (h1 : PySem.W.isClsIn K D = true) (h2 : PySem.W.typeIn K (.ref D) = some (.type "type")) (h3 : PySem.W.subIn K (.ref D) (.ref D) = some true) : PySem.W.kitOne K (.ref D) (.ref D) = some true := kit_own h1 h2 h3 fun _ => rfl
end Pw

namespace Pw
open PySem PySem.Spec PyProof.Rows L2 Evl
section
variable {K : PySem.W.Frag} {σ : L2.St} {H H' : Hp} {ta tb tc te te2 : TE} {t u : TT} {x y z v : V} {r r' : R2} {D : Ends} {tz tu : TS}
/-- x = f(..), by the promise itself -/
theorem q_asgC {i : Nat} {sp : Sp} {E : XK} {tA : TA} {vs : List V} (h : EvA tA σ H vs) (k : ∀ H1, Ex H H1 → sp (vs ++ []) H1 (fun v H2 => tz D (σ.set i (some v)) H2) E) : tSeq (tAsg (tCall sp [] E tA) (gName i)) tz D σ H := h H (Ex.refl H) _ fun H1 e1 => k H1 e1
/-- a new list of what isn't known ahead -/
def EvLP (te : TE) (σ : L2.St) (H : Hp) (R : List V → Hp → Prop) : Prop := ∀ H1, Ex H H1 → ∀ Q : VK, (∀ xs p H2, H1 p = none → Ex H1 H2 → H2 p = some (.lst xs) → R xs H2 → Q (.ref p) H2) → te σ H1 Q
theorem elp_lst {tA : TA} {P : List V → Hp → Prop} (h : EvAP tA σ H P) (hl : ∀ vs H1, P vs H1 → vs.length ≤ 100000) : EvLP (tLst tA) σ H (fun xs H3 => ∃ H2, Ex H2 H3 ∧ P xs H2) := fun H1 e Q q =>
  h H1 e _ fun vs H2 e2 hP => ⟨sz_of (hl vs H2 hP), fun p hp => q vs p _ (fresh_back e2 hp) (e2.trans (Ex.new hp)) upd_same ⟨H2, Ex.new hp, hP⟩⟩
theorem q_forLP {tl : TE} {R : List V → Hp → Prop} {j : Nat} (h : EvLP tl σ H R) (Pv : List V → Addr → Nat → L2.St → Hp → Prop) (h0 : ∀ xs p H1, H p = none → Ex H H1 → H1 p = some (.lst xs) → R xs H1 → Pv xs p 0 σ H1) (hl : ∀ xs p i σ' H', i ≤ xs.length → Pv xs p i σ' H' → SqL K H' p xs)
    (hs : ∀ xs p i x σ' H', xs[i]? = some x → Pv xs p i σ' H' → tu { D with nx := Pv xs p (i + 1), ct := Pv xs p (i + 1), bk := tz D } (σ'.set j (some x)) H') (hd : ∀ xs p σ' H', Pv xs p xs.length σ' H' → tz D σ' H') : tSeq (tFor (iList K tl) (gName j) tu) tz D σ H :=
  h H (Ex.refl H) _ fun xs p H1 hp e h1 hR => ⟨p, rfl, ⟨xs, sq_of h1⟩, for_list (D := { D with nx := tz D }) (Pv xs p) (h0 xs p H1 hp e h1 hR) (hl xs p) (hs xs p) (hd xs p)⟩
/-- a new list as an argument, its address unknown to the rest -/
theorem eap_consP {tr : TA} {P : List V → Hp → Prop} {R : List V → Hp → Prop} (h : EvLP te σ H R) (hr : EvAP tr σ H P) : EvAP (tCons te tr) σ H (fun vs H2 => ∃ p xs r H3, vs = .ref p :: r ∧ H2 p = some (.lst xs) ∧ H p = none ∧ Ex H3 H2 ∧ R xs H3 ∧ P r H2) := fun H1 e Q q =>
  h H1 e _ fun xs p H2 n2 e2 hp hR => hr H2 (e.trans e2) _ fun vs H3 e3 hP => q _ H3 (e2.trans e3) ⟨p, xs, vs, H2, rfl, e3 p _ hp, fresh_back e n2, e3, hR, hP⟩
/-- [e for x in range(lo, n)] -/
theorem el_mapR2 {tA : TA} {j : Nat} {vs : List Nat} {lo n : Int} (v : Nat → V) (h : EvA tA σ H [.int lo, .int n]) (hn : 0 ≤ lo ∧ lo ≤ 40000 ∧ -40000 ≤ n ∧ n ≤ 40000) (hw : ∀ x, wipe ((wipe σ vs).set j (some x)) vs = wipe σ vs)
    (he : ∀ (i : Nat) H1, Ex H H1 → lo + (i : Int) < n → Ev te ((wipe σ vs).set j (some (.int (lo + (i : Int))))) H1 (v i)) : EvL (tLc (iRng2 tA) (gName j) tYes te vs) σ H ((List.range (n - lo).toNat).map v) := by
  refine el_is (xs := given (n - lo).toNat (fun _ => true) v) (fun H0 e Q q => h H0 e _ fun H1 e1 => ⟨lo, n, rfl, ⟨by omega, by omega, by omega, by omega⟩, fun Dl hD => ?_⟩) given_all
  exact lc_range (lo := lo) (n := (n - lo).toNat) (Cw H1 (fun _ => true) v Dl) ⟨hD, Ex.new hD, upd_same⟩ (fun i H' hi p => ⟨hw _, cw_turn p (by omega) et_yes fun _ => he i H1 (e.trans e1) (by omega)⟩) (fun H' p => q Dl H' (fresh_back e1 p.1) (e1.trans p.2.1) p.2.2)
/-- any(list) behind a comprehension; a call upon an argument that is a call -/
theorem ev_cbP {r : List V → Hp → VK → Prop} {tA : TA} {P : List V → Hp → Prop} (h : EvAP tA σ H P) (hr : ∀ vs H1, Ex H H1 → P vs H1 → RC r vs H1 z) : Ev (tCB r tA) σ H z := fun H1 e Q q =>
  h H1 e _ fun vs H2 e2 hP => hr vs H2 (e.trans e2) hP H2 (Ex.refl H2) Q fun H3 e3 => q H3 (e2.trans e3)
end
end Pw
namespace Pw
open PySem PySem.Spec PyProof.Rows L2 Evl
section
variable {K : PySem.W.Frag} {σ : L2.St} {H H' : Hp} {ta tb tc te te2 : TE} {x y z v : V}
theorem el_catR {a : Addr} {xs ys : List V} (ha : Ev ta σ H (.ref a)) (h1 : H a = some (.lst xs)) (hb : EvL tb σ H ys) (hz : xs.length + ys.length ≤ 100000) : EvL (tOp rCat ta tb) σ H (xs ++ ys) := fun H1 e Q q =>
  ha H1 e _ fun H2 e2 => hb H2 (e.trans e2) _ fun b H3 n3 e3 h2 => ⟨a, b, xs, ys, rfl, rfl, ((e.trans e2).trans e3) a _ h1, h2, sz_of hz, fun p hp => q p _ (fresh_back (e2.trans e3) hp) ((e2.trans e3).trans (Ex.new hp)) upd_same⟩
theorem in_ints {x : Int} {xs : List Int} : inV (.int x) (xs.map V.int) = decide (x ∈ xs) := by
  unfold inV
  rw [List.any_map, Bool.eq_iff_iff, List.any_eq_true, decide_eq_true_eq]
  constructor
  · rintro ⟨y, hy, e⟩
    have e : (y == x) = true := e
    rw [beq_iff_eq.mp e] at hy
    exact hy
  · exact fun h => ⟨x, h, show (x == x) = true from beq_self_eq_true x⟩
theorem flat_ints (xs : List Int) : (xs.map V.int).all flatV = true := by
  rw [List.all_map, List.all_eq_true]
  exact fun _ _ => rfl
end
end Pw
namespace Pw
open PySem PySem.Spec PyProof.Rows L2 Evl
theorem sum_bits {m : Nat} : ∀ l : List Int, (∀ z ∈ l, Builtin.Int.intBits z ≤ m) → Builtin.Int.intBits l.sum ≤ m + l.length
  | [], _ => by
    rw [show ([] : List Int).sum = 0 from rfl, show Builtin.Int.intBits 0 = 0 by decide +kernel]
    exact Nat.zero_le _
  | x :: r, h => by
    have h1 := h x List.mem_cons_self
    have h2 := sum_bits r fun z hz => h z (List.mem_cons_of_mem _ hz)
    have h3 := intBits_add_le h1 h2
    rw [List.sum_cons, List.length_cons]
    omega
theorem abs_bits {x : Int} {m : Nat} (h : Builtin.Int.intBits x ≤ m) : Builtin.Int.intBits (absI x) ≤ m := by
  unfold absI
  split
  · exact intBits_neg_le h
  · exact h
theorem lwhole_bits {ns : List Int} (h : ∀ z ∈ ns, Builtin.Int.intBits z ≤ 1048576) : Builtin.Int.intBits (lwhole ns) ≤ 1048640 := by
  refine abs_bits (Nat.le_trans (sum_bits (ns.take 63) fun z hz => h z (List.mem_of_mem_take hz)) ?_)
  rw [List.length_take]
  omega
end Pw
namespace Pw
open PySem PySem.Spec PyProof.Rows L2 Evl
section
variable {K : PySem.W.Frag} {σ : L2.St} {H H' : Hp} {ta tb tc te te2 : TE} {x y z v : V} {D : Ends} {tz tu : TS}
/-- for i in reversed(range(n)) -/
theorem q_forRev {j : Nat} {n : Nat} (h : Ev te σ H (.int (n : Int))) (hn : n ≤ 100000) (Pv : Nat → L2.St → Hp → Prop) (h0 : ∀ H1, Ex H H1 → Pv 0 σ H1)
    (hs : ∀ (i : Nat) σ' H', i < n → Pv i σ' H' → tu { D with nx := Pv (i + 1), ct := Pv (i + 1), bk := tz D } (σ'.set j (some (.int ((n - 1 - i : Nat) : Int)))) H') (hd : ∀ σ' H', Pv n σ' H' → tz D σ' H') : tSeq (tFor (iRevR (tRg1 te)) (gName j) tu) tz D σ H :=
  h H (Ex.refl H) _ fun H1 e => ⟨(n : Int), rfl, by omega, by omega, by omega, by omega, by
    have e1 : ((n : Int) - 0).toNat = n := by omega
    rw [e1]
    refine for_rangeC (D := { D with nx := tz D }) (lo := 0 + (n : Int) - 1) (c := -1) (n := n) Pv (h0 H1 e) (fun i σ' H' hi p => ?_) hd
    have e2 : 0 + (n : Int) - 1 + ((i : Nat) : Int) * -1 = ((n - 1 - i : Nat) : Int) := by omega
    rw [e2]
    exact hs i σ' H' hi p⟩
/-- x[i] = e, x a name; what follows -/
theorem call_min3 {X : Cx} (hc : X.calm = true) : CallR X (.builtin "min") (fun xs H Q => ∃ i j k : Int, xs = [.int i, .int j, .int k] ∧ Q (.int (if j < i then (if k < j then k else j) else (if k < i then k else i))) H) := by
  intro pins s σ H xs us Q I r h
  obtain ⟨i, j, k, rfl, q⟩ := h
  cases r with
  | cons r1 r =>
    cases r with
    | cons r2 r =>
      cases r with
      | cons r3 r =>
        cases r
        obtain ⟨t1, rfl⟩ := r1
        obtain ⟨t2, rfl⟩ := r2
        obtain ⟨t3, rfl⟩ := r3
        refine min_three_ints (I.ok.hd hc) fun h' tk kk => ⟨_, H, I.kept kk, ?_, q⟩
        by_cases h1 : j < i
        · rw [if_pos h1, if_pos h1]
          by_cases h2 : k < j
          · rw [if_pos h2, if_pos h2]; exact ⟨_, rfl⟩
          · rw [if_neg h2, if_neg h2]; exact ⟨_, rfl⟩
        · rw [if_neg h1, if_neg h1]
          by_cases h2 : k < i
          · rw [if_pos h2, if_pos h2]; exact ⟨_, rfl⟩
          · rw [if_neg h2, if_neg h2]; exact ⟨_, rfl⟩
theorem min3_if {a b c : Nat} : (if (b : Int) < (a : Int) then (if (c : Int) < (b : Int) then (c : Int) else (b : Int)) else (if (c : Int) < (a : Int) then (c : Int) else (a : Int))) = ((min a (min b c) : Nat) : Int) := by
  split <;> split <;> omega
theorem rc_min3 {a b c : Nat} : RC (fun vs H Q => ∃ i j k : Int, vs = [V.int i, V.int j, V.int k] ∧ Q (.int (if j < i then (if k < j then k else j) else (if k < i then k else i))) H) [.int (a : Int), .int (b : Int), .int (c : Int)] H (.int ((min a (min b c) : Nat) : Int)) := fun H1 _ _ q => ⟨_, _, _, rfl, by
  rw [min3_if]
  exact q H1 (Ex.refl H1)⟩
end
end Pw

namespace Pw
open PySem PySem.Spec PyProof.Rows L2 LamX NdefX
/-! ### lambdas as tracked things -/
structure LM where
  qual : Str
  params : Arguments
  body : PySem.Expr
  scope : Scope
  cl : List (Str × Addr)
  c : Addr
abbrev LM.fd (L : LM) (pm ctv : Value) : FuncData := PySem.W.kla_fn "<lambda>" L.qual L.params L.body L.scope L.cl pm (.ref L.c) ctv
def LM.nf (L : LM) : NF := ⟨"<lambda>", L.qual, L.params, [], L.scope, L.cl, L.c⟩
def LamO (f : Addr) (L : LM) : HO := .ext fun h => ∃ (od : Option Addr) (sl : Array (Option Value)) (pm ctv : Value), h.get? f = some (⟨.type "function", od, .func (L.fd pm ctv), sl⟩ : Obj)
theorem lamO_at {P : Program} {w : World} {H : Hp} {h : Heap} {f : Addr} {L : LM} (hok : HOk P w H h) (e : H f = some (LamO f L)) : ∃ (od : Option Addr) (sl : Array (Option Value)) (pm ctv : Value), h.get? f = some (⟨.type "function", od, .func (L.fd pm ctv), sl⟩ : Obj) := by
  obtain ⟨z, _, _⟩ := hok f _ e
  exact z
theorem lamO_ne {f : Addr} {L : LM} (ps : Array Value) : LamO f L ≠ .tbl ps := fun z => by
  unfold LamO at z
  cases z
section
variable {X : Cx} {pins : List (Addr × Obj)} {σ : L2.St} {H : Hp} {s : Shared}
theorem inv_lam {L : LM} {o : Obj} {t' : Nat} {pm ctv : Value} (I : Inv X pins σ H s) (ho : o = { cls := .type "function", data := .func (L.fd pm ctv) }) :
    Inv X pins σ (upd H s.heap.objs.size (LamO s.heap.objs.size L)) { s with heap := s.heap.push o, toks := t' } := by
  subst ho
  refine I.laid (a := s.heap.objs.size) (fun b u e => Heap.get?_push_of_some _ e) (Nat.le_refl _) ?_
  have e : (s.heap.push ({ cls := .type "function", data := .func (L.fd pm ctv) } : Obj)).get? s.heap.objs.size = some ({ cls := .type "function", data := .func (L.fd pm ctv) } : Obj) := Heap.get?_push_size _ rfl
  exact ⟨⟨_, _, pm, ctv, e⟩, ⟨_, e⟩, fun h1 h2 ⟨od, sl, p, t, z⟩ st => ⟨od, sl, p, t, st _ z⟩⟩
theorem tabs_upd {T : List (Addr × Str)} {H : Hp} {f : Addr} {o : HO} (t : Tabs T H) (hf : H f = none) : Tabs T (upd H f o) := t.ext fun b u e => by
  rw [upd_ne (ne_of_none e hf)]
  exact e
/-- a lambda is made and known from now on -/
theorem lam_makeT {T : List (Addr × Str)} {c P : Addr} {params : Arguments} {body : PySem.Expr} {scope : Scope} {pos : Pos} {E : Value → Shared → Prop} {Q : Value → Shared → Prop} (I : Inv X pins σ H s) (TB : TabB X.base X.mg c P) (hcode : X.env.code = .ref c)
    (hm : (P, X.env.qual ++ "<lambda>") ∈ T) (hu : ∀ p ∈ T, p.1 = P → p.2 = X.env.qual ++ "<lambda>") (hT : Tabs T H) (hdef : defaultsOf params X.env = ([], [])) (hfree : ∀ y ∈ scope.names, y.2 = .free → ∃ c, X.env.cells.lookup y.1 = some c)
    (h : ∀ (f c' : Addr) (H1 : Hp) (s' : Shared), Inv X pins σ H1 s' → ExtN H H1 → Tabs T H1 → H f = none → H1 f = some (LamO f ⟨X.env.qual ++ "<lambda>", params, body, scope, cloFrom X.env.cells scope.names [], c'⟩) → H1 c' = some (CodeO c' (X.env.qual ++ "<lambda>")) → Q (.ref f) s') :
    wpAny (model X.prog X.w) X.A (eval (.Lambda params body scope pos) X.env) Q E s := by
  obtain ⟨ps, hP, ht, ha⟩ := hT _ hm
  refine PySem.W.kla_eval hdef ?_
  have bP : s.heap.BuiltinsAt X.mg P := TB.bm.keeps I.bk
  have hP' : s.heap.get? P = some { cls := .none, data := .fields ps } := I.hok P _ hP
  cases hc : codeAmong pos ps.toList with
  | none =>
    refine PySem.W.kla_makeFunction (mg := X.mg) (c := c) (P := P) (ps := ps) (closure_ok hfree) I.ok.glob (I.mod.glob.keeps I.bk) hcode (TB.code.keeps I.bk) hP' ht hc TB.gP bP fun c' ctv h' tk hx hge hlt hrec htb => ?_
    obtain ⟨c2, oc, vs, t, e2, hoc, hd, hv⟩ := hrec
    cases e2
    have hsz : s.heap.objs.size ≤ h'.objs.size := Nat.le_trans hge (Nat.le_of_lt hlt)
    have nC : H c' = none := I.hok.fresh hge
    have I1 := inv_table (t' := tk) (more := #[rawInt pos.line, rawInt pos.col, .ref c']) (h' := h') I hP (fun b o hb e => hx b o hb e) htb hge ⟨oc, vs, t, hoc, hd, hv⟩
    have nF : upd (upd H P (.tbl (ps ++ #[rawInt pos.line, rawInt pos.col, .ref c']))) c' (CodeO c' (X.env.qual ++ "<lambda>")) h'.objs.size = none := I1.hok.fresh (Nat.le_refl _)
    have I2 := inv_lam (L := ⟨X.env.qual ++ "<lambda>", params, body, scope, cloFrom X.env.cells scope.names [], c'⟩) (t' := tk) (pm := (X.mg "__name__").getD .none) (ctv := ctv) I1 rfl
    have hE : ExtN H (upd (upd H P (.tbl (ps ++ #[rawInt pos.line, rawInt pos.col, .ref c']))) c' (CodeO c' (X.env.qual ++ "<lambda>"))) := fun b o e n => by
      rw [upd_ne (ne_of_none e nC), upd_ne (fun z => n ps (Option.some.inj (e.symm.trans (by rw [z]; exact hP))))]
      exact e
    have eL : (ps ++ #[rawInt pos.line, rawInt pos.col, .ref c']).toList = ps.toList ++ [rawInt pos.line, rawInt pos.col, .ref c'] := by simp
    have T1 : Tabs T (upd (upd H P (.tbl (ps ++ #[rawInt pos.line, rawInt pos.col, .ref c']))) c' (CodeO c' (X.env.qual ++ "<lambda>"))) := fun p hp => by
      by_cases hb : p.1 = P
      · rw [hu p hp hb, hb]
        refine ⟨_, by rw [upd_ne (ne_of_none hP nC), upd_same], by rw [eL]; exact PySem.TriplesOk_snoc _ _ _ _ ht, fun p' cv hcv => ?_⟩
        rw [eL] at hcv
        rcases among_app _ ht hcv with z | z
        · obtain ⟨c0, e1, e2⟩ := ha p' cv z
          exact ⟨c0, e1, hE _ _ e2 codeO_ne⟩
        · exact ⟨c', z, upd_same⟩
      · obtain ⟨ps', a1, a2, a3⟩ := hT p hp
        refine ⟨ps', by rw [upd_ne (ne_of_none a1 nC), upd_ne hb]; exact a1, a2, fun p' cv hcv => ?_⟩
        obtain ⟨c0, e1, e2⟩ := a3 p' cv hcv
        exact ⟨c0, e1, hE _ _ e2 codeO_ne⟩
    refine h h'.objs.size c' _ _ I2 (hE.trans (ExtN.of fun b o e => by rw [upd_ne (ne_of_none e nF)]; exact e)) (tabs_upd T1 nF) (I.hok.fresh hsz) upd_same ?_
    rw [upd_ne (Nat.ne_of_lt hlt), upd_same]
  | some cv =>
    obtain ⟨c', e, hco⟩ := ha pos cv hc
    subst e
    refine PySem.W.kla_makeFunctionHit (mg := X.mg) (c := c) (P := P) (ps := ps) (closure_ok hfree) I.ok.glob (I.mod.glob.keeps I.bk) hcode (TB.code.keeps I.bk) hP' ht hc bP fun ctv h' tk hx hsz => ?_
    have I1 : Inv X pins σ H { s with heap := h', toks := tk } := I.kept hx
    have nF : H h'.objs.size = none := I1.hok.fresh (Nat.le_refl _)
    have I2 := inv_lam (L := ⟨X.env.qual ++ "<lambda>", params, body, scope, cloFrom X.env.cells scope.names [], c'⟩) (t' := tk) (pm := (X.mg "__name__").getD .none) (ctv := ctv) I1 rfl
    exact h h'.objs.size c' _ _ I2 (ExtN.of fun b o e => by rw [upd_ne (ne_of_none e nF)]; exact e) (tabs_upd hT nF) nF upd_same (by rw [upd_ne (ne_of_none hco nF)]; exact hco)
end
/-- the lambda as an expression -/
def tLamE (T : List (Addr × Str)) (mk : Addr → LM) : TE := fun σ H Q => Tabs T H ∧ ∀ (f c' : Addr) (H1 : Hp), ExtN H H1 → Tabs T H1 → H f = none → H1 f = some (LamO f (mk c')) → H1 c' = some (CodeO c' (mk c').qual) → Q (.ref f) H1
section
variable {X : Cx}
theorem pe_lam {T : List (Addr × Str)} {c P : Addr} {params : Arguments} {body : PySem.Expr} {scope : Scope} {pos : Pos} (TB : TabB X.base X.mg c P) (hcode : X.env.code = .ref c) (hm : (P, X.env.qual ++ "<lambda>") ∈ T) (hu : ∀ p ∈ T, p.1 = P → p.2 = X.env.qual ++ "<lambda>")
    (hfree : ∀ y ∈ scope.names, y.2 = .free → X.env.scope.names.lookup y.1 = some .cell ∨ X.env.scope.names.lookup y.1 = some .free) (hdef : defaultsOf params X.env = ([], []) := by rfl) :
    PE X (.Lambda params body scope pos) (tLamE T fun c' => ⟨X.env.qual ++ "<lambda>", params, body, scope, cloFrom X.env.cells scope.names [], c'⟩) := by
  refine ⟨fun pins s σ H Q I h => ?_⟩
  obtain ⟨hT, h⟩ := h
  exact lam_makeT I TB hcode hm hu hT hdef (fun y hy e => (hfree y hy e).elim (fun z => I.ok.has _ (.inl z)) fun z => I.ok.has _ (.inr z)) fun f c' H1 s' I1 eN T1 hf hL hC => ⟨.ref f, H1, I1, rfl, h f c' H1 eN T1 hf hL hC⟩
end
/-! ### what a lambda promises -/
structure LOk (P : Program) (w : World) (K : PySem.W.Frag) (mg : Str → Option Value) (base : Heap) (CX : CXT) (k : Nat) (f : Addr) (L : LM) (ps fr : List Str) (sp : List (Option V) → Sp) : Prop where
  len : ∀ ws vs H Q E, sp ws vs H Q E → vs.length = ps.length
  run : ∀ (A : Around) (outer : List Env) (s : Shared) (H : Hp) (us : List Value) (vs : List V) (ws : List (Option V)) (Q : VK) (E : XK), Room k A → Env0 P w K mg base A outer s H → H f = some (LamO f L) → H L.c = some (CodeO L.c L.qual) →
    CellsAt L.cl fr ws s.heap H → Vals vs us → sp ws vs H Q E → codeAny (model P w) A (.call (.ref f) ⟨us, []⟩) (CR CX outer P w H s Q E) s
section
variable {CX : CXT} {P : Program} {w : World} {K : PySem.W.Frag} {mg : Str → Option Value} {base : Heap} {N ps fr : List Str} {L : LM} {f : Addr} {k : Nat} {sp : List (Option V) → Sp}
theorem lok_of (S : NScope N ps fr L.scope) (hb : ∀ (pm ctv : Value) (us : List Value), us.length = ps.length → bindArgs (L.fd pm ctv) ⟨us, []⟩ = pure (ps.zip us)) (len : ∀ ws vs H Q E, sp ws vs H Q E → vs.length = ps.length)
    (hbody : ∀ (A : Around) (outer : List Env) (s : Shared) (H : Hp) (vs : List V) (ws : List (Option V)) (Q : VK) (E : XK), Room k (A.deeper (envF L.nf f s.heap.objs.size)) → ws.length = fr.length → sp ws vs H Q E →
      ∃ t, PE (ncx CX P w K mg base N L.nf f A outer s H E) L.body t ∧ t (startF N vs ws) H Q) : LOk P w K mg base CX (k + 1) f L ps fr sp := by
  refine ⟨len, fun A outer s H us vs ws Q E hr e0 hf hc C r hsp => ?_⟩
  have hl := len _ _ _ _ _ hsp
  have lim : s.heap.NoLimit := e0.mod.nolimit.keeps fun b o e => (e0.bs b o e).1
  obtain ⟨od, sl, pm, ctv, ho⟩ := lamO_at e0.hok hf
  refine PySem.W.kla_callFunE hr.depth ho rfl S.co S.gen rfl (codeO_at e0.hok hc) ?_
  rw [hb pm ctv us (by rw [← r.length]; exact hl)]
  refine wpAny_pure (wpAny_newFunctionEnv S.nocell (fun ⟨n, _⟩ hy => S.par n (List.of_mem_zip hy).1) (fun h₁ hns hsb => ⟨lim.fresh _ hsb, ?_⟩) S.kind)
  show codeAny _ _ (.expr L.body (envF L.nf f s.heap.objs.size)) _ _
  have kp : ∀ b o, s.heap.get? b = some o → h₁.get? b = some o := fun b o e => hsb.extBut b o (Nat.ne_of_lt (Heap.lt_size e)) (Heap.get?_push_of_some _ e)
  obtain ⟨t, ht, hq⟩ := hbody A outer s H vs ws Q E (hr.deeper _) C.len hsp
  have I : Inv (ncx CX P w K mg base N L.nf f A outer s H E) [] (startF N vs ws) H { s with heap := h₁, toks := s.toks + (ps.zip us).length } := inv_startN S hr.hd e0 hl r C hns kp
  refine PySem.W.kla_codeExpr (wpAny_mono (ht.run [] _ (startF N vs ws) H Q I hq) (fun v s' hs => ?_) fun e s' hs => hs)
  obtain ⟨w', H', J, rv, q⟩ := hs
  exact ⟨w', H', J.os, J.bare, J.base, J.hok, rv, q⟩
end
/-- what cells held they hold behind what doesn't touch them -/
theorem cells_later {cl : List (Str × Addr)} {fr : List Str} {ws : List (Option V)} {H0 H : Hp} {h0 h : Heap} {fs : List Addr} (C : CellsAt cl fr ws h0 H0) (U : Un fs [] H0 H h0 h) : CellsAt cl fr ws h H := by
  have kp : ∀ c v, H0 c = none → h0.IsCell c v → h.IsCell c v := fun c v n ⟨o, ho, hd⟩ => by
    by_cases m : c ∈ fs
    · obtain ⟨sl, e⟩ := U.slot c o ho n m (by simp)
      exact ⟨_, e, hd⟩
    · exact ⟨o, U.keep c o ho n m (by simp), hd⟩
  refine ⟨C.len, fun y c e => ?_, C.inj, fun i y e => ?_⟩
  · obtain ⟨n, v, z⟩ := C.all y c e
    refine ⟨?_, v, kp c v n z⟩
    obtain ⟨o, ho, _⟩ := z
    exact U.free c o ho n (by simp)
  · obtain ⟨c, hc, hv⟩ := C.has i y e
    refine ⟨c, hc, fun v ev => ?_⟩
    obtain ⟨u, r, z⟩ := hv v ev
    exact ⟨u, r, kp c _ (C.all y c hc).1 z⟩
end Pw
namespace Pw
open PySem PySem.Spec PyProof.Rows L2 LamX NdefX Evl
/-! ### a callee whose promise speaks of the entry state -/
structure FnT (P : Program) (w : World) (K : PySem.W.Frag) (mg : Str → Option Value) (base : Heap) (CX : CXT) (k : Nat) (f : Addr) (fd : FuncData) (ps : List Str) (sp : Shared → Sp) : Prop where
  len : ∀ s vs H Q E, sp s vs H Q E → vs.length = ps.length
  run : ∀ (A : Around) (outer : List Env) (s : Shared) (H : Hp) (args : Args) (us : List Value) (vs : List V) (Q : VK) (E : XK), Room k A → Env0 P w K mg base A outer s H → BindsTo s fd args (ps.zip us) → Vals vs us → sp s vs H Q E →
    codeAny (model P w) A (.call (.ref f) args) (CR CX outer P w H s Q E) s
structure CalT (P : Program) (w : World) (K : PySem.W.Frag) (mg : Str → Option Value) (base : Heap) (CX : CXT) (x : Str) (k : Nat) (ps : List Str) (sp : Shared → Sp) : Prop where
  ex : ∃ (f : Addr) (fd : FuncData), FnT P w K mg base CX k f fd ps sp ∧ mg x = some (.ref f) ∧ PySem.W.keepIn K (.ref f) = true ∧ Binds K fd ps []
section
variable {P : Program} {w : World} {K : PySem.W.Frag} {mg : Str → Option Value} {base : Heap}
theorem Dat.calT {x : Str} {st : Stmt} {N ps : List Str} {f : Addr} {fd : FuncData} {k : Nat} {sp : Shared → Sp} (D : Dat K mg x st ps f fd) (S : FnScope N ps (defScope st)) (len : ∀ s vs H Q E, sp s vs H Q E → vs.length = ps.length)
    (hbody : ∀ (cdv : Value) (A : Around) (outer : List Env) (s : Shared) (H : Hp) (vs : List V) (Q : VK) (E : XK), Room k (A.deeper (envOfC x (defScope st) s.heap.objs.size f cdv)) → sp s vs H Q E →
      ∃ t, PSs (cxOf CX0 P w K mg base N x (defScope st) f cdv A outer s H E).nox (defBody st) t ∧ t { nx := fun _ H' => Q .non H', rt := Q } (start N vs) H) : CalT P w K mg base CX0 x (k + 1) ps sp := by
  obtain ⟨⟨⟨oc, od, kV, doc, pm, an, cdv, ct, osl, rfl, lk, hcd⟩, kp⟩, g, b⟩ := D
  refine ⟨f, _, ⟨len, fun A outer s H args us vs Q E hr e0 hb r hsp => ?_⟩, g, kp, b⟩
  refine run_ofS (CX := CX0) lk hcd S hr e0 hb r (len _ _ _ _ _ hsp) fun hr' => ?_
  obtain ⟨t, ht, q⟩ := hbody cdv A outer s H vs Q E hr' hsp
  exact ⟨t, ht.nox, q⟩
end
def tCallT (X : Cx) (sp : Shared → Sp) (t : TA) : TE := fun σ H Q => t σ H fun vs H1 => ∀ s : Shared, (∀ (cl : List (Str × Addr)) (fr : List Str) (js : List Nat), (X.Ok → Caps X cl fr js) → CellsAt cl fr (js.map (slotAt σ)) s.heap H1) → sp s vs H1 Q E0
section
variable {X : Cx} {x : Str} {p pos : Pos} {e : PySem.Expr} {es : List PySem.Expr} {t : TA} {k : Nat} {ps : List Str}
theorem pe_cT {sp : Shared → Sp} (C : CalT X.prog X.w X.K X.mg X.base CX0 x k ps sp) (hr : Room k X.A) (ha : PA X (e :: es) t) (hg : Gl X x := by rfl) (hdb : (x == ("__debug__" : Str)) = false := by decide)
    (he : starEach (e :: es) X.env = (false, eval e X.env) :: starEach es X.env := by rfl) (hpl : (backTo pos (starEach es X.env)).any (·.1) = false := by rfl) :
    PE X (.Call (.Name x p) (e :: es) [] pos) (tCallT X sp t) := by
  obtain ⟨f, fd, F, hm, hk, hb⟩ := C.ex
  refine ⟨fun pins s σ H Q I h => ?_⟩
  refine wpAny_Call_Name_kw (ld_glob I hg hm ?_ hdb)
  refine PySem.W.callWith_K (h₀ := X.base) I.ok.mod.kin hk (thn (ha.run pos pins s σ H _ I h) fun us s1 ⟨vs, H1, I1, r, q⟩ => ⟨I1.kIn, ?_⟩) he hpl
  show wpAny _ _ (call (.ref f) us) _ _ _
  have h2 := q s1 fun cl fr js c => cells_of I1 (c I1.ok)
  have hl : us.length = ps.length := by rw [← r.length]; exact F.len _ _ _ _ _ h2
  have b := hb s1 us I1.kIn (by rw [List.append_nil]; exact hl)
  rw [List.append_nil] at b
  refine wpAny_call (codeAny_mono (F.run X.A X.stack s1 H1 ⟨us, []⟩ us vs Q E0 hr I1.env0 b r h2) fun r s' hq => ?_)
  cases r with
  | error e => exact (show False from hq).elim
  | ok fl =>
    cases fl with
    | ret u => exact I1.after hq
    | next => exact False.elim hq
    | brk => exact False.elim hq
    | cont => exact False.elim hq
/-- a lambda that a slot holds, asked -/
def tAsk (i : Nat) (f : Addr) (L : LM) (ws : List (Option V)) (sp : List (Option V) → Sp) (E : L2.St → XK) (t : TA) : TE := fun σ H Q => σ[i]? = some (some (.ref f)) ∧ H f = some (LamO f L) ∧
  t σ H fun vs H1 => H1 f = some (LamO f L) ∧ H1 L.c = some (CodeO L.c L.qual) ∧ sp ws vs H1 Q (E σ)
theorem pe_ask {CX : CXT} {L : LM} {f : Addr} {i : Nat} {fr : List Str} {ws : List (Option V)} {sp : List (Option V) → Sp} {E : L2.St → XK} (Fn : LOk X.prog X.w X.K X.mg X.base CX k f L ps fr sp) (C : CellsAt L.cl fr ws X.s_0.heap X.H_0) (hex : X.ex = []) (hr : Room k X.A) (hx : ∀ σ, PassesAt CX X σ (E σ))
    (hN : X.N[i]? = some x) (hv : Vis X.env.scope x) (ha : PA X (e :: es) t) (hd : (x == ("__debug__" : Str)) = false := by decide) (hcd : (x == ("__classdict__" : Str)) = false := by decide)
    (he : starEach (e :: es) X.env = (false, eval e X.env) :: starEach es X.env := by rfl) (hpl : (backTo pos (starEach es X.env)).any (·.1) = false := by rfl) :
    PE X (.Call (.Name x p) (e :: es) [] pos) (tAsk i f L ws sp E t) := by
  refine ⟨fun pins s σ H Q I h => ?_⟩
  obtain ⟨hs, hf, ht⟩ := h
  refine wpAny_Call_Name_kw (thn ((pe_var (pos := p) hN hv hd hcd).run pins s σ H (fun v H1 => v = .ref f ∧ H1 = H) I ⟨.ref f, hs, rfl, rfl⟩) fun u s1 ⟨v, H1, I1, r1, q1⟩ => ?_)
  obtain ⟨ev, eH⟩ := q1
  subst ev
  rw [eH] at I1
  obtain rfl : u = Value.ref f := r1
  have fnAt : ∀ {H : Hp} {s : Shared}, Inv X pins σ H s → H f = some (LamO f L) → PySem.W.FnAt f s.heap := fun {H s} I e => by
    obtain ⟨od, sl, pm, ctv, ho⟩ := lamO_at I.hok e
    exact ⟨_, od, _, sl, ho⟩
  refine PySem.W.callWith_F (first := []) (fnAt I1 hf) (thn (ha.run pos pins s1 σ H _ I1 ht) fun us s2 ⟨vs, H2, I2, r, h1, h2, q⟩ => ⟨fnAt I2 h1, ?_⟩) he hpl
  show wpAny _ _ (call (.ref f) us) _ _ _
  have U := I2.base
  rw [hex] at U
  refine wpAny_call (codeAny_mono (Fn.run X.A X.stack s2 H2 us vs ws Q (E σ) hr I2.env0 h1 h2 (cells_later C U) r q) fun r s' hq => ?_)
  cases r with
  | error e => exact hx σ pins H2 s2 e s' I2 hq
  | ok fl =>
    cases fl with
    | ret u => exact I2.after hq
    | next => exact False.elim hq
    | brk => exact False.elim hq
    | cont => exact False.elim hq
end
/-- in a lambda's body: a def that lets an exception out lets it out of the lambda -/
theorem lam_passes {P : Program} {w : World} {K : PySem.W.Frag} {mg : Str → Option Value} {base : Heap} {N : List Str} {F : NF} {f : Addr} {A : Around} {outer : List Env} {s : Shared} {H : Hp} {E : XK} (σ : L2.St) : PassesAt (L2N.CX P w) (ncx (L2N.CX P w) P w K mg base N F f A outer s H E) σ (WE (fun cls d _ H => E cls d H) σ) :=
  L2N.passAt (L2N.takes_of rfl rfl rfl rfl) σ
end Pw
namespace Pw
open PySem PySem.Spec PyProof.Rows L2 LamX NdefX Evl
/-- try: ask(..), a lambda asked -/
theorem q_trya {σ : L2.St} {H : Hp} {D : Ends} {tz : TS} {i : Nat} {f : Addr} {L : LM} {ws : List (Option V)} {sp : List (Option V) → Sp} {tA : TA} {vs : List V} {W : Ends → WX} (h : EvA tA σ H vs) (hs : σ[i]? = some (some (.ref f))) (hf : H f = some (LamO f L)) (hc : H L.c = some (CodeO L.c L.qual))
    (k : ∀ H1, Ex H H1 → sp ws vs H1 (fun _ H2 => tz D σ H2) (WE (W { D with nx := tz D }) σ)) :
    tSeq (fun D σ H => tDrop (tAsk i f L ws sp (WE (W D)) tA) D σ H) tz D σ H := ⟨hs, hf, h H (Ex.refl H) _ fun H1 e1 => ⟨e1 f _ hf, e1 _ _ hc, k H1 e1⟩⟩
end Pw
namespace Pw
open PySem PySem.Spec PyProof.Rows L2 LamX NdefX Evl
/-! ### a def that makes lambdas -/
structure DatC (K : PySem.W.Frag) (mg : Str → Option Value) (x : Str) (st : Stmt) (ps : List Str) (f : Addr) (fd : FuncData) (c : Addr) : Prop where
  ex : ∃ (oc : Value) (od : Option Addr) (kV doc pm : Value) (an : Option Addr) (ct : Value) (osl : Array (Option Value)),
    fd = PySem.W.fnOf x x (defArgs st) (defBody st) (defScope st) .none kV doc pm an (.ref c) ct ∧ K.lookup f = some ⟨oc, od, .func fd, osl⟩ ∧ PySem.W.codeIn K (.ref c) x = true
theorem DatC.ok {P : Program} {w : World} {K : PySem.W.Frag} {mg : Str → Option Value} {base : Heap} {x : Str} {st : Stmt} {N ps : List Str} {f c : Addr} {fd : FuncData} {k : Nat} {sp : Sp} (D : DatC K mg x st ps f fd c) (S : FnScope N ps (defScope st)) (len : ∀ vs H Q E, sp vs H Q E → vs.length = ps.length)
    (hbody : ∀ (A : Around) (outer : List Env) (s : Shared) (H : Hp) (vs : List V) (Q : VK) (E : XK), Room k (A.deeper (envOfC x (defScope st) s.heap.objs.size f (.ref c))) → sp vs H Q E →
      ∃ t, PSs (cxOf CX0 P w K mg base N x (defScope st) f (.ref c) A outer s H E).nox (defBody st) t ∧ t { nx := fun _ H' => Q .non H', rt := Q } (start N vs) H) : FnOk P w K mg base CX0 (k + 1) f fd ps sp := by
  obtain ⟨oc, od, kV, doc, pm, an, ct, osl, rfl, lk, hcd⟩ := D.ex
  refine fn_of lk hcd S len fun A outer s H vs Q E hr hsp => ?_
  obtain ⟨t, ht, q⟩ := hbody A outer s H vs Q E hr hsp
  exact ⟨t, ht.nox, q⟩
def freeB (names up : List (Str × NameKind)) : Bool := names.all fun y => !decide (y.2 = .free) || decide (up.lookup y.1 = some .cell) || decide (up.lookup y.1 = some .free)
theorem free_of {X : Cx} {sc scope : Scope} (e : X.env.scope = sc) (h : freeB scope.names sc.names = true) : ∀ y ∈ scope.names, y.2 = .free → X.env.scope.names.lookup y.1 = some .cell ∨ X.env.scope.names.lookup y.1 = some .free := fun y hy hf => by
  have z := List.all_eq_true.mp h y hy
  rw [e]
  simp only [Bool.or_eq_true, Bool.not_eq_true', decide_eq_false_iff_not, decide_eq_true_eq] at z
  rcases z with (z | z) | z
  · exact absurd hf z
  · exact .inl z
  · exact .inr z
/-- what isn't a table stays -/
theorem exn_lst {H H' : Hp} {a : Addr} {xs : List V} (e : ExtN H H') (h : H a = some (.lst xs)) : H' a = some (.lst xs) := e a _ h fun ps z => by cases z
theorem exn_l {K : PySem.W.Frag} {H H' : Hp} {a : Addr} {xs : List V} (e : ExtN H H') (h : SqL K H a xs) : SqL K H' a xs := by
  rcases h with (h | ⟨o, h⟩) | h
  · exact .inl (.inl (exn_lst e h))
  · exact .inl (.inr ⟨o, e a _ h fun ps z => by cases z⟩)
  · exact .inr h
/-- a list's address, of which R is known -/
def EvR (te : TE) (σ : L2.St) (H : Hp) (R : Addr → Hp → Prop) : Prop := ∀ H1, Ex H H1 → ∀ Q : VK, (∀ p H2, Ex H1 H2 → R p H2 → Q (.ref p) H2) → te σ H1 Q
section
variable {K : PySem.W.Frag} {σ : L2.St} {H H' : Hp} {ta tb tc te te2 t1 t2 t3 t4 ti : TE} {x y z v : V} {D : Ends} {tz tu : TS} {xs xs1 xs2 xs3 xs4 : List V}
theorem er_ofL (h : EvL te σ H xs) : EvR te σ H (fun p H2 => H2 p = some (.lst xs)) := fun H1 e _ q => h H1 e _ fun p H2 _ e2 hp => q p H2 e2 hp
theorem er_imp {R R' : Addr → Hp → Prop} (h : EvR te σ H R) (i : ∀ p H1, R p H1 → R' p H1) : EvR te σ H R' := fun H1 e _ q => h H1 e _ fun p H2 e2 hp => q p H2 e2 (i p H2 hp)
theorem er_pick4 {n : Nat} (h1 : EvL t1 σ H xs1) (h2 : EvL t2 σ H xs2) (h3 : EvL t3 σ H xs3) (h4 : EvL t4 σ H xs4) (hi : Ev ti σ H (.int (n : Int))) (hn : n < 4) :
    EvR (tOp (rIxL K) (tLst (tCons t1 (tCons t2 (tCons t3 (tCons t4 tNil))))) ti) σ H (fun p H2 => ∃ xs ∈ [xs1, xs2, xs3, xs4], H2 p = some (.lst xs)) := fun H0 e Q q =>
  h1 H0 e _ fun a1 H1 n1 e1 g1 => h2 H1 (e.trans e1) _ fun a2 H2 n2 e2 g2 => h3 H2 ((e.trans e1).trans e2) _ fun a3 H3 n3 e3 g3 => h4 H3 (((e.trans e1).trans e2).trans e3) _ fun a4 H4 n4 e4 g4 =>
    ⟨by show 4 ≤ sizeLine; decide, fun p hp => hi _ ((((e.trans e1).trans e2).trans e3).trans (e4.trans (Ex.new hp))) _ fun H5 e5 => by
      have hl : H5 p = some (.lst [.ref a1, .ref a2, .ref a3, .ref a4]) := e5 p _ upd_same
      have ee : Ex H4 H5 := (Ex.new hp).trans e5
      have E0 : Ex H0 H5 := (((e1.trans e2).trans e3).trans e4).trans ee
      match n, hn with
      | 0, _ => exact rv_ixL (v := .ref a1) (sq_of hl) rfl H5 (Ex.refl _) Q fun H6 e6 => q a1 H6 (E0.trans e6) ⟨xs1, by simp, e6 _ _ (ee _ _ (e4 _ _ (e3 _ _ (e2 _ _ g1))))⟩
      | 1, _ => exact rv_ixL (v := .ref a2) (sq_of hl) rfl H5 (Ex.refl _) Q fun H6 e6 => q a2 H6 (E0.trans e6) ⟨xs2, by simp, e6 _ _ (ee _ _ (e4 _ _ (e3 _ _ g2)))⟩
      | 2, _ => exact rv_ixL (v := .ref a3) (sq_of hl) rfl H5 (Ex.refl _) Q fun H6 e6 => q a3 H6 (E0.trans e6) ⟨xs3, by simp, e6 _ _ (ee _ _ (e4 _ _ g3))⟩
      | 3, _ => exact rv_ixL (v := .ref a4) (sq_of hl) rfl H5 (Ex.refl _) Q fun H6 e6 => q a4 H6 (E0.trans e6) ⟨xs4, by simp, e6 _ _ (ee _ _ g4)⟩⟩
/-- if not f(lambda, list): .. -/
theorem q_whenLam {X : Cx} {T : List (Addr × Str)} {mk : Addr → LM} {sp : Shared → Sp} {fr : List Str} {js : List Nat} {R : Addr → Hp → Prop} (hT : Tabs T H) (cp : ∀ c', X.Ok → Caps X (mk c').cl fr js) (hl : ∀ H1, ExtN H H1 → EvR te σ H1 R)
    (hs : ∀ (s : Shared) (f c' x : Addr) (H1 : Hp), CellsAt (mk c').cl fr (js.map (slotAt σ)) s.heap H1 → ExtN H H1 → H1 f = some (LamO f (mk c')) → H1 c' = some (CodeO c' (mk c').qual) → R x H1 → ∀ Q : VK, RetV (.bl true) H1 Q → sp s [.ref f, .ref x] H1 Q E0)
    (k : ∀ H2, ExtN H H2 → Tabs T H2 → tz D σ H2) :
    tSeq (tIfS (tNot (tB (tCallT X sp (tCons (tLamE T mk) (tCons te tNil))))) tu tNext) tz D σ H :=
  ⟨hT, fun f c' H1 e1 T1 _ hf hc => hl H1 e1 H1 (Ex.refl _) _ fun x H2 e2 hx s hC =>
    hs s f c' x H2 (hC _ fr js (cp c')) (e1.trans (ExtN.of e2)) (e2 _ _ hf) (e2 _ _ hc) hx _ fun H3 e3 => ⟨true, rfl, k H3 ((e1.trans (ExtN.of e2)).trans (ExtN.of e3)) (T1.ext fun b o z => e3 b o (e2 b o z))⟩⟩
theorem s_whenLam {X : Cx} {T : List (Addr × Str)} {mk : Addr → LM} {sp : Shared → Sp} {fr : List Str} {js : List Nat} {R : Addr → Hp → Prop} (hT : Tabs T H) (cp : ∀ c', X.Ok → Caps X (mk c').cl fr js) (hl : ∀ H1, ExtN H H1 → EvR te σ H1 R)
    (hs : ∀ (s : Shared) (f c' x : Addr) (H1 : Hp), CellsAt (mk c').cl fr (js.map (slotAt σ)) s.heap H1 → ExtN H H1 → H1 f = some (LamO f (mk c')) → H1 c' = some (CodeO c' (mk c').qual) → R x H1 → ∀ Q : VK, RetV (.bl true) H1 Q → sp s [.ref f, .ref x] H1 Q E0)
    (k : ∀ H2, ExtN H H2 → Tabs T H2 → D.nx σ H2) :
    tIfS (tNot (tB (tCallT X sp (tCons (tLamE T mk) (tCons te tNil))))) tu tNext D σ H :=
  ⟨hT, fun f c' H1 e1 T1 _ hf hc => hl H1 e1 H1 (Ex.refl _) _ fun x H2 e2 hx s hC =>
    hs s f c' x H2 (hC _ fr js (cp c')) (e1.trans (ExtN.of e2)) (e2 _ _ hf) (e2 _ _ hc) hx _ fun H3 e3 => ⟨true, rfl, k H3 ((e1.trans (ExtN.of e2)).trans (ExtN.of e3)) (T1.ext fun b o z => e3 b o (e2 b o z))⟩⟩
theorem el_slL {tl th : TO} {lo hi : Option Int} (h : EvL te σ H xs) (h1 : EvO tl σ H lo) (h2 : EvO th σ H hi) : EvL (tSl (rSlL K) te tl th) σ H (cutV xs lo hi) := fun H1 e _ q =>
  h H1 e _ fun a H2 n2 e2 ha => h1 H2 (e.trans e2) _ fun H3 e3 => h2 H3 ((e.trans e2).trans e3) _ fun H4 e4 =>
    ⟨a, xs, rfl, sq_of (e4 _ _ (e3 _ _ ha)), fun p hp => q p _ (fresh_back ((e2.trans e3).trans e4) hp) (((e2.trans e3).trans e4).trans (Ex.new hp)) upd_same⟩
/-- a, b = e, e2 by a tuple -/
theorem q_asgTII {i j : Nat} (h1 : Ev te σ H x) (h2 : Ev te2 σ H y) (k : ∀ H1, Ex H H1 → tz D ((σ.set i (some x)).set j (some y)) H1) :
    tSeq (tAsg (tTup (tCons te (tCons te2 tNil))) (gTup K 2 (gCons (gName i) (gCons (gName j) gNil)))) tz D σ H :=
  h1 H (Ex.refl H) _ fun H1 e1 => h2 H1 e1 _ fun H2 e2 => ⟨by show 2 ≤ sizeLine; decide, fun t ht => ⟨t, _, rfl, st_of upd_same, rfl, x, _, rfl, y, _, rfl, rfl, k _ ((e1.trans e2).trans (Ex.new ht))⟩⟩
end
end Pw
namespace Pw
open PySem PySem.Spec PyProof.Rows L2 LamX NdefX Evl
/-- the table of one def's lambdas -/
def TTof (x : Str) (PP : Addr) : List (Addr × Str) := [(PP, x ++ ".<locals>." ++ "<lambda>")]
theorem tt_mem {x : Str} {PP : Addr} : (PP, x ++ ".<locals>." ++ "<lambda>") ∈ TTof x PP := List.mem_singleton.mpr rfl
theorem tt_uni {x : Str} {PP : Addr} : ∀ p ∈ TTof x PP, p.1 = PP → p.2 = x ++ ".<locals>." ++ "<lambda>" := fun p hp _ => by
  rw [List.mem_singleton.mp hp]
theorem tt_start {x : Str} {PP : Addr} {H : Hp} (h : H PP = some (.tbl #[])) : Tabs (TTof x PP) H := fun p hp => by
  rw [List.mem_singleton.mp hp]
  exact ⟨#[], h, trivial, fun pos cv hcv => by cases hcv⟩
theorem any_falses {n : Nat} : ((List.range n).map fun _ => false).any id = false := by
  rw [List.any_eq_false]
  intro x hx
  obtain ⟨_, _, rfl⟩ := List.mem_map.mp hx
  exact Bool.false_ne_true
end Pw
namespace Pw
open PySem PySem.Spec PyProof.Rows L2 Evl
local macro_rules | `(tactic| walk_at "sq") => `(tactic| first | assumption | exact sq_of (by assumption) | exact ex_l (by assumption) (by assumption) | exact ex_l (by assumption) (sq_of (by assumption)) | exact st_of (by assumption))
local macro_rules | `(tactic| walk_at "cond") => `(tactic| first | assumption | decide | (show (0 : Int) < _; omega) | (show (0 : Int) < _ ∧ _ < (1073741824 : Int); constructor <;> omega) | exact mul_l (by constructor <;> omega) | exact mul_r (by constructor <;> omega))
local macro_rules | `(tactic| walk_at "rv") => `(tactic| first | exact rv_I0 | exact rv_I (by walk_at "cond") | exact rv_eq rfl | exact rv_ne rfl | exact rv_eqL (by walk_at "sq") (by walk_at "sq") | exact rv_neL (by walk_at "sq") (by walk_at "sq") | exact rv_at (by walk_at "sq") (by omega) (by omega))
local macro_rules | `(tactic| walk_at "rc") => `(tactic| first | exact rc_lenI (by walk_at "sq") | exact rc_len (by walk_at "sq") | exact rc_minN | exact rc_min | exact rc_abs | exact rc_isi_int (by decide +kernel) | exact rc_isi_bl (by decide +kernel) | exact rc_isi_lst (by assumption) (by decide +kernel) | exact rc_sum (by walk_at "sq") | exact rc_all (by walk_at "sq") | exact rc_any (by walk_at "sq"))
local macro_rules | `(tactic| walk_at "ev") => `(tactic| first
  | exact ev_var rfl | exact ev_c | assumption | exact ea_nil
  | (refine' ea_cons ?a ?b; (case a => walk_at "ev"); (case b => walk_at "ev"))
  | (refine' ev_op ?a ?b ?c; (case a => walk_at "ev"); (case b => walk_at "ev"); (case c => walk_at "rv"))
  | (refine' ev_un ?a ?b; (case a => walk_at "ev"); (case b => exact ru_neg))
  | (refine' ev_cb ?a ?b; (case a => walk_at "ev"); (case b => walk_at "rc"))
  | (refine' ev_call ?a ?b; (case a => walk_at "ev"); (case b => walk_at "spv")))
local macro_rules | `(tactic| walk_at "et") => `(tactic| first
  | (refine' et_test ?a; (case a => walk_at "ev"))
  | (refine' et_B ?a; (case a => walk_at "ev"))
  | (refine' et_not ?a; (case a => walk_at "et")))
def topS (i : Nat) : Stmt := PySem.Challenge.pw_powerrows_k02_whole_inside.main.body.getD i (.Pass ⟨0, 0, 0, 0⟩)
abbrev s_is_number : Stmt := topS 9
abbrev nm_is_number : List Str := ["thing"]
theorem sc_is_number : FnScope nm_is_number ["thing"] (defScope s_is_number) := ⟨rfl, rfl, rfl, by decide +kernel, rfl, by decide +kernel, by decide +kernel⟩
abbrev s_is_within : Stmt := topS 10
abbrev nm_is_within : List Str := ["thing", "least", "most"]
theorem sc_is_within : FnScope nm_is_within ["thing", "least", "most"] (defScope s_is_within) := ⟨rfl, rfl, rfl, by decide +kernel, rfl, by decide +kernel, by decide +kernel⟩
abbrev s_is_rest : Stmt := topS 11
abbrev nm_is_rest : List Str := ["prime", "thing"]
theorem sc_is_rest : FnScope nm_is_rest ["prime", "thing"] (defScope s_is_rest) := ⟨rfl, rfl, rfl, by decide +kernel, rfl, by decide +kernel, by decide +kernel⟩
abbrev s_are_rests : Stmt := topS 12
abbrev nm_are_rests : List Str := ["prime", "thing", "least", "most", "rest"]
theorem sc_are_rests : FnScope nm_are_rests ["prime", "thing", "least", "most"] (defScope s_are_rests) := ⟨rfl, rfl, rfl, by decide +kernel, rfl, by decide +kernel, by decide +kernel⟩
abbrev s_need_prime : Stmt := topS 13
abbrev nm_need_prime : List Str := ["prime"]
theorem sc_need_prime : FnScope nm_need_prime ["prime"] (defScope s_need_prime) := ⟨rfl, rfl, rfl, by decide +kernel, rfl, by decide +kernel, by decide +kernel⟩
abbrev s_need_row : Stmt := topS 14
abbrev nm_need_row : List Str := ["prime", "row"]
theorem sc_need_row : FnScope nm_need_row ["prime", "row"] (defScope s_need_row) := ⟨rfl, rfl, rfl, by decide +kernel, rfl, by decide +kernel, by decide +kernel⟩
abbrev s_need_prime_and_rows : Stmt := topS 15
abbrev nm_need_prime_and_rows : List Str := ["prime", "one", "other"]
theorem sc_need_prime_and_rows : FnScope nm_need_prime_and_rows ["prime", "one", "other"] (defScope s_need_prime_and_rows) := ⟨rfl, rfl, rfl, by decide +kernel, rfl, by decide +kernel, by decide +kernel⟩
abbrev s_inverse : Stmt := topS 16
abbrev nm_inverse : List Str := ["prime", "rest", "told", "turn"]
theorem sc_inverse : FnScope nm_inverse ["prime", "rest"] (defScope s_inverse) := ⟨rfl, rfl, rfl, by decide +kernel, rfl, by decide +kernel, by decide +kernel⟩
abbrev s_product : Stmt := topS 18
abbrev nm_product : List Str := ["prime", "one", "other", "many", "place"]
theorem sc_product : FnScope nm_product ["prime", "one", "other"] (defScope s_product) := ⟨rfl, rfl, rfl, by decide +kernel, rfl, by decide +kernel, by decide +kernel⟩
abbrev s_product_place : Stmt := topS 19
abbrev nm_product_place : List Str := ["one", "other", "place", "first"]
theorem sc_product_place : FnScope nm_product_place ["one", "other", "place"] (defScope s_product_place) := ⟨rfl, rfl, rfl, by decide +kernel, rfl, by decide +kernel, by decide +kernel⟩
abbrev s_put_in : Stmt := topS 21
abbrev nm_put_in : List Str := ["prime", "outer", "inner", "many", "told", "place"]
theorem sc_put_in : FnScope nm_put_in ["prime", "outer", "inner"] (defScope s_put_in) := ⟨rfl, rfl, rfl, by decide +kernel, rfl, by decide +kernel, by decide +kernel⟩
abbrev s_turned_out : Stmt := topS 22
abbrev nm_turned_out : List Str := ["prime", "row"]
theorem sc_turned_out : FnScope nm_turned_out ["prime", "row"] (defScope s_turned_out) := ⟨rfl, rfl, rfl, by decide +kernel, rfl, by decide +kernel, by decide +kernel⟩
abbrev s_solved : Stmt := topS 23
abbrev nm_solved : List Str := ["prime", "row", "missing", "power", "turned", "place", "share", "lack", "rest"]
theorem sc_solved : FnScope nm_solved ["prime", "row"] (defScope s_solved) := ⟨rfl, rfl, rfl, by decide +kernel, rfl, by decide +kernel, by decide +kernel⟩
abbrev s_law_number : Stmt := topS 25
abbrev nm_law_number : List Str := ["_law_cell", "_law_at", "_law_whole", "_law_blend", "_law_more"]
theorem sc_law_number : FnScope nm_law_number ["_law_cell", "_law_at", "_law_whole"] (defScope s_law_number) := ⟨rfl, rfl, rfl, by decide +kernel, rfl, by decide +kernel, by decide +kernel⟩
abbrev s_law_prime : Stmt := topS 26
abbrev nm_law_prime : List Str := ["_law_script", "_law_by", "_law_primes", "_law_whole"]
theorem sc_law_prime : FnScope nm_law_prime ["_law_script", "_law_by"] (defScope s_law_prime) := ⟨rfl, rfl, rfl, by decide +kernel, rfl, by decide +kernel, by decide +kernel⟩
abbrev s_law_row : Stmt := topS 27
abbrev nm_law_row : List Str := ["_law_script", "_law_by", "_law_prime_here", "_law_most", "_law_cells", "_law_whole", "_law_found", "_law_at", "_law_number_here", "_law_rest"]
theorem sc_law_row : FnScope nm_law_row ["_law_script", "_law_by", "_law_prime_here", "_law_most"] (defScope s_law_row) := ⟨rfl, rfl, rfl, by decide +kernel, rfl, by decide +kernel, by decide +kernel⟩
abbrev s_law_times : Stmt := topS 28
abbrev nm_law_times : List Str := ["_law_prime_here", "_law_one", "_law_other", "_law_many", "_law_found", "_law_at", "_law_far", "_law_here"]
theorem sc_law_times : FnScope nm_law_times ["_law_prime_here", "_law_one", "_law_other"] (defScope s_law_times) := ⟨rfl, rfl, rfl, by decide +kernel, rfl, by decide +kernel, by decide +kernel⟩
abbrev s_law_put : Stmt := topS 29
abbrev nm_law_put : List Str := ["_law_prime_here", "_law_outer", "_law_inner", "_law_many", "_law_found", "_law_here", "_law_at", "_law_mine", "_law_theirs"]
theorem sc_law_put : FnScope nm_law_put ["_law_prime_here", "_law_outer", "_law_inner"] (defScope s_law_put) := ⟨rfl, rfl, rfl, by decide +kernel, rfl, by decide +kernel, by decide +kernel⟩
abbrev s_law_none : Stmt := topS 30
abbrev nm_law_none : List Str := ["_law_ask", "_law_what", "error", "_law_wrong"]
theorem sc_law_none : FnScope nm_law_none ["_law_ask", "_law_what"] (defScope s_law_none) := ⟨rfl, rfl, rfl, by decide +kernel, rfl, by decide +kernel, by decide +kernel⟩
abbrev s_law_out_right : Stmt := topS 31
abbrev nm_law_out_right : List Str := ["_law_prime_here", "_law_row_here", "_law_plain", "_law_handed", "_law_again", "_law_back"]
theorem sc_law_out_right : FnScope nm_law_out_right ["_law_prime_here", "_law_row_here"] (defScope s_law_out_right) := ⟨rfl, rfl, rfl, by decide +kernel, rfl, by decide +kernel, by decide +kernel⟩
abbrev s_law : Stmt := topS 32
abbrev nm_law : List Str := ["_law_script", "_law_whole", "_law_by", "_law_prime_here", "_law_most", "_law_outer", "_law_inner", "_law_far", "_law_handed", "_law_mine", "_law_again", "_law_found", "_law_one", "_law_many", "_law_once"]
theorem sc_law : FnScope nm_law ["_law_script"] (defScope s_law) := ⟨rfl, rfl, rfl, by decide +kernel, rfl, by decide +kernel, by decide +kernel⟩
structure Blt (K : PySem.W.Frag) (mg : Str → Option Value) (a_PRIMES : Addr) (t_MOST_CUT : Tok) (a_PowerError : Addr) (a_BadPrime : Addr) (a_BadRow : Addr) (a_NoPart : Addr) (a_NoInside : Addr) : Prop where
  abs : mg "abs" = none
  all : mg "all" = none
  any : mg "any" = none
  bool : mg "bool" = none
  int : mg "int" = none
  isinstance : mg "isinstance" = none
  len : mg "len" = none
  list : mg "list" = none
  min : mg "min" = none
  range : mg "range" = none
  reversed : mg "reversed" = none
  sum : mg "sum" = none
  zip : mg "zip" = none
  PRIMES : mg "PRIMES" = some (.ref a_PRIMES)
  PRIMES_T : ∀ H : Hp, SqT K H a_PRIMES [V.int 2, V.int 3, V.int 5, V.int 7, V.int 11, V.int 13, V.int 17, V.int 19, V.int 23, V.int 29, V.int 31, V.int 37, V.int 41, V.int 43, V.int 47, V.int 53, V.int 59, V.int 61, V.int 67, V.int 71, V.int 73, V.int 79, V.int 83, V.int 89, V.int 97]
  MOST_CUT : mg "MOST_CUT" = some (.int 20 t_MOST_CUT)
  PowerError : mg "PowerError" = some (.ref a_PowerError)
  PowerError_k : PySem.W.keepIn K (.ref a_PowerError) = true
  BadPrime : mg "BadPrime" = some (.ref a_BadPrime)
  BadPrime_k : PySem.W.keepIn K (.ref a_BadPrime) = true
  BadRow : mg "BadRow" = some (.ref a_BadRow)
  BadRow_k : PySem.W.keepIn K (.ref a_BadRow) = true
  NoPart : mg "NoPart" = some (.ref a_NoPart)
  NoPart_k : PySem.W.keepIn K (.ref a_NoPart) = true
  NoInside : mg "NoInside" = some (.ref a_NoInside)
  NoInside_k : PySem.W.keepIn K (.ref a_NoInside) = true
section
variable {P : Program} {w : World} {K : PySem.W.Frag} {mg : Str → Option Value} {base : Heap}
/-! ### is_number -/
def spIsNumber : Sp := fun vs H Q _ => ∃ i : Int, vs = [.int i] ∧ RetV (.bl true) H Q
theorem ok_is_number {f : Addr} {fd : FuncData} (D : Dat K mg "is_number" s_is_number ["thing"] f fd) {a_PRIMES : Addr} {t_MOST_CUT : Tok} {a_PowerError : Addr} {a_BadPrime : Addr} {a_BadRow : Addr} {a_NoPart : Addr} {a_NoInside : Addr} (B : Blt K mg a_PRIMES t_MOST_CUT a_PowerError a_BadPrime a_BadRow a_NoPart a_NoInside) : Cal P w K mg base CX0 "is_number" 1 ["thing"] spIsNumber := by
  refine D.cal (D.F.ok sc_is_number (fun vs H Q E h => ?_) (fun cdv A outer s H vs Q E hr h => ?_))
  · obtain ⟨i, rfl, _⟩ := h
    rfl
  · obtain ⟨i, rfl, q⟩ := h
    refine ⟨_, (pss_one (ps_ret (pe_and (pe_callB (r := rIsi K) call_isi (by rfl) B.isinstance (by decide +kernel) (pa_cons (pv 0) (pa_cons (pe_bltn (v := .ty "int") (by rfl) B.int (by decide +kernel) rfl) pa_nil))) (pe_one (pe_not (pe_callB (r := rIsi K) call_isi (by rfl) B.isinstance (by decide +kernel) (pa_cons (pv 0) (pa_cons (pe_bltn (v := .ty "bool") (by rfl) B.bool (by decide +kernel) rfl) pa_nil)))))))), ?_⟩
    exact s_ret (ev_andV (a := true) (b := true) (ev_cb (ea_cons (ev_var rfl) (ea_cons ev_c ea_nil)) (rc_isi_int (by decide +kernel))) fun _ => ev_notV (a := false) (ev_cb (ea_cons (ev_var rfl) (ea_cons ev_c ea_nil)) (rc_isi_int (by decide +kernel)))) fun H1 e => q H1 e

/-! ### is_within -/
def spIsWithin : Sp := fun vs H Q _ => ∃ i lo hi : Int, vs = [.int i, .int lo, .int hi] ∧ RetV (.bl (decide (lo ≤ i) && decide (i ≤ hi))) H Q
theorem spv_is_number {H : Hp} {i : Int} : SpV spIsNumber [.int i] H (.bl true) := fun H1 e Q q E => ⟨i, rfl, q⟩
theorem ok_is_within {f : Addr} {fd : FuncData} (D : Dat K mg "is_within" s_is_within ["thing", "least", "most"] f fd) {a_PRIMES : Addr} {t_MOST_CUT : Tok} {a_PowerError : Addr} {a_BadPrime : Addr} {a_BadRow : Addr} {a_NoPart : Addr} {a_NoInside : Addr} (B : Blt K mg a_PRIMES t_MOST_CUT a_PowerError a_BadPrime a_BadRow a_NoPart a_NoInside) (C_is_number : Cal P w K mg base CX0 "is_number" 1 ["thing"] spIsNumber) : Cal P w K mg base CX0 "is_within" 2 ["thing", "least", "most"] spIsWithin := by
  refine D.cal (D.F.ok sc_is_within (fun vs H Q E h => ?_) (fun cdv A outer s H vs Q E hr h => ?_))
  · obtain ⟨p, i, j, rfl, _⟩ := h
    rfl
  · obtain ⟨i, lo, hi, rfl, q⟩ := h
    refine ⟨_, (pss_one (ps_ret (pe_and (pe_c0 C_is_number (hr.mono (by decide)) (pa_cons (pv 0) pa_nil)) (pe_one (pe_chain op_le op_le (pv 1) (pv 0) (pv 2)))))), ?_⟩
    exact s_ret (ev_andV (a := true) (ev_call (ea_cons (ev_var rfl) ea_nil) spv_is_number) fun _ => ev_chain (ev_var rfl) (ev_var rfl) rv_I0 (fun _ => ev_var rfl) (fun _ => rv_I0)) fun H1 e => q H1 e
theorem spv_is_within {H : Hp} {i lo hi : Int} : SpV spIsWithin [.int i, .int lo, .int hi] H (.bl (decide (lo ≤ i) && decide (i ≤ hi))) := fun H1 e Q q E => ⟨i, lo, hi, rfl, q⟩

/-! ### is_rest -/
def spIsRest : Sp := fun vs H Q _ => ∃ p i : Int, vs = [.int p, .int i] ∧ RetV (.bl (decide (0 ≤ i) && decide (i < p))) H Q
theorem ok_is_rest {f : Addr} {fd : FuncData} (D : Dat K mg "is_rest" s_is_rest ["prime", "thing"] f fd) {a_PRIMES : Addr} {t_MOST_CUT : Tok} {a_PowerError : Addr} {a_BadPrime : Addr} {a_BadRow : Addr} {a_NoPart : Addr} {a_NoInside : Addr} (B : Blt K mg a_PRIMES t_MOST_CUT a_PowerError a_BadPrime a_BadRow a_NoPart a_NoInside) (C_is_within : Cal P w K mg base CX0 "is_within" 2 ["thing", "least", "most"] spIsWithin) : Cal P w K mg base CX0 "is_rest" 3 ["prime", "thing"] spIsRest := by
  refine D.cal (D.F.ok sc_is_rest (fun vs H Q E h => ?_) (fun cdv A outer s H vs Q E hr h => ?_))
  · obtain ⟨p, i, rfl, _⟩ := h
    rfl
  · obtain ⟨p, i, rfl, q⟩ := h
    refine ⟨_, (pss_one (ps_ret (pe_c0 C_is_within (hr.mono (by decide)) (pa_cons (pv 1) (pa_cons pe_int (pa_cons (pe_op op_sub (pv 0) pe_int) pa_nil)))))), ?_⟩
    refine s_ret (ev_is (ev_call (ea_cons (ev_var rfl) (ea_cons ev_c (ea_cons (ev_op (ev_var rfl) ev_c rv_I0) ea_nil))) spv_is_within) ?_) fun H1 e => q H1 e
    rw [show decide (i ≤ p - 1) = decide (i < p) from decide_eq_decide.mpr (by omega)]
theorem spv_is_rest {H : Hp} {p i : Int} : SpV spIsRest [.int p, .int i] H (.bl (decide (0 ≤ i) && decide (i < p))) := fun H1 e Q q E => ⟨p, i, rfl, q⟩

/-! ### are_rests, of rests -/
def spAreRestsOk : Sp := fun vs H Q _ => ∃ (p lo hi : Int) (a : Addr) (xs : List Int), vs = [.int p, .ref a, .int lo, .int hi] ∧ H a = some (.lst (xs.map V.int)) ∧ (lo ≤ xs.length ∧ (xs.length : Int) ≤ hi ∧ hi ≤ 1000) ∧ (∀ x ∈ xs, 0 ≤ x ∧ x < p) ∧ RetV (.bl true) H Q
theorem ok_are_rests {f : Addr} {fd : FuncData} (D : Dat K mg "are_rests" s_are_rests ["prime", "thing", "least", "most"] f fd) {a_PRIMES : Addr} {t_MOST_CUT : Tok} {a_PowerError : Addr} {a_BadPrime : Addr} {a_BadRow : Addr} {a_NoPart : Addr} {a_NoInside : Addr} (B : Blt K mg a_PRIMES t_MOST_CUT a_PowerError a_BadPrime a_BadRow a_NoPart a_NoInside) (C_is_rest : Cal P w K mg base CX0 "is_rest" 3 ["prime", "thing"] spIsRest) : Cal P w K mg base CX0 "are_rests" 4 ["prime", "thing", "least", "most"] spAreRestsOk := by
  refine D.cal (D.F.ok sc_are_rests (fun vs H Q E h => ?_) (fun cdv A outer s H vs Q E hr h => ?_))
  · obtain ⟨p, lo, hi, a, xs, rfl, _⟩ := h
    rfl
  · obtain ⟨p, lo, hi, a, xs, rfl, ha, hl, hx, q⟩ := h
    refine ⟨_, (pss_cons (ps_if (PW.pt (pw_or (pt_not (pt_val (pe_callB (r := rIsi K) call_isi (by rfl) B.isinstance (by decide +kernel) (pa_cons (pv 1) (pa_cons (pe_bltn (v := .ty "list") (by rfl) B.list (by decide +kernel) rfl) pa_nil))))) (pw_or1 (pt_not (pt_chain op_le op_le (pv 2) (pe_callB (r := rLenS K) call_len_seq (by rfl) B.len PySem.boot_len (pa_cons (pv 1) pa_nil)) (pv 3)))))) (pss_one (ps_ret pe_bl)) pss_nil)
    (pss_one (ps_ret (pe_callB (r := rAll K) (cr_all rfl) (by rfl) B.all (by decide +kernel) (pa_cons (pe_lc (own := [("rest", 4)]) (g := gName 4) (tt := tYes) (by rfl) sc_are_rests.nd (pi_list (pv 1)) (blkOk_by (N := nm_are_rests) (sc := defScope s_are_rests) (by decide +kernel)) (fun _ _ _ _ _ => pg_name (i := 4) sc_are_rests.nd rfl (Or.inl rfl)) (fun _ _ _ _ _ => pts_nil) (fun _ _ _ _ _ => (pe_c0 C_is_rest (hr.mono (by decide)) (pa_cons (pv 0) (pa_cons (pv 4) pa_nil))))) pa_nil))))), ?_⟩
    refine q_when (b := false) (et_or (a := false) (b := false) (et_not (a := true) (et_B (ev_cb (by walk_at "ev") (rc_isi_lst ha (by decide +kernel))))) fun _ => et_not (a := true) (et_test (ev_is (ev_chain (ev_var rfl) (ev_cb (by walk_at "ev") (rc_len (sq_of ha))) rv_I0 (fun _ => ev_var rfl) (fun _ => rv_I0)) ?_))) (fun z => Bool.noConfusion z) fun _ H1 e1 => ?_
    · rw [List.length_map, decide_eq_true (by omega), decide_eq_true (by omega)]
      rfl
    · refine s_ret (ev_cbL (el_mapL (ns := xs) (fun _ => V.bl true) (ev_var rfl) (sq_of (e1 a _ ha)) (by omega) (fun _ => rfl) fun i H2 e2 hi => ?_) fun p2 H2 h2 e2 => ?_) fun H3 e3 => q H3 (e1.trans e3)
      · have r := hx _ (sq_mem hi)
        refine ev_is (ev_call (by walk_at "ev") spv_is_rest) ?_
        rw [decide_eq_true r.1, decide_eq_true r.2]
        rfl
      · rw [map_map_bl (f := fun _ => true)] at h2
        have g := rc_all (K := K) (sq_of h2)
        rw [all_true] at g
        exact g
theorem spv_are_rests_ok {H : Hp} {p lo hi : Int} {a : Addr} {xs : List Int} (ha : H a = some (.lst (xs.map V.int))) (hl : lo ≤ xs.length ∧ (xs.length : Int) ≤ hi ∧ hi ≤ 1000) (hx : ∀ x ∈ xs, 0 ≤ x ∧ x < p) : SpV spAreRestsOk [.int p, .ref a, .int lo, .int hi] H (.bl true) := fun H1 e Q q E => ⟨p, lo, hi, a, xs, rfl, e a _ ha, hl, hx, q⟩

/-! ### need_prime, of a prime -/
def spNeedPrime : Sp := fun vs H Q _ => ∃ p : Int, vs = [.int p] ∧ Prm p ∧ RetV .non H Q
theorem prm_in {p : Int} (h : Prm p) : inV (.int p) (primes.map V.int) = true := by
  unfold inV
  rw [List.any_eq_true]
  refine ⟨.int p, List.mem_map.mpr ⟨p, h, rfl⟩, ?_⟩
  show (p == p) = true
  exact beq_self_eq_true p
theorem ok_need_prime {f : Addr} {fd : FuncData} (D : Dat K mg "need_prime" s_need_prime ["prime"] f fd) {a_PRIMES : Addr} {t_MOST_CUT : Tok} {a_PowerError : Addr} {a_BadPrime : Addr} {a_BadRow : Addr} {a_NoPart : Addr} {a_NoInside : Addr} (B : Blt K mg a_PRIMES t_MOST_CUT a_PowerError a_BadPrime a_BadRow a_NoPart a_NoInside) (C_is_number : Cal P w K mg base CX0 "is_number" 1 ["thing"] spIsNumber) : Cal P w K mg base CX0 "need_prime" 2 ["prime"] spNeedPrime := by
  refine D.cal (D.F.ok sc_need_prime (fun vs H Q E h => ?_) (fun cdv A outer s H vs Q E hr h => ?_))
  · obtain ⟨p, rfl, _⟩ := h
    rfl
  · obtain ⟨p, rfl, hp, q⟩ := h
    refine ⟨_, (pss_one (ps_if (PW.pt (pw_or (pt_not (pt_val (pe_c0 C_is_number (hr.mono (by decide)) (pa_cons (pv 0) pa_nil)))) (pw_or1 (pt_cmpR (r := rIn K true) op_notIn_seq (pv 0) (pe_glob (v := .ref a_PRIMES) rfl B.PRIMES rfl) rfl)))) (pss_one ps_never) pss_nil)), ?_⟩
    refine s_when (b := false) (et_or (a := false) (b := false) (et_not (a := true) (et_B (ev_call (by walk_at "ev") spv_is_number))) fun _ => et_test (ev_is (ev_op (ev_var rfl) ev_c (rv_niT (B.PRIMES_T H) rfl rfl)) ?_)) (fun z => Bool.noConfusion z) fun _ H1 e1 => q H1 e1
    show V.bl (!inV (.int p) (primes.map V.int)) = V.bl false
    rw [prm_in hp]
    rfl
theorem spv_need_prime {H : Hp} {p : Int} (hp : Prm p) : SpV spNeedPrime [.int p] H .non := fun H1 e Q q E => ⟨p, rfl, hp, q⟩

/-! ### need_row, of a row; need_prime_and_rows -/
def spNeedRow : Sp := fun vs H Q _ => ∃ (p : Int) (a : Addr) (xs : List Int), vs = [.int p, .ref a] ∧ H a = some (.lst (xs.map V.int)) ∧ Rowp p xs ∧ RetV .non H Q
theorem ok_need_row {f : Addr} {fd : FuncData} (D : Dat K mg "need_row" s_need_row ["prime", "row"] f fd) {a_PRIMES : Addr} {t_MOST_CUT : Tok} {a_PowerError : Addr} {a_BadPrime : Addr} {a_BadRow : Addr} {a_NoPart : Addr} {a_NoInside : Addr} (B : Blt K mg a_PRIMES t_MOST_CUT a_PowerError a_BadPrime a_BadRow a_NoPart a_NoInside) (C_are_rests : Cal P w K mg base CX0 "are_rests" 4 ["prime", "thing", "least", "most"] spAreRestsOk) : Cal P w K mg base CX0 "need_row" 5 ["prime", "row"] spNeedRow := by
  refine D.cal (D.F.ok sc_need_row (fun vs H Q E h => ?_) (fun cdv A outer s H vs Q E hr h => ?_))
  · obtain ⟨p, a, xs, rfl, _⟩ := h
    rfl
  · obtain ⟨p, a, xs, rfl, ha, R, q⟩ := h
    have l1 := R.lo
    have l2 := R.hi
    refine ⟨_, (pss_one (ps_if (pt_not (pt_val (pe_c0 C_are_rests (hr.mono (by decide)) (pa_cons (pv 0) (pa_cons (pv 1) (pa_cons pe_int (pa_cons (pe_glob (v := .int 20) rfl B.MOST_CUT ⟨_, rfl⟩) pa_nil))))))) (pss_one ps_never) pss_nil)), ?_⟩
    exact s_when (b := false) (et_not (a := true) (et_B (ev_call (by walk_at "ev") (spv_are_rests_ok (lo := 1) (hi := 20) ha (by omega) R.rest)))) (fun z => Bool.noConfusion z) fun _ H1 e1 => q H1 e1
theorem spv_need_row {H : Hp} {p : Int} {a : Addr} {xs : List Int} (ha : H a = some (.lst (xs.map V.int))) (R : Rowp p xs) : SpV spNeedRow [.int p, .ref a] H .non := fun H1 e Q q E => ⟨p, a, xs, rfl, e a _ ha, R, q⟩

/-! ### need_prime_and_rows -/
def spNeedBoth : Sp := fun vs H Q _ => ∃ (p : Int) (a b : Addr) (xs ys : List Int), vs = [.int p, .ref a, .ref b] ∧ Prm p ∧ H a = some (.lst (xs.map V.int)) ∧ H b = some (.lst (ys.map V.int)) ∧ Rowp p xs ∧ Rowp p ys ∧ RetV .non H Q
theorem ok_need_prime_and_rows {f : Addr} {fd : FuncData} (D : Dat K mg "need_prime_and_rows" s_need_prime_and_rows ["prime", "one", "other"] f fd) {a_PRIMES : Addr} {t_MOST_CUT : Tok} {a_PowerError : Addr} {a_BadPrime : Addr} {a_BadRow : Addr} {a_NoPart : Addr} {a_NoInside : Addr} (B : Blt K mg a_PRIMES t_MOST_CUT a_PowerError a_BadPrime a_BadRow a_NoPart a_NoInside) (C_need_prime : Cal P w K mg base CX0 "need_prime" 2 ["prime"] spNeedPrime) (C_need_row : Cal P w K mg base CX0 "need_row" 5 ["prime", "row"] spNeedRow) : Cal P w K mg base CX0 "need_prime_and_rows" 6 ["prime", "one", "other"] spNeedBoth := by
  refine D.cal (D.F.ok sc_need_prime_and_rows (fun vs H Q E h => ?_) (fun cdv A outer s H vs Q E hr h => ?_))
  · obtain ⟨p, a, b, xs, ys, rfl, _⟩ := h
    rfl
  · obtain ⟨p, a, b, xs, ys, rfl, hp, ha, hb, R1, R2, q⟩ := h
    refine ⟨_, (pss_cons (ps_expr (pe_c0 C_need_prime (hr.mono (by decide)) (pa_cons (pv 0) pa_nil)))
    (pss_cons (ps_expr (pe_c0 C_need_row (hr.mono (by decide)) (pa_cons (pv 0) (pa_cons (pv 1) pa_nil))))
    (pss_one (ps_expr (pe_c0 C_need_row (hr.mono (by decide)) (pa_cons (pv 0) (pa_cons (pv 2) pa_nil))))))), ?_⟩
    exact q_drop (ev_call (by walk_at "ev") (spv_need_prime hp)) fun H1 e1 => q_drop (ev_call (by walk_at "ev") (spv_need_row (e1 a _ ha) R1)) fun H2 e2 => s_drop (ev_call (by walk_at "ev") (spv_need_row ((e1.trans e2) b _ hb) R2)) fun H3 e3 => q H3 ((e1.trans e2).trans e3)
theorem spv_need_both {H : Hp} {p : Int} {a b : Addr} {xs ys : List Int} (hp : Prm p) (ha : H a = some (.lst (xs.map V.int))) (hb : H b = some (.lst (ys.map V.int))) (R1 : Rowp p xs) (R2 : Rowp p ys) : SpV spNeedBoth [.int p, .ref a, .ref b] H .non := fun H1 e Q q E => ⟨p, a, b, xs, ys, rfl, hp, e a _ ha, e b _ hb, R1, R2, q⟩

/-! ### product_place, product -/
def spPlace (K : PySem.W.Frag) : Sp := fun vs H Q _ => ∃ (a b : Addr) (xs ys : List Int) (n : Nat), vs = [.ref a, .ref b, .int (n : Int)] ∧ SqL K H a (xs.map V.int) ∧ SqL K H b (ys.map V.int) ∧ Sml xs ∧ n < xs.length ∧ n < ys.length ∧ n ≤ 1000 ∧ RetV (.int (cv (sq xs) (sq ys) n)) H Q
theorem ok_product_place {f : Addr} {fd : FuncData} (D : Dat K mg "product_place" s_product_place ["one", "other", "place"] f fd) {a_PRIMES : Addr} {t_MOST_CUT : Tok} {a_PowerError : Addr} {a_BadPrime : Addr} {a_BadRow : Addr} {a_NoPart : Addr} {a_NoInside : Addr} (B : Blt K mg a_PRIMES t_MOST_CUT a_PowerError a_BadPrime a_BadRow a_NoPart a_NoInside) : Cal P w K mg base CX0 "product_place" 1 ["one", "other", "place"] (spPlace K) := by
  refine D.cal (D.F.ok sc_product_place (fun vs H Q E h => ?_) (fun cdv A outer s H vs Q E hr h => ?_))
  · obtain ⟨a, b, xs, ys, n, rfl, _⟩ := h
    rfl
  · obtain ⟨a, b, xs, ys, n, rfl, ha, hb, hs, hx, hy, hn, q⟩ := h
    refine ⟨_, (pss_one (ps_ret (pe_callB (r := rSum K) (cr_sum rfl) (by rfl) B.sum (by decide +kernel) (pa_cons (pe_lc (own := [("first", 3)]) (g := gName 3) (tt := tYes) (by rfl) sc_product_place.nd (pi_range1 rfl B.range (pa_cons (pe_op op_add (pv 2) pe_int) pa_nil)) (blkOk_by (N := nm_product_place) (sc := defScope s_product_place) (by decide +kernel)) (fun _ _ _ _ _ => pg_name (i := 3) sc_product_place.nd rfl (Or.inl rfl)) (fun _ _ _ _ _ => pts_nil) (fun _ _ _ _ _ => (pe_op op_mulV (pe_ix (r := rIxL K) ix_list (pv 0) (pv 3) (fun _ _ => rfl)) (pe_ix (r := rIxL K) ix_list (pv 1) (pe_op op_sub (pv 2) (pv 3)) (fun _ _ => rfl))))) pa_nil)))), ?_⟩
    refine s_ret (ev_cbL (el_int (el_mapR (n := ((n + 1 : Nat) : Int)) (fun i => V.int (sq xs i * sq ys (n - i))) (by walk_at "ev") (by omega) (fun _ => rfl) fun i H1 e1 hi => ?_)) fun p H2 h2 e2 => ?_) fun H3 e3 => q H3 e3
    · have ha1 := ex_l e1 ha
      have hb1 := ex_l e1 hb
      have hs1 := hs.at i
      exact ev_op (ev_op (ev_var rfl) (ev_var rfl) (rv_at ha1 rfl (by omega))) (ev_op (ev_var rfl) (by walk_at "ev") (rv_at hb1 (n := n - i) (by omega) (by omega))) (rv_I (by walk_at "cond"))
    · have g := rc_sum (K := K) (sq_of h2)
      rw [show ((n + 1 : Nat) : Int).toNat = n + 1 by omega, sum_cv] at g
      exact g
theorem spv_place {H : Hp} {a b : Addr} {xs ys : List Int} {n : Nat} (ha : SqL K H a (xs.map V.int)) (hb : SqL K H b (ys.map V.int)) (hs : Sml xs) (hx : n < xs.length) (hy : n < ys.length) (hn : n ≤ 1000) : SpV (spPlace K) [.ref a, .ref b, .int (n : Int)] H (.int (cv (sq xs) (sq ys) n)) :=
  fun H1 e Q q E => ⟨a, b, xs, ys, n, rfl, ex_l e ha, ex_l e hb, hs, hx, hy, hn, q⟩
def spProduct (K : PySem.W.Frag) : Sp := fun vs H Q _ => ∃ (p : Int) (a b : Addr) (xs ys : List Int), vs = [.int p, .ref a, .ref b] ∧ 0 < p ∧ SqL K H a (xs.map V.int) ∧ SqL K H b (ys.map V.int) ∧ Sml xs ∧ xs.length ≤ 1000 ∧ RetL ((prodL p xs ys).map V.int) H Q
theorem ok_product {f : Addr} {fd : FuncData} (D : Dat K mg "product" s_product ["prime", "one", "other"] f fd) {a_PRIMES : Addr} {t_MOST_CUT : Tok} {a_PowerError : Addr} {a_BadPrime : Addr} {a_BadRow : Addr} {a_NoPart : Addr} {a_NoInside : Addr} (B : Blt K mg a_PRIMES t_MOST_CUT a_PowerError a_BadPrime a_BadRow a_NoPart a_NoInside) (C_product_place : Cal P w K mg base CX0 "product_place" 1 ["one", "other", "place"] (spPlace K)) : Cal P w K mg base CX0 "product" 2 ["prime", "one", "other"] (spProduct K) := by
  refine D.cal (D.F.ok sc_product (fun vs H Q E h => ?_) (fun cdv A outer s H vs Q E hr h => ?_))
  · obtain ⟨p, a, b, xs, ys, rfl, _⟩ := h
    rfl
  · obtain ⟨p, a, b, xs, ys, rfl, hp, ha, hb, hs, hx, q⟩ := h
    refine ⟨_, (pss_cons (ps_set (i := 3) sc_product.nd rfl (Or.inl rfl) (pe_callB (call_min2 rfl) (by rfl) B.min (by decide +kernel) (pa_cons (pe_callB (r := rLenS K) call_len_seq (by rfl) B.len PySem.boot_len (pa_cons (pv 1) pa_nil)) (pa_cons (pe_callB (r := rLenS K) call_len_seq (by rfl) B.len PySem.boot_len (pa_cons (pv 2) pa_nil)) pa_nil))))
    (pss_one (ps_ret (pe_lc (own := [("place", 4)]) (g := gName 4) (tt := tYes) (by rfl) sc_product.nd (pi_range1 rfl B.range (pa_cons (pv 3) pa_nil)) (blkOk_by (N := nm_product) (sc := defScope s_product) (by decide +kernel)) (fun _ _ _ _ _ => pg_name (i := 4) sc_product.nd rfl (Or.inl rfl)) (fun _ _ _ _ _ => pts_nil) (fun _ _ _ _ _ => (pe_op op_mod (pe_c0 C_product_place (hr.mono (by decide)) (pa_cons (pv 1) (pa_cons (pv 2) (pa_cons (pv 4) pa_nil)))) (pv 0))))))), ?_⟩
    refine q_asg (v := .int ((min xs.length ys.length : Nat) : Int)) (by walk_at "ev") fun H1 e1 => ?_
    refine s_retL (el_int (el_mapR (n := ((min xs.length ys.length : Nat) : Int)) (fun i => V.int (cv (sq xs) (sq ys) i % p)) (by walk_at "ev") (by omega) (fun _ => rfl) fun i H2 e2 hi => ?_)) fun p3 H3 h3 e3 h4 => ?_
    · exact ev_op (ev_call (by walk_at "ev") (spv_place (n := i) (xs := xs) (ys := ys) (ex_l (e1.trans e2) ha) (ex_l (e1.trans e2) hb) hs (by omega) (by omega) (by omega))) (ev_var rfl) (rv_I (by walk_at "cond"))
    · exact q.go e1 h3 e3 h4
theorem spl_product {H : Hp} {p : Int} {a b : Addr} {xs ys : List Int} (hp : 0 < p) (ha : SqL K H a (xs.map V.int)) (hb : SqL K H b (ys.map V.int)) (hs : Sml xs) (hx : xs.length ≤ 1000) : SpL (spProduct K) [.int p, .ref a, .ref b] H ((prodL p xs ys).map V.int) :=
  fun H1 e Q q E => ⟨p, a, b, xs, ys, rfl, hp, ex_l e ha, ex_l e hb, hs, hx, q⟩

/-! ### inverse -/
def spInverse : Sp := fun vs H Q _ => ∃ (p r : Int), vs = [.int p, .int r] ∧ Prm p ∧ 0 ≤ r ∧ r < p ∧ RetV (.int (inv p r)) H Q
theorem powm_rest {p r : Int} (hp : 2 ≤ p) (n : Nat) : 0 ≤ powm p r n ∧ powm p r n < p := by
  cases n with
  | zero => exact ⟨by show (0 : Int) ≤ 1; decide, by show (1 : Int) < p; omega⟩
  | succ n => exact ⟨Int.emod_nonneg _ (by omega), Int.emod_lt_of_pos _ (by omega)⟩
theorem ok_inverse {f : Addr} {fd : FuncData} (D : Dat K mg "inverse" s_inverse ["prime", "rest"] f fd) {a_PRIMES : Addr} {t_MOST_CUT : Tok} {a_PowerError : Addr} {a_BadPrime : Addr} {a_BadRow : Addr} {a_NoPart : Addr} {a_NoInside : Addr} (B : Blt K mg a_PRIMES t_MOST_CUT a_PowerError a_BadPrime a_BadRow a_NoPart a_NoInside) : Cal P w K mg base CX0 "inverse" 1 ["prime", "rest"] spInverse := by
  refine D.cal (D.F.ok sc_inverse (fun vs H Q E h => ?_) (fun cdv A outer s H vs Q E hr h => ?_))
  · obtain ⟨p, r, rfl, _⟩ := h
    rfl
  · obtain ⟨p, r, rfl, hp, h0, h1, q⟩ := h
    have p2 := hp.pos
    refine ⟨_, (pss_cons (ps_set (i := 2) sc_inverse.nd rfl (Or.inl rfl) pe_int)
    (pss_cons (ps_for PassesOwn.never rfl (pi_range1 rfl B.range (pa_cons (pe_op op_sub (pv 0) pe_int) pa_nil)) (pg_name (i := 3) sc_inverse.nd rfl (Or.inl rfl)) (pss_one (ps_set (i := 2) sc_inverse.nd rfl (Or.inl rfl) (pe_op op_mod (pe_op op_mulV (pv 2) (pv 1)) (pv 0)))))
    (pss_one (ps_ret (pv 2))))), ?_⟩
    refine q_asg (v := .int 1) ev_c fun H1 e1 => ?_
    refine q_forR1 (n := p - 2) (by walk_at "ev") (by omega) (fun i σ' H' => ∃ z, σ' = [some (.int p), some (.int r), some (.int (powm p r i)), z] ∧ Ex H H') (fun H2 e2 => ⟨none, rfl, e1.trans e2⟩) (fun i σ' H' hi hP => ?_) fun σ' H' hP => ?_
    · obtain ⟨z, rfl, e⟩ := hP
      have b := powm_rest (r := r) p2.1 i
      refine s_asg (v := .int (powm p r (i + 1))) (ev_op (ev_op (ev_var rfl) (ev_var rfl) (rv_I (mul_l (by omega)))) (ev_var rfl) (rv_I (by walk_at "cond"))) fun H3 e3 => ?_
      exact ⟨_, rfl, e.trans e3⟩
    · obtain ⟨z, rfl, e⟩ := hP
      exact s_ret (ev_var rfl) fun H3 e3 => q H3 (e.trans e3)
theorem spv_inverse {H : Hp} {p r : Int} (hp : Prm p) (h0 : 0 ≤ r) (h1 : r < p) : SpV spInverse [.int p, .int r] H (.int (inv p r)) := fun H1 e Q q E => ⟨p, r, rfl, hp, h0, h1, q⟩

/-! ### put_in -/
def spPutIn : Sp := fun vs H Q _ => ∃ (p : Int) (a b : Addr) (xs ys : List Int), vs = [.int p, .ref a, .ref b] ∧ Prm p ∧ H a = some (.lst (xs.map V.int)) ∧ H b = some (.lst (ys.map V.int)) ∧ Rowp p xs ∧ Rowp p ys ∧ sq ys 0 = 0 ∧ RetL ((putL p xs ys).map V.int) H Q
theorem ok_put_in {f : Addr} {fd : FuncData} (D : Dat K mg "put_in" s_put_in ["prime", "outer", "inner"] f fd) {a_PRIMES : Addr} {t_MOST_CUT : Tok} {a_PowerError : Addr} {a_BadPrime : Addr} {a_BadRow : Addr} {a_NoPart : Addr} {a_NoInside : Addr} (B : Blt K mg a_PRIMES t_MOST_CUT a_PowerError a_BadPrime a_BadRow a_NoPart a_NoInside) (C_need_prime_and_rows : Cal P w K mg base CX0 "need_prime_and_rows" 6 ["prime", "one", "other"] spNeedBoth) (C_product : Cal P w K mg base CX0 "product" 2 ["prime", "one", "other"] (spProduct K)) : Cal P w K mg base CX0 "put_in" 10 ["prime", "outer", "inner"] spPutIn := by
  refine D.cal (D.F.ok sc_put_in (fun vs H Q E h => ?_) (fun cdv A outer s H vs Q E hr h => ?_))
  · obtain ⟨p, a, b, xs, ys, rfl, _⟩ := h
    rfl
  · obtain ⟨p, a, b, xs, ys, rfl, hp, ha, hb, R1, R2, h0, q⟩ := h
    have p2 := hp.pos
    have l1 := R1.lo
    have l2 := R2.lo
    have u1 := R1.hi
    refine ⟨_, (pss_cons (ps_expr (pe_c0 C_need_prime_and_rows (hr.mono (by decide)) (pa_cons (pv 0) (pa_cons (pv 1) (pa_cons (pv 2) pa_nil)))))
    (pss_cons (ps_if (pt_cmpR op_ne (pe_ix (r := rIxL K) ix_list (pv 2) pe_int (fun _ _ => rfl)) pe_int (nomark _)) (pss_one ps_never) pss_nil)
    (pss_cons (ps_set (i := 3) sc_put_in.nd rfl (Or.inl rfl) (pe_callB (call_min2 rfl) (by rfl) B.min (by decide +kernel) (pa_cons (pe_callB (r := rLenS K) call_len_seq (by rfl) B.len PySem.boot_len (pa_cons (pv 1) pa_nil)) (pa_cons (pe_callB (r := rLenS K) call_len_seq (by rfl) B.len PySem.boot_len (pa_cons (pv 2) pa_nil)) pa_nil))))
    (pss_cons (ps_set (i := 4) sc_put_in.nd rfl (Or.inl rfl) (pe_op op_rep (pe_lst (pa_cons pe_int pa_nil)) (pv 3)))
    (pss_cons (ps_for PassesOwn.never rfl (pi_revR (by rfl) B.reversed (prg_1 (by rfl) B.range (pv 3))) (pg_name (i := 5) sc_put_in.nd rfl (Or.inl rfl)) (pss_cons (ps_set (i := 4) sc_put_in.nd rfl (Or.inl rfl) (pe_c0 C_product (hr.mono (by decide)) (pa_cons (pv 0) (pa_cons (pv 4) (pa_cons (pv 2) pa_nil)))))
    (pss_one (ps_asg (pe_op op_mod (pe_op op_add (pe_ix (r := rIxL K) ix_list (pv 4) pe_int (fun _ _ => rfl)) (pe_ix (r := rIxL K) ix_list (pv 1) (pv 5) (fun _ _ => rfl))) (pv 0)) (pg_sub (pv 4) pe_int set_list)))))
    (pss_one (ps_ret (pv 4)))))))), ?_⟩
    refine q_drop (ev_call (by walk_at "ev") (spv_need_both hp ha hb R1 R2)) fun H1 e1 => ?_
    refine q_when (b := false) (et_test (ev_is (ev_op (ev_op (ev_var rfl) ev_c (rv_at (ns := ys) (sq_of (e1 b _ hb)) (n := 0) rfl (by omega))) ev_c (rv_ne rfl)) ?_)) (fun z => Bool.noConfusion z) fun _ H2 e2 => ?_
    · rw [h0, decide_eq_true rfl]
      rfl
    have e12 := e1.trans e2
    generalize hN : min xs.length ys.length = N
    refine q_asg (v := .int (N : Int)) (by
      rw [← hN]
      exact ev_cb (ea_cons (ev_cb (by walk_at "ev") (rc_lenI (sq_of (e12 a _ ha)))) (ea_cons (ev_cb (by walk_at "ev") (rc_lenI (sq_of (e12 b _ hb)))) ea_nil)) rc_minN) fun H3 e3 => ?_
    refine q_asgL (xs := (hornL p (sq xs) (sq ys) N 0).map V.int) (el_is (el_rep (n := (N : Int)) (el_lst (ea_cons ev_c ea_nil) (by decide)) (ev_var rfl) (by omega) rfl) ?_) fun t H4 nt e4 ht => ?_
    · rw [Int.toNat_natCast, rep_one, horn_zero, List.map_replicate]
    have e14 := (e12.trans e3).trans e4
    have nt0 : H t = none := fresh_back (e12.trans e3) nt
    have hl : ∀ m, (hornL p (sq xs) (sq ys) N m).length = N := fun m => by
      unfold hornL
      rw [List.length_map, List.length_range]
    have hs : ∀ m, Sml (hornL p (sq xs) (sq ys) N m) := fun m x hx => by
      unfold hornL at hx
      obtain ⟨i, _, rfl⟩ := List.mem_map.mp hx
      have r1 := Int.emod_nonneg (com m (shn (sq xs) (N - m)) (sq ys) i) (show p ≠ 0 by omega)
      have r2 := Int.emod_lt_of_pos (com m (shn (sq xs) (N - m)) (sq ys) i) (show 0 < p by omega)
      omega
    refine q_forRev (n := N) (ev_var rfl) (by omega) (fun m σ' H' => ∃ t z, σ' = [some (.int p), some (.ref a), some (.ref b), some (.int (N : Int)), some (.ref t), z] ∧ Ex H H' ∧ H t = none ∧ H' t = some (.lst ((hornL p (sq xs) (sq ys) N m).map V.int)))
      (fun H5 e5 => ⟨t, _, rfl, e14.trans e5, nt0, e5 t _ ht⟩) (fun m σ' H' hm hP => ?_) fun σ' H' hP => ?_
    · obtain ⟨t, z, rfl, e, nt0, ht⟩ := hP
      refine q_asgL (xs := (prodL p (hornL p (sq xs) (sq ys) N m) ys).map V.int) (el_call (by walk_at "ev") (spl_product (p := p) (xs := hornL p (sq xs) (sq ys) N m) (ys := ys) (by omega) (sq_of ht) (sq_of (e b _ hb)) (hs m) (by rw [hl]; omega))) fun t2 H5 n5 e5 h5 => ?_
      have l5 : (prodL p (hornL p (sq xs) (sq ys) N m) ys).length = N := by
        rw [prodL_len, hl]
        omega
      refine s_setL (j := 0) (v := .int ((sq (prodL p (hornL p (sq xs) (sq ys) N m) ys) 0 + sq xs (N - (m + 1))) % p)) h5 (ev_op (ev_op (ev_op (ev_var rfl) ev_c (rv_at (sq_of h5) (n := 0) rfl (by omega))) (ev_op (ev_var rfl) (ev_var rfl) (rv_at (sq_of (e5 a _ (e a _ ha))) (n := N - (m + 1)) (by omega) (by omega))) rv_I0) (ev_var rfl) (rv_I (by walk_at "cond"))) (ev_var rfl) ev_c (by rw [List.length_map, l5]; omega) fun H6 e6 => ?_
      refine ⟨t2, _, rfl, Ex.mut ((e.trans e5).trans e6) (fresh_back e n5), fresh_back e n5, ?_⟩
      rw [upd_same, ← horn_step (p := p) (f := sq xs) (ys := ys) hm (by omega)]
      congr 2
      exact (List.map_set ..).symm
    · obtain ⟨t, z, rfl, e, nt0, ht⟩ := hP
      rw [← hN, horn_end h0] at ht
      exact s_ret (ev_var rfl) fun H5 e5 => q t H5 nt0 (e.trans e5) (e5 t _ ht)
theorem spl_put_in {H : Hp} {p : Int} {a b : Addr} {xs ys : List Int} (hp : Prm p) (ha : H a = some (.lst (xs.map V.int))) (hb : H b = some (.lst (ys.map V.int))) (R1 : Rowp p xs) (R2 : Rowp p ys) (h0 : sq ys 0 = 0) : SpL spPutIn [.int p, .ref a, .ref b] H ((putL p xs ys).map V.int) :=
  fun H1 e Q q E => ⟨p, a, b, xs, ys, rfl, hp, e a _ ha, e b _ hb, R1, R2, h0, q⟩
/-! ### put_in, where it can't be -/
def spPutInX (C : Addr) : Sp := fun vs H Q E => ∃ (p : Int) (a b : Addr) (xs ys : List Int), vs = [.int p, .ref a, .ref b] ∧ Prm p ∧ H a = some (.lst (xs.map V.int)) ∧ H b = some (.lst (ys.map V.int)) ∧ Rowp p xs ∧ Rowp p ys ∧ sq ys 0 ≠ 0 ∧ ∀ H1, Ex H H1 → E (.ref C) none H1
theorem ok_put_in_x {f : Addr} {fd : FuncData} (D : Dat K mg "put_in" s_put_in ["prime", "outer", "inner"] f fd) {a_PRIMES : Addr} {t_MOST_CUT : Tok} {a_PowerError : Addr} {a_BadPrime : Addr} {a_BadRow : Addr} {a_NoPart : Addr} {a_NoInside : Addr} (B : Blt K mg a_PRIMES t_MOST_CUT a_PowerError a_BadPrime a_BadRow a_NoPart a_NoInside) (X_NoInside : ExcF K a_NoInside) (C_need_prime_and_rows : Cal P w K mg base CX0 "need_prime_and_rows" 6 ["prime", "one", "other"] spNeedBoth) : Cal P w K mg base (L2N.CX P w) "put_in" 10 ["prime", "outer", "inner"] (spPutInX a_NoInside) := by
  refine D.cal (okN D.F sc_put_in (fun vs H Q E h => ?_) (fun cdv A outer s H vs Q E hr h => ?_))
  · obtain ⟨p, a, b, xs, ys, rfl, _⟩ := h
    rfl
  · obtain ⟨p, a, b, xs, ys, rfl, hp, ha, hb, R1, R2, h0, q⟩ := h
    have l2 := R2.lo
    refine ⟨_, (pss_cons (ps_expr (pe_c0 C_need_prime_and_rows (hr.mono (by decide)) (pa_cons (pv 0) (pa_cons (pv 1) (pa_cons (pv 2) pa_nil)))))
    (pss_cons (ps_if (pt_cmpR op_ne (pe_ix (r := rIxL K) ix_list (pv 2) pe_int (fun _ _ => rfl)) pe_int (nomark _)) (pss_one (L2N.ps_raise rfl (L2N.takes_of rfl rfl rfl rfl) (L2N.pmk_own PySem.F.excBase_ValueError X_NoInside.exc B.NoInside B.NoInside_k (raises_own X_NoInside.sb X_NoInside.ty) rfl))) pss_nil)
    pss_never)), ?_⟩
    refine q_drop (ev_call (by walk_at "ev") (spv_need_both hp ha hb R1 R2)) fun H1 e1 => ?_
    refine q_when (b := true) (et_test (ev_is (ev_op (ev_op (ev_var rfl) ev_c (rv_at (ns := ys) (sq_of (e1 b _ hb)) (n := 0) rfl (by omega))) ev_c (rv_ne rfl)) ?_)) (fun _ H2 e2 => ?_) fun z => Bool.noConfusion z
    · rw [decide_eq_false]
      · rfl
      · exact fun z => h0 (V.int.inj z)
    · exact q H2 (e1.trans e2)

/-! ### solved, turned_out -/
def spSolved : Sp := fun vs H Q _ => ∃ (p : Int) (a : Addr) (xs : List Int), vs = [.int p, .ref a] ∧ Prm p ∧ H a = some (.lst (xs.map V.int)) ∧ Rowp p xs ∧ 2 ≤ xs.length ∧ sq xs 0 = 0 ∧ sq xs 1 ≠ 0 ∧ RetL ((outL p xs).map V.int) H Q
theorem missL_sml {p : Int} (h0 : 0 < p) (h1 : p ≤ 1000) (xs ts : List Int) (k : Nat) : Sml (missL p xs ts k) := fun x hx => by
  unfold missL at hx
  obtain ⟨i, _, rfl⟩ := List.mem_map.mp hx
  have r1 := Int.emod_nonneg (xs1 i - com k (sq ts) (sq xs) i) (show p ≠ 0 by omega)
  have r2 := Int.emod_lt_of_pos (xs1 i - com k (sq ts) (sq xs) i) h0
  omega
theorem miss_next {p : Int} (xs : List Int) (i : Nat) : (List.range (min (missL p xs (turnL p xs (i + 1)) (i + 1)).length (powL p xs (i + 1)).length)).map (fun n => (sq (missL p xs (turnL p xs (i + 1)) (i + 1)) n - shareOf p xs (turnL p xs (i + 1)) (i + 1) * sq (powL p xs (i + 1)) n) % p) = missL p xs (turnL p xs (i + 2)) (i + 2) := by
  rw [missL_len, powL_len, Nat.min_self]
  refine ext_sq (by rw [List.length_map, List.length_range, missL_len]) fun n hn => ?_
  rw [List.length_map, List.length_range] at hn
  rw [sq_map_range hn, miss_step xs i n hn]
theorem ok_solved {f : Addr} {fd : FuncData} (D : Dat K mg "solved" s_solved ["prime", "row"] f fd) {a_PRIMES : Addr} {t_MOST_CUT : Tok} {a_PowerError : Addr} {a_BadPrime : Addr} {a_BadRow : Addr} {a_NoPart : Addr} {a_NoInside : Addr} (B : Blt K mg a_PRIMES t_MOST_CUT a_PowerError a_BadPrime a_BadRow a_NoPart a_NoInside) (C_inverse : Cal P w K mg base CX0 "inverse" 1 ["prime", "rest"] spInverse) (C_product : Cal P w K mg base CX0 "product" 2 ["prime", "one", "other"] (spProduct K)) : Cal P w K mg base CX0 "solved" 3 ["prime", "row"] spSolved := by
  refine D.cal (D.F.ok sc_solved (fun vs H Q E h => ?_) (fun cdv A outer s H vs Q E hr h => ?_))
  · obtain ⟨p, a, xs, rfl, _⟩ := h
    rfl
  · obtain ⟨p, a, xs, rfl, hp, ha, R, l2, x0, x1, q⟩ := h
    have p2 := hp.pos
    have hi := R.hi
    have bx := R.at (n := 1) (by omega)
    refine ⟨_, (pss_cons (ps_set (i := 2) sc_solved.nd rfl (Or.inl rfl) (pe_op op_cat (pe_lst (pa_cons pe_int (pa_cons pe_int pa_nil))) (pe_op op_rep (pe_lst (pa_cons pe_int pa_nil)) (pe_op op_sub (pe_callB (r := rLenS K) call_len_seq (by rfl) B.len PySem.boot_len (pa_cons (pv 1) pa_nil)) pe_int))))
    (pss_cons (ps_set (i := 3) sc_solved.nd rfl (Or.inl rfl) (pv 1))
    (pss_cons (ps_set (i := 4) sc_solved.nd rfl (Or.inl rfl) (pe_lst (pa_cons pe_int pa_nil)))
    (pss_cons (ps_for PassesOwn.never rfl (pi_range2 rfl B.range (pa_cons pe_int (pa_cons (pe_callB (r := rLenS K) call_len_seq (by rfl) B.len PySem.boot_len (pa_cons (pv 1) pa_nil)) pa_nil))) (pg_name (i := 5) sc_solved.nd rfl (Or.inl rfl)) (pss_cons (ps_set (i := 6) sc_solved.nd rfl (Or.inr rfl) (pe_op op_mod (pe_op op_mulV (pe_ix (r := rIxL K) ix_list (pv 2) (pv 5) (fun _ _ => rfl)) (pe_c0 C_inverse (hr.mono (by decide)) (pa_cons (pv 0) (pa_cons (pe_ix (r := rIxL K) ix_list (pv 3) (pv 5) (fun _ _ => rfl)) pa_nil)))) (pv 0)))
    (pss_cons (ps_setLc (i := 2) (own := [("lack", 7), ("rest", 8)]) (g := gTup K 2 (gCons (gName 7) (gCons (gName 8) (gNil)))) (tt := tYes) rfl sc_solved.nd rfl rfl (sw_true rfl rfl rfl (by decide +kernel)) (pi_zip (by rfl) B.zip (pa_cons (pv 2) (pa_cons (pv 3) pa_nil))) (blkOk_by (N := nm_solved) (sc := defScope s_solved) (by decide +kernel)) (fun _ _ _ _ _ => (by exact pg_tup rfl (pgs_cons (pg_name (i := 7) sc_solved.nd rfl (Or.inl rfl)) (pgs_cons (pg_name (i := 8) sc_solved.nd rfl (Or.inl rfl)) pgs_nil)))) (fun _ _ _ _ _ => pts_nil) (fun _ _ _ _ _ => (pe_op op_mod (pe_op op_sub (pv 7) (pe_op op_mulV (pv 6) (pv 8))) (pv 0))))
    (pss_cons (ps_set (i := 3) sc_solved.nd rfl (Or.inl rfl) (pe_c0 C_product (hr.mono (by decide)) (pa_cons (pv 0) (pa_cons (pv 3) (pa_cons (pv 1) pa_nil)))))
    (pss_one (ps_expr (pe_bm PySem.F.plainAttrs_list PySem.F.slot_list_append PySem.F.type_list_append mt_append (pv 4) (pa_cons (pv 6) pa_nil))))))))
    (pss_one (ps_ret (pv 4))))))), ?_⟩
    refine q_asgL (xs := (missL p xs (turnL p xs 1) 1).map V.int) (el_is (el_catLL (xs := [V.int 0, V.int 1]) (ys := (List.replicate (xs.length - 2) [V.int 0]).flatten) (el_lst (ea_cons ev_c (ea_cons ev_c ea_nil)) (by decide)) (el_rep (n := ((xs.length - 2 : Nat) : Int)) (el_lst (ea_cons ev_c ea_nil) (by decide)) (ev_is (ev_op (ev_cb (by walk_at "ev") (rc_lenI (sq_of ha))) ev_c rv_I0) (by show V.int _ = V.int _; congr 1; omega)) (by omega) rfl) ?_) ?_) fun m H1 nm e1 hm => ?_
    · rw [rep_one, List.length_replicate]
      show 2 + (xs.length - 2) ≤ 100000
      omega
    · rw [rep_one, miss_first hp l2]
      unfold plainL
      rw [List.map_cons, List.map_cons, List.map_replicate]
      rfl
    refine q_asg (v := .ref a) (ev_var rfl) fun H2 e2 => ?_
    refine q_asgL (xs := ([0] : List Int).map V.int) (el_lst (ea_cons ev_c ea_nil) (by decide)) fun t H3 nt e3 ht => ?_
    have e13 := (e1.trans e2).trans e3
    have nt0 : H t = none := fresh_back (e1.trans e2) nt
    obtain ⟨TT, hTT⟩ : ∃ TT : Nat → List Int, ∀ i, TT i = turnL p xs (i + 1) := ⟨_, fun _ => rfl⟩
    obtain ⟨MM, hMM⟩ : ∃ MM : Nat → List Int, ∀ i, MM i = missL p xs (turnL p xs (i + 1)) (i + 1) := ⟨_, fun _ => rfl⟩
    obtain ⟨WW, hWW⟩ : ∃ WW : Nat → List Int, ∀ i, WW i = powL p xs (i + 1) := ⟨_, fun _ => rfl⟩
    have m0 : MM 0 = missL p xs (turnL p xs 1) 1 := hMM 0
    have t0 : TT 0 = [0] := hTT 0
    have w0 : WW 0 = xs := (hWW 0).trans (powL_one R)
    rw [← m0] at hm
    rw [← t0] at ht
    refine q_forR2 (lo := 1) (n := (xs.length : Int)) (ea_cons ev_c (ea_cons (ev_cb (by walk_at "ev") (rc_lenI (sq_of (e13 a _ ha)))) ea_nil)) (by omega)
      (fun i σ' H' => ∃ (m w : Addr) (z1 z2 : Option V), σ' = [some (.int p), some (.ref a), some (.ref m), some (.ref w), some (.ref t), z1, z2, none, none] ∧ Ex H H' ∧ H' m = some (.lst ((MM i).map V.int)) ∧ H' w = some (.lst ((WW i).map V.int)) ∧ H' t = some (.lst ((TT i).map V.int)) ∧ m ≠ t ∧ w ≠ t)
      (fun H4 e4 => ⟨m, a, none, none, rfl, e13.trans e4, e4 m _ (e3 m _ (e2 m _ hm)), ?_, e4 t _ ht, ne_of_none (e2 m _ hm) nt, ne_of_none ha nt0⟩) (fun i σ' H' hi2 hP => ?_) fun σ' H' hP => ?_
    · rw [w0]
      exact (e13.trans e4) a _ ha
    · obtain ⟨m, w, z1, z2, rfl, e, hm, hw, ht', nmt, nwt⟩ := hP
      have hk : i + 1 < xs.length := by omega
      rw [hMM] at hm
      rw [hWW] at hw
      rw [hTT] at ht'
      have ms := missL_sml (show 0 < p by omega) (by omega) xs (turnL p xs (i + 1)) (i + 1)
      have PR : Rowp p (powL p xs (i + 1)) := powL_rowp (by omega) R _
      have b1 := PR.at (n := i + 1) (by rw [powL_len]; exact hk)
      have b2 := powm_rest (r := sq (powL p xs (i + 1)) (i + 1)) p2.1 (p - 2).toNat
      have b3 := ms.at (i + 1)
      have ms' := ms
      generalize hM : missL p xs (turnL p xs (i + 1)) (i + 1) = M at hm ms b3
      have lM : M.length = xs.length := by rw [← hM, missL_len]
      generalize hW : powL p xs (i + 1) = W at hw PR b1 b2
      have lW : W.length = xs.length := by rw [← hW, powL_len]
      have hS : sq M (i + 1) * inv p (sq W (i + 1)) % p = shareOf p xs (turnL p xs (i + 1)) (i + 1) := by
        unfold shareOf
        rw [hM, hW]
      have ev1 : Ev (tVar 5) ([some (V.int p), some (V.ref a), some (V.ref m), some (V.ref w), some (V.ref t), some (V.int (1 + (i : Int))), z2, none, none]) H' (.int (1 + (i : Int))) := ev_var rfl
      refine q_asg (v := .int (shareOf p xs (turnL p xs (i + 1)) (i + 1))) (ev_is (ev_op (ev_op (ev_op (ev_var rfl) (ev_var rfl) (rv_at (sq_of hm) (n := i + 1) (by omega) (by omega))) (ev_call (ea_cons (ev_var rfl) (ea_cons (ev_op (ev_var rfl) (ev_var rfl) (rv_at (sq_of hw) (n := i + 1) (by omega) (by omega))) ea_nil)) (spv_inverse hp b1.1 b1.2)) (rv_I (mul_l (by omega)))) (ev_var rfl) (rv_I (by walk_at "cond"))) (by rw [hS])) fun H4 e4 => ?_
      have sb : 0 ≤ shareOf p xs (turnL p xs (i + 1)) (i + 1) ∧ shareOf p xs (turnL p xs (i + 1)) (i + 1) < p := by
        rw [← hS]
        exact ⟨Int.emod_nonneg _ (by omega), Int.emod_lt_of_pos _ (by omega)⟩
      have nx := miss_next (p := p) xs i
      rw [hM, hW] at nx
      generalize hSh : shareOf p xs (turnL p xs (i + 1)) (i + 1) = S at sb nx
      refine q_asgL (xs := (missL p xs (turnL p xs (i + 2)) (i + 2)).map V.int) (el_is (el_int (n := min M.length W.length) (f := fun n => (sq M n - S * sq W n) % p) (el_zip (xs := M) (ys := W) (fun n => V.int ((sq M n - S * sq W n) % p)) (by walk_at "ev") (sq_of (e4 m _ hm)) (sq_of (e4 w _ hw)) (by omega) (fun _ _ => rfl) fun n H5 e5 hn => ev_op (ev_op (ev_var rfl) (ev_op (ev_var rfl) (ev_var rfl) (rv_I (mul_l (by omega)))) rv_I0) (ev_var rfl) (rv_I (by walk_at "cond")))) (by rw [nx])) fun m2 H5 n5 e5 h5 => ?_
      have g := spl_product (K := K) (H := H5) (p := p) (xs := W) (ys := xs) (by omega) (sq_of (e5 w _ (e4 w _ hw))) (sq_of (e5 a _ (e4 a _ (e a _ ha)))) (PR.sml (by omega)) (by omega)
      rw [← hW, powL_succ R] at g
      refine q_asgL (xs := (powL p xs (i + 2)).map V.int) (el_call (by walk_at "ev") g) fun w2 H6 n6 e6 h6 => ?_
      have ht6 := e6 t _ (e5 t _ (e4 t _ ht'))
      refine s_app (v := .int S) ht6 (ev_var rfl) (ev_var rfl) (by rw [List.length_map, turnL_len]; omega) fun H7 e7 => ?_
      have nt5 := ne_of_none (e4 t _ ht') n5
      have nt6 := ne_of_none (e5 t _ (e4 t _ ht')) n6
      refine ⟨m2, w2, _, _, rfl, Ex.mut ((((e.trans e4).trans e5).trans e6).trans e7) nt0, ?_, ?_, ?_, Ne.symm nt5, Ne.symm nt6⟩
      · rw [upd_ne (Ne.symm nt5), hMM]
        exact e7 m2 _ (e6 m2 _ h5)
      · rw [upd_ne (Ne.symm nt6), hWW]
        exact e7 w2 _ h6
      · rw [upd_same, hTT, show turnL p xs (i + 1 + 1) = turnL p xs (i + 1) ++ [shareOf p xs (turnL p xs (i + 1)) (i + 1)] from rfl, hSh, List.map_append]
        rfl
    · obtain ⟨m, w, z1, z2, rfl, e, hm, hw, ht', nmt, nwt⟩ := hP
      have el : ((xs.length : Int) - 1).toNat + 1 = xs.length := by omega
      rw [hTT, el] at ht'
      exact s_ret (ev_var rfl) fun H4 e4 => q t H4 nt0 (e.trans e4) (e4 t _ ht')
theorem spl_solved {H : Hp} {p : Int} {a : Addr} {xs : List Int} (hp : Prm p) (ha : H a = some (.lst (xs.map V.int))) (R : Rowp p xs) (l2 : 2 ≤ xs.length) (x0 : sq xs 0 = 0) (x1 : sq xs 1 ≠ 0) : SpL spSolved [.int p, .ref a] H ((outL p xs).map V.int) :=
  fun H1 e Q q E => ⟨p, a, xs, rfl, hp, e a _ ha, R, l2, x0, x1, q⟩

/-! ### turned_out -/
def spTurnedOut : Sp := fun vs H Q _ => ∃ (p : Int) (a : Addr) (xs : List Int), vs = [.int p, .ref a] ∧ Prm p ∧ H a = some (.lst (xs.map V.int)) ∧ Rowp p xs ∧ 2 ≤ xs.length ∧ sq xs 0 = 0 ∧ sq xs 1 ≠ 0 ∧ RetL ((outL p xs).map V.int) H Q
theorem turned_test {K : PySem.W.Frag} {H : Hp} {p : Int} {a : Addr} {xs : List Int} {σ : L2.St} (h1 : σ[1]? = some (some (.ref a))) (ha : H a = some (.lst (xs.map V.int))) (lo : 1 ≤ xs.length) :
    EvT (tOr (tTest (tOp (rI0 fun i j => .bl (decide (i < j))) (tCB (rLenS K) (tCons (tVar 1) tNil)) (tC (.int 2)))) (tOr (tTest (tOp rNe (tOp (rIxL K) (tVar 1) (tC (.int 0))) (tC (.int 0)))) (tTest (tOp rEq (tOp (rIxL K) (tVar 1) (tC (.int 1))) (tC (.int 0)))))) σ H
      (decide ((xs.length : Int) < 2) || ((!decide (sq xs 0 = 0)) || decide (sq xs 1 = 0))) := by
  refine et_or (et_test (ev_op (ev_cb (ea_cons (ev_var h1) ea_nil) (rc_lenI (sq_of ha))) ev_c rv_I0)) fun hl => et_or (et_test (ev_is (ev_op (ev_op (ev_var h1) ev_c (rv_at (sq_of ha) (n := 0) rfl (by omega))) ev_c (rv_ne rfl)) (by rw [dec_int]; rfl))) fun _ => et_test (ev_is (ev_op (ev_op (ev_var h1) ev_c (rv_at (sq_of ha) (n := 1) rfl ?_)) ev_c (rv_eq rfl)) (by rw [dec_int]; rfl))
  have := of_decide_eq_false hl
  omega
theorem ok_turned_out {f : Addr} {fd : FuncData} (D : Dat K mg "turned_out" s_turned_out ["prime", "row"] f fd) {a_PRIMES : Addr} {t_MOST_CUT : Tok} {a_PowerError : Addr} {a_BadPrime : Addr} {a_BadRow : Addr} {a_NoPart : Addr} {a_NoInside : Addr} (B : Blt K mg a_PRIMES t_MOST_CUT a_PowerError a_BadPrime a_BadRow a_NoPart a_NoInside) (C_need_prime : Cal P w K mg base CX0 "need_prime" 2 ["prime"] spNeedPrime) (C_need_row : Cal P w K mg base CX0 "need_row" 5 ["prime", "row"] spNeedRow) (C_solved : Cal P w K mg base CX0 "solved" 3 ["prime", "row"] spSolved) : Cal P w K mg base CX0 "turned_out" 10 ["prime", "row"] spTurnedOut := by
  refine D.cal (D.F.ok sc_turned_out (fun vs H Q E h => ?_) (fun cdv A outer s H vs Q E hr h => ?_))
  · obtain ⟨p, a, xs, rfl, _⟩ := h
    rfl
  · obtain ⟨p, a, xs, rfl, hp, ha, R, l2, x0, x1, q⟩ := h
    refine ⟨_, (pss_cons (ps_expr (pe_c0 C_need_prime (hr.mono (by decide)) (pa_cons (pv 0) pa_nil)))
    (pss_cons (ps_expr (pe_c0 C_need_row (hr.mono (by decide)) (pa_cons (pv 0) (pa_cons (pv 1) pa_nil))))
    (pss_cons (ps_if (PW.pt (pw_or (pt_cmpR op_lt (pe_callB (r := rLenS K) call_len_seq (by rfl) B.len PySem.boot_len (pa_cons (pv 1) pa_nil)) pe_int (nomark _)) (pw_or (pt_cmpR op_ne (pe_ix (r := rIxL K) ix_list (pv 1) pe_int (fun _ _ => rfl)) pe_int (nomark _)) (pw_or1 (pt_cmpR op_eq (pe_ix (r := rIxL K) ix_list (pv 1) pe_int (fun _ _ => rfl)) pe_int (nomark _)))))) (pss_one ps_never) pss_nil)
    (pss_one (ps_ret (pe_c0 C_solved (hr.mono (by decide)) (pa_cons (pv 0) (pa_cons (pv 1) pa_nil)))))))), ?_⟩
    refine q_drop (ev_call (by walk_at "ev") (spv_need_prime hp)) fun H1 e1 => q_drop (ev_call (by walk_at "ev") (spv_need_row (e1 a _ ha) R)) fun H2 e2 => ?_
    have e12 := e1.trans e2
    refine q_when (b := false) (et_is (turned_test (p := p) rfl (e12 a _ ha) R.lo) ?_) (fun z => Bool.noConfusion z) fun _ H3 e3 => ?_
    · rw [decide_eq_false (by omega), decide_eq_true x0, decide_eq_false x1]
      rfl
    · exact s_retL (el_call (by walk_at "ev") (spl_solved (p := p) (xs := xs) hp (e3 a _ (e12 a _ ha)) R l2 x0 x1)) fun p4 H4 n4 e4 h4 => q.go (e12.trans e3) n4 e4 h4
theorem spl_turned_out {H : Hp} {p : Int} {a : Addr} {xs : List Int} (hp : Prm p) (ha : H a = some (.lst (xs.map V.int))) (R : Rowp p xs) (l2 : 2 ≤ xs.length) (x0 : sq xs 0 = 0) (x1 : sq xs 1 ≠ 0) : SpL spTurnedOut [.int p, .ref a] H ((outL p xs).map V.int) :=
  fun H1 e Q q E => ⟨p, a, xs, rfl, hp, e a _ ha, R, l2, x0, x1, q⟩
/-! ### turned_out, where it can't be -/
def spTurnedOutX (C : Addr) : Sp := fun vs H Q E => ∃ (p : Int) (a : Addr) (xs : List Int), vs = [.int p, .ref a] ∧ Prm p ∧ H a = some (.lst (xs.map V.int)) ∧ Rowp p xs ∧ (xs.length < 2 ∨ sq xs 0 ≠ 0 ∨ sq xs 1 = 0) ∧ ∀ H1, Ex H H1 → E (.ref C) none H1
theorem ok_turned_out_x {f : Addr} {fd : FuncData} (D : Dat K mg "turned_out" s_turned_out ["prime", "row"] f fd) {a_PRIMES : Addr} {t_MOST_CUT : Tok} {a_PowerError : Addr} {a_BadPrime : Addr} {a_BadRow : Addr} {a_NoPart : Addr} {a_NoInside : Addr} (B : Blt K mg a_PRIMES t_MOST_CUT a_PowerError a_BadPrime a_BadRow a_NoPart a_NoInside) (X_NoInside : ExcF K a_NoInside) (C_need_prime : Cal P w K mg base CX0 "need_prime" 2 ["prime"] spNeedPrime) (C_need_row : Cal P w K mg base CX0 "need_row" 5 ["prime", "row"] spNeedRow) : Cal P w K mg base (L2N.CX P w) "turned_out" 10 ["prime", "row"] (spTurnedOutX a_NoInside) := by
  refine D.cal (okN D.F sc_turned_out (fun vs H Q E h => ?_) (fun cdv A outer s H vs Q E hr h => ?_))
  · obtain ⟨p, a, xs, rfl, _⟩ := h
    rfl
  · obtain ⟨p, a, xs, rfl, hp, ha, R, hc, q⟩ := h
    refine ⟨_, (pss_cons (ps_expr (pe_c0 C_need_prime (hr.mono (by decide)) (pa_cons (pv 0) pa_nil)))
    (pss_cons (ps_expr (pe_c0 C_need_row (hr.mono (by decide)) (pa_cons (pv 0) (pa_cons (pv 1) pa_nil))))
    (pss_cons (ps_if (PW.pt (pw_or (pt_cmpR op_lt (pe_callB (r := rLenS K) call_len_seq (by rfl) B.len PySem.boot_len (pa_cons (pv 1) pa_nil)) pe_int (nomark _)) (pw_or (pt_cmpR op_ne (pe_ix (r := rIxL K) ix_list (pv 1) pe_int (fun _ _ => rfl)) pe_int (nomark _)) (pw_or1 (pt_cmpR op_eq (pe_ix (r := rIxL K) ix_list (pv 1) pe_int (fun _ _ => rfl)) pe_int (nomark _)))))) (pss_one (L2N.ps_raise rfl (L2N.takes_of rfl rfl rfl rfl) (L2N.pmk_own PySem.F.excBase_ValueError X_NoInside.exc B.NoInside B.NoInside_k (raises_own X_NoInside.sb X_NoInside.ty) rfl))) pss_nil)
    pss_never))), ?_⟩
    refine q_drop (ev_call (by walk_at "ev") (spv_need_prime hp)) fun H1 e1 => q_drop (ev_call (by walk_at "ev") (spv_need_row (e1 a _ ha) R)) fun H2 e2 => ?_
    have e12 := e1.trans e2
    refine q_when (b := true) (et_is (turned_test (p := p) rfl (e12 a _ ha) R.lo) ?_) (fun _ H3 e3 => q H3 (e12.trans e3)) fun z => Bool.noConfusion z
    rcases hc with h | h | h
    · rw [decide_eq_true (by omega)]
      rfl
    · rw [decide_eq_false h]
      exact Bool.or_true _
    · rw [decide_eq_true h, Bool.or_true, Bool.or_true]

/-! ### the law's number -/
def spLNumber : Sp := fun vs H Q _ => ∃ (c a wh : Int), vs = [.int c, .int a, .int wh] ∧ Builtin.Int.intBits c ≤ 1048576 ∧ 0 ≤ a ∧ a ≤ 100000 ∧ RetV (.int (lnum c a wh)) H Q
theorem intBits_small {x : Int} (h : -18446744073709551616 < x ∧ x < 18446744073709551616) : Builtin.Int.intBits x ≤ 64 := intBits_le_64 h.1 h.2
theorem ok_law_number {f : Addr} {fd : FuncData} (D : Dat K mg "_law_number" s_law_number ["_law_cell", "_law_at", "_law_whole"] f fd) {a_PRIMES : Addr} {t_MOST_CUT : Tok} {a_PowerError : Addr} {a_BadPrime : Addr} {a_BadRow : Addr} {a_NoPart : Addr} {a_NoInside : Addr} (B : Blt K mg a_PRIMES t_MOST_CUT a_PowerError a_BadPrime a_BadRow a_NoPart a_NoInside) : Cal P w K mg base CX0 "_law_number" 1 ["_law_cell", "_law_at", "_law_whole"] spLNumber := by
  refine D.cal (D.F.ok sc_law_number (fun vs H Q E h => ?_) (fun cdv A outer s H vs Q E hr h => ?_))
  · obtain ⟨c, a, wh, rfl, _⟩ := h
    rfl
  · obtain ⟨c, a, wh, rfl, hc, h0, h1, q⟩ := h
    refine ⟨_, (pss_cons (ps_if (pt_cmpR op_ge (pv 0) (pe_op op_pow pe_int pe_int) (nomark _)) (pss_one (ps_ret (pe_op op_fdiv (pv 0) (pe_op op_add pe_int (pe_op op_mod (pv 1) pe_int))))) pss_nil)
    (pss_cons (ps_set (i := 3) sc_law_number.nd rfl (Or.inl rfl) (pe_op op_mod (pe_op op_add (pe_op op_mulV (pe_op op_add (pv 0) (pe_op op_mulV pe_int (pv 1))) pe_int) (pv 2)) pe_int))
    (pss_cons (ps_set (i := 4) sc_law_number.nd rfl (Or.inl rfl) (pe_op op_mulV (pv 3) (pe_op op_add (pe_op op_add (pv 0) (pe_op op_mulV pe_int (pv 1))) pe_int)))
    (pss_one (ps_ret (pe_op op_fdiv (pe_op op_mulV (pe_op op_mulV (pv 4) (pe_op op_add (pe_op op_add (pv 3) (pv 0)) pe_int)) (pe_op op_add (pe_op op_mulV (pv 3) (pv 3)) pe_int)) (pe_op op_add pe_int (pv 1)))))))), ?_⟩
    refine q_when (b := decide ((10 : Int) ^ 18 ≤ c)) (et_test (ev_op (ev_var rfl) (ev_op ev_c ev_c (rv_I (by exact ⟨by decide, by decide, by decide⟩))) rv_I0)) (fun hb H1 e1 => ?_) fun hb H1 e1 => ?_
    · have hb' := of_decide_eq_true hb
      refine s_ret (v := .int (lnum c a wh)) (ev_is (ev_op (ev_var rfl) (ev_op ev_c (ev_op (ev_var rfl) ev_c (rv_I (by decide))) rv_I0) (rv_I ?_)) ?_) fun H2 e2 => q H2 (e1.trans e2)
      · exact ⟨by omega, by omega⟩
      · show V.int _ = V.int (if (10 : Int) ^ 18 ≤ c then c / (1 + a % 7) else _)
        rw [if_pos hb']
    · have hb' := of_decide_eq_false hb
      have bl : 0 ≤ blend c a wh ∧ blend c a wh < 2147483647 := ⟨Int.emod_nonneg _ (by decide), Int.emod_lt_of_pos _ (by decide)⟩
      have bb : 0 ≤ blend c a wh * blend c a wh ∧ blend c a wh * blend c a wh < 4611686018427387904 := by
        refine ⟨Int.mul_nonneg bl.1 bl.1, ?_⟩
        have h := Int.mul_le_mul (show blend c a wh ≤ 2147483647 by omega) (show blend c a wh ≤ 2147483647 by omega) bl.1 (by decide)
        omega
      refine q_asg (v := .int (blend c a wh)) (ev_op (ev_op (ev_op (ev_op (ev_var rfl) (ev_op ev_c (ev_var rfl) (rv_I (mul_l (by decide)))) rv_I0) ev_c (rv_I (mul_r (by decide)))) (ev_var rfl) rv_I0) ev_c (rv_I (by decide))) fun H2 e2 => ?_
      refine q_asg (v := .int (blend c a wh * (c + 31 * a + 7))) (ev_op (ev_var rfl) (ev_op (ev_op (ev_var rfl) (ev_op ev_c (ev_var rfl) (rv_I (mul_l (by decide)))) rv_I0) ev_c rv_I0) (rv_I (mul_l (by omega)))) fun H3 e3 => ?_
      have k1 : Builtin.Int.intBits (c + 31 * a + 7) ≤ 1048578 := intBits_add_le (n := 64) (intBits_add_le (n := 64) hc (intBits_small (by omega))) (intBits_small (by decide))
      have k2 : Builtin.Int.intBits (blend c a wh * (c + 31 * a + 7)) ≤ 64 + 1048578 := intBits_mul_le (intBits_small (by omega)) k1
      have k3 : Builtin.Int.intBits (blend c a wh + c + 5) ≤ 1048578 := intBits_add_le (n := 64) (intBits_add_le (m := 64) (intBits_small (by omega)) hc) (intBits_small (by decide))
      refine s_ret (v := .int (lnum c a wh)) (ev_is (ev_op (ev_op (ev_op (ev_var rfl) (ev_op (ev_op (ev_var rfl) (ev_var rfl) rv_I0) ev_c rv_I0) (rv_I (IntMulOk.of_le k2 k3 (by decide)))) (ev_op (ev_op (ev_var rfl) (ev_var rfl) (rv_I (mul_l (by omega)))) ev_c rv_I0) (rv_I (mul_r (by omega)))) (ev_op ev_c (ev_var rfl) rv_I0) (rv_I ?_)) ?_) fun H4 e4 => q H4 (((e1.trans e2).trans e3).trans e4)
      · exact ⟨by omega, by omega⟩
      · show V.int _ = V.int (if (10 : Int) ^ 18 ≤ c then _ else _)
        rw [if_neg hb']
theorem spv_l_number {H : Hp} {c a wh : Int} (hc : Builtin.Int.intBits c ≤ 1048576) (h0 : 0 ≤ a) (h1 : a ≤ 100000) : SpV spLNumber [.int c, .int a, .int wh] H (.int (lnum c a wh)) := fun H1 e Q q E => ⟨c, a, wh, rfl, hc, h0, h1, q⟩

/-! ### the law's prime -/
def spLPrime (K : PySem.W.Frag) : Sp := fun vs H Q _ => ∃ (a : Addr) (ns : List Int) (b : Int), vs = [.ref a, .int b] ∧ SqL K H a (ns.map V.int) ∧ 0 ≤ b ∧ RetV (.int (lprime ns b)) H Q
theorem ok_law_prime {f : Addr} {fd : FuncData} (D : Dat K mg "_law_prime" s_law_prime ["_law_script", "_law_by"] f fd) {a_PRIMES : Addr} {t_MOST_CUT : Tok} {a_PowerError : Addr} {a_BadPrime : Addr} {a_BadRow : Addr} {a_NoPart : Addr} {a_NoInside : Addr} (B : Blt K mg a_PRIMES t_MOST_CUT a_PowerError a_BadPrime a_BadRow a_NoPart a_NoInside) : Cal P w K mg base CX0 "_law_prime" 1 ["_law_script", "_law_by"] (spLPrime K) := by
  refine D.cal (D.F.ok sc_law_prime (fun vs H Q E h => ?_) (fun cdv A outer s H vs Q E hr h => ?_))
  · obtain ⟨a, ns, b, rfl, _⟩ := h
    rfl
  · obtain ⟨a, ns, b, rfl, ha, h0, q⟩ := h
    have wn : 0 ≤ lwhole ns := absI_nonneg _
    refine ⟨_, (pss_cons (ps_set (i := 2) sc_law_prime.nd rfl (Or.inl rfl) (pe_tup (pa_cons pe_int (pa_cons pe_int (pa_cons pe_int (pa_cons pe_int (pa_cons pe_int (pa_cons pe_int (pa_cons pe_int (pa_cons pe_int (pa_cons pe_int (pa_cons pe_int (pa_cons pe_int (pa_cons pe_int (pa_cons pe_int (pa_cons pe_int (pa_cons pe_int (pa_cons pe_int (pa_cons pe_int (pa_cons pe_int (pa_cons pe_int (pa_cons pe_int (pa_cons pe_int (pa_cons pe_int (pa_cons pe_int (pa_cons pe_int (pa_cons pe_int pa_nil)))))))))))))))))))))))))))
    (pss_cons (ps_set (i := 3) sc_law_prime.nd rfl (Or.inl rfl) (pe_op op_add (pe_callB call_abs (by rfl) B.abs (by decide +kernel) (pa_cons (pe_callB (r := rSum K) (cr_sum rfl) (by rfl) B.sum (by decide +kernel) (pa_cons (pe_slice (r := rSlL K) sl_list (pv 0) po_none (po_some pe_int)) pa_nil)) pa_nil)) (pv 1)))
    (pss_one (ps_ret (pe_ifExp (pt_cmpR op_eq (pe_op op_mod (pe_op op_fdiv (pv 3) pe_int) pe_int) pe_int (nomark _)) (pe_ix (r := rIxT K) ix_tup (pv 2) (pe_op op_mod (pe_op op_fdiv (pv 3) pe_int) pe_int) (fun _ _ => rfl)) (pe_ix (r := rIxT K) ix_tup (pv 2) (pe_op op_mod (pe_op op_fdiv (pv 3) pe_int) pe_int) (fun _ _ => rfl))))))), ?_⟩
    refine q_asgU (xs := primes.map V.int) (eu_tup (by walk_at "ev") (by decide)) fun t H1 n1 e1 ht => ?_
    refine q_asg (v := .int (lwhole ns + b)) (ev_op (ev_cb (ea_cons (ev_cbL (el_is (el_sl (ev_var rfl) eo_none (eo_some ev_c) (ex_l e1 ha)) (cut_to ns 63)) fun p H2 h2 e2 => rc_sum (sq_of h2)) ea_nil) rc_abs) (ev_var rfl) rv_I0) fun H2 e2 => ?_
    have ht2 : SqT K H2 t (primes.map V.int) := st_of (e2 t _ ht)
    have l : primes.length = 25 := rfl
    generalize hw : lwhole ns + b = W
    have W0 : 0 ≤ W := by omega
    refine s_ret (v := .int (lprime ns b)) (ev_is (ev_if (v := .int (if W / 60 % 2 = 0 then sq primes (W / 120 % 25).toNat else sq primes (W / 120 % 5).toNat)) (b := decide (W / 60 % 2 = 0)) (et_test (ev_is (ev_op (x := .int (W / 60 % 2)) (ev_op (ev_op (ev_var rfl) ev_c (rv_I (by walk_at "cond"))) ev_c (rv_I (by walk_at "cond"))) ev_c (rv_eq rfl)) ?_)) (fun hb => ?_) fun hb => ?_) ?_) fun H3 e3 => q H3 ((e1.trans e2).trans e3)
    · rw [dec_int]
      rfl
    · rw [if_pos (of_decide_eq_true hb)]
      exact ev_op (y := .int (W / 120 % 25)) (ev_var rfl) (ev_op (ev_op (ev_var rfl) ev_c (rv_I (by walk_at "cond"))) ev_c (rv_I (by walk_at "cond"))) (rv_atU ht2 (by omega) (by omega))
    · rw [if_neg (of_decide_eq_false hb)]
      exact ev_op (y := .int (W / 120 % 5)) (ev_var rfl) (ev_op (ev_op (ev_var rfl) ev_c (rv_I (by walk_at "cond"))) ev_c (rv_I (by walk_at "cond"))) (rv_atU ht2 (by omega) (by omega))
    · unfold lprime
      rw [hw]
theorem spv_l_prime {H : Hp} {a : Addr} {ns : List Int} {b : Int} (ha : SqL K H a (ns.map V.int)) (h0 : 0 ≤ b) : SpV (spLPrime K) [.ref a, .int b] H (.int (lprime ns b)) := fun H1 e Q q E => ⟨a, ns, b, rfl, ex_l e ha, h0, q⟩

/-! ### the law's row -/
def spLRow (K : PySem.W.Frag) : Sp := fun vs H Q _ => ∃ (a : Addr) (ns : List Int) (b p m : Int), vs = [.ref a, .int b, .int p, .int m] ∧ SqL K H a (ns.map V.int) ∧ (∀ z ∈ ns, Builtin.Int.intBits z ≤ 1048576) ∧ 0 ≤ b ∧ b ≤ 1000 ∧ 0 < p ∧ 0 < m ∧ m ≤ 1000 ∧ RetL ((lrow ns b p m).map V.int) H Q
theorem ok_law_row {f : Addr} {fd : FuncData} (D : Dat K mg "_law_row" s_law_row ["_law_script", "_law_by", "_law_prime_here", "_law_most"] f fd) {a_PRIMES : Addr} {t_MOST_CUT : Tok} {a_PowerError : Addr} {a_BadPrime : Addr} {a_BadRow : Addr} {a_NoPart : Addr} {a_NoInside : Addr} (B : Blt K mg a_PRIMES t_MOST_CUT a_PowerError a_BadPrime a_BadRow a_NoPart a_NoInside) (C_law_number : Cal P w K mg base CX0 "_law_number" 1 ["_law_cell", "_law_at", "_law_whole"] spLNumber) : Cal P w K mg base CX0 "_law_row" 2 ["_law_script", "_law_by", "_law_prime_here", "_law_most"] (spLRow K) := by
  refine D.cal (D.F.ok sc_law_row (fun vs H Q E h => ?_) (fun cdv A outer s H vs Q E hr h => ?_))
  · obtain ⟨a, ns, b, p, m, rfl, _⟩ := h
    rfl
  · obtain ⟨a, ns, b, p, m, rfl, ha, hbits, b0, b1, hp, m0, m1, q⟩ := h
    have lc := lcells_len ns
    refine ⟨_, (pss_cons (ps_set (i := 4) sc_law_row.nd rfl (Or.inl rfl) (pe_ifExp (pt_cmpR (r := rNeD K) (op_neD hr.units) (pv 0) (pe_lst pa_nil) (nomark _)) (pe_slice (r := rSlL K) sl_list (pv 0) po_none (po_some pe_int)) (pe_lst (pa_cons pe_int pa_nil))))
    (pss_cons (ps_par (i := 5) (j := 6) (by rfl) sc_law_row.nd rfl rfl (by decide) rfl rfl (pa_cons (pe_op op_add (pe_callB call_abs (by rfl) B.abs (by decide +kernel) (pa_cons (pe_callB (r := rSum K) (cr_sum rfl) (by rfl) B.sum (by decide +kernel) (pa_cons (pv 4) pa_nil)) pa_nil)) (pe_op op_mulV pe_int (pv 1))) (pa_cons (pe_lst pa_nil) pa_nil)) (by rfl))
    (pss_cons (ps_for PassesOwn.never rfl (pi_range1 rfl B.range (pa_cons (pe_op op_add pe_int (pe_op op_mod (pv 5) (pv 3))) pa_nil)) (pg_name (i := 7) sc_law_row.nd rfl (Or.inl rfl)) (pss_cons (ps_set (i := 8) sc_law_row.nd rfl (Or.inl rfl) (pe_op op_fdiv (pe_c0 C_law_number (hr.mono (by decide)) (pa_cons (pe_ix (r := rIxL K) ix_list (pv 4) (pe_op op_mod (pe_op op_add (pv 7) (pv 1)) (pe_callB (r := rLenS K) call_len_seq (by rfl) B.len PySem.boot_len (pa_cons (pv 4) pa_nil))) (fun _ _ => rfl)) (pa_cons (pe_op op_add (pv 7) (pe_op op_mulV pe_int (pv 1))) (pa_cons (pv 5) pa_nil)))) pe_int))
    (pss_cons (ps_set (i := 9) sc_law_row.nd rfl (Or.inl rfl) (pe_op op_mod (pv 8) (pv 2)))
    (pss_one (ps_expr (pe_bm PySem.F.plainAttrs_list PySem.F.slot_list_append PySem.F.type_list_append mt_append (pv 6) (pa_cons (pe_ix (r := rIxT K) ix_tup (pe_tup (pa_cons (pv 9) (pa_cons (pe_ifExp (pt_cmpR op_eq (pe_op op_mod (pe_op op_fdiv (pv 8) pe_int) pe_int) pe_int (nomark _)) (pv 9) pe_int) (pa_cons (pe_op op_mod (pv 5) (pv 2)) pa_nil)))) (pe_op op_mod (pe_op op_fdiv (pv 5) pe_int) pe_int) (fun _ _ => rfl)) pa_nil)))))))
    (pss_one (ps_ret (pv 6)))))), ?_⟩
    refine q_asgL (xs := (lcells ns).map V.int) (el_if (b := !decide (ns = [])) (et_test (ev_opL (ev_var rfl) (el_lst ea_nil (by decide)) fun t H1 h1 e1 => rv_neL (ms := []) (ex_l e1 ha) (sq_of h1))) (fun hb => ?_) fun hb => ?_) fun c H1 nc e1 hc => ?_
    · have hn : ¬ ns = [] := fun z => by
        rw [decide_eq_true z] at hb
        cases hb
      refine el_is (el_sl (ev_var rfl) eo_none (eo_some ev_c) ha) ?_
      rw [show lcells ns = ns.take 63 from if_neg hn]
      exact cut_to ns 63
    · have hn : ns = [] := by
        by_cases z : ns = []
        · exact z
        · rw [decide_eq_false z] at hb
          cases hb
      refine el_is (el_lst (ea_cons ev_c ea_nil) (by decide)) ?_
      rw [show lcells ns = [5] from if_pos hn]
      rfl
    · generalize hW : absI (lcells ns).sum + 7 * b = W
      have W0 : 0 ≤ W := by
        have := absI_nonneg (lcells ns).sum
        omega
      refine q_parL (x := .int W) (xs := []) (ev_is (ev_op (ev_cb (ea_cons (ev_cb (ea_cons (ev_var rfl) ea_nil) (rc_sum (sq_of hc))) ea_nil) rc_abs) (ev_op ev_c (ev_var rfl) (rv_I (mul_l (by decide)))) rv_I0) ?_) (el_lst ea_nil (by decide)) fun l H2 nl e2 hl => ?_
      · rw [← hW]
        rfl
      have e12 := e1.trans e2
      have nl0 : H l = none := fresh_back e1 nl
      have wm0 := Int.emod_nonneg W (show m ≠ 0 by omega)
      have wm1 := Int.emod_lt_of_pos W m0
      refine q_forR1 (n := 1 + W % m) (ea_cons (ev_op ev_c (ev_op (ev_var rfl) (ev_var rfl) (rv_I (by walk_at "cond"))) rv_I0) ea_nil) (by omega)
        (fun i σ' H' => ∃ z1 z2 z3, σ' = [some (.ref a), some (.int b), some (.int p), some (.int m), some (.ref c), some (.int W), some (.ref l), z1, z2, z3] ∧ Ex H H' ∧ H' c = some (.lst ((lcells ns).map V.int)) ∧ H' l = some (.lst (((List.range i).map (lrowAt ns b p)).map V.int)))
        (fun H3 e3 => ⟨none, none, none, rfl, e12.trans e3, e3 c _ (e2 c _ hc), e3 l _ hl⟩) (fun i σ' H' hi hP => ?_) fun σ' H' hP => ?_
      · obtain ⟨z1, z2, z3, rfl, e, hc', hl'⟩ := hP
        have len0 : (0 : Int) < ((lcells ns).length : Int) := by omega
        have ix0 := Int.emod_nonneg ((i : Int) + b) (show ((lcells ns).length : Int) ≠ 0 by omega)
        have ix1 := Int.emod_lt_of_pos ((i : Int) + b) len0
        have hbit : Builtin.Int.intBits (sq (lcells ns) (((i : Int) + b) % ((lcells ns).length : Int)).toNat) ≤ 1048576 := by
          rcases lcells_mem (sq_mem (xs := lcells ns) (n := (((i : Int) + b) % ((lcells ns).length : Int)).toNat) (by omega)) with h | h
          · exact hbits _ h
          · rw [h]
            exact Nat.le_trans (intBits_small (by decide)) (by decide)
        refine q_asg (v := .int (lrowNum ns b i)) (ev_is (ev_op (ev_call (ea_cons (ev_op (ev_var rfl) (ev_op (ev_op (ev_var rfl) (ev_var rfl) rv_I0) (ev_cb (ea_cons (ev_var rfl) ea_nil) (rc_lenI (sq_of hc'))) (rv_I (by walk_at "cond"))) (rv_at (sq_of hc') (n := (((i : Int) + b) % ((lcells ns).length : Int)).toNat) (by omega) (by omega))) (ea_cons (ev_op (ev_var rfl) (ev_op ev_c (ev_var rfl) (rv_I (mul_l (by decide)))) rv_I0) (ea_cons (ev_var rfl) ea_nil))) (spv_l_number hbit (by omega) (by omega))) ev_c (rv_I (by walk_at "cond"))) ?_) fun H3 e3 => ?_
        · show V.int _ = V.int _
          unfold lrowNum
          rw [hW]
        refine q_asg (v := .int (lrowNum ns b i % p)) (ev_op (ev_var rfl) (ev_var rfl) (rv_I (by walk_at "cond"))) fun H4 e4 => ?_
        have w3 : 0 ≤ W / 3 % 3 ∧ W / 3 % 3 < 3 := by omega
        refine s_app (v := .int (lrowAt ns b p i)) (e4 l _ (e3 l _ hl')) (ev_var rfl) (ev_is (ev_opU1 (y := .int (W / 3 % 3)) (eu_tup (ea_cons (ev_var rfl) (ea_cons (ev_if (v := .int (if lrowNum ns b i / 5 % 4 = 0 then lrowNum ns b i % p else 0)) (b := decide (lrowNum ns b i / 5 % 4 = 0)) (et_test (ev_is (ev_op (x := .int (lrowNum ns b i / 5 % 4)) (ev_op (ev_op (ev_var rfl) ev_c (rv_I (by walk_at "cond"))) ev_c (rv_I (by walk_at "cond"))) ev_c (rv_eq rfl)) (by rw [dec_int]; rfl))) (fun hb => by rw [if_pos (of_decide_eq_true hb)]; exact ev_var rfl) (fun hb => by rw [if_neg (of_decide_eq_false hb)]; exact ev_c)) (ea_cons (ev_op (ev_var rfl) (ev_var rfl) (rv_I (by walk_at "cond"))) ea_nil))) (by show (3 : Nat) ≤ 100000; decide)) (ev_op (ev_op (ev_var rfl) ev_c (rv_I (by walk_at "cond"))) ev_c (rv_I (by walk_at "cond")))
          fun t H5 h5 e5 => rv_atU (ns := [lrowNum ns b i % p, if lrowNum ns b i / 5 % 4 = 0 then lrowNum ns b i % p else 0, W % p]) (n := (W / 3 % 3).toNat) (st_of h5) (by omega) (by show _ < 3; omega)) ?_) ?_ fun H5 e5 => ?_
        · show V.int _ = V.int _
          unfold lrowAt
          rw [hW]
        · rw [List.length_map, List.length_map, List.length_range]
          omega
        · refine ⟨_, _, _, rfl, Ex.mut (((e.trans e3).trans e4).trans e5) nl0, ?_, ?_⟩
          · rw [upd_ne (ne_of_none (e2 c _ hc |> fun z => hc) (show H1 l = none from nl))]
            exact e5 c _ (e4 c _ (e3 c _ hc'))
          · rw [upd_same, List.range_succ, List.map_append, List.map_append]
            rfl
      · obtain ⟨z1, z2, z3, rfl, e, hc', hl'⟩ := hP
        have el : lrow ns b p m = (List.range (1 + W % m).toNat).map (lrowAt ns b p) := by
          unfold lrow
          rw [hW]
        rw [← el] at hl'
        exact s_ret (ev_var rfl) fun H3 e3 => q l H3 nl0 (e.trans e3) (e3 l _ hl')
theorem spl_l_row {H : Hp} {a : Addr} {ns : List Int} {b p m : Int} (ha : SqL K H a (ns.map V.int)) (hbits : ∀ z ∈ ns, Builtin.Int.intBits z ≤ 1048576) (b0 : 0 ≤ b) (b1 : b ≤ 1000) (hp : 0 < p) (m0 : 0 < m) (m1 : m ≤ 1000) : SpL (spLRow K) [.ref a, .int b, .int p, .int m] H ((lrow ns b p m).map V.int) :=
  fun H1 e Q q E => ⟨a, ns, b, p, m, rfl, ex_l e ha, hbits, b0, b1, hp, m0, m1, q⟩

/-! ### the law's product -/
def spLTimes (K : PySem.W.Frag) : Sp := fun vs H Q _ => ∃ (p : Int) (a b : Addr) (xs ys : List Int), vs = [.int p, .ref a, .ref b] ∧ 0 < p ∧ SqL K H a (xs.map V.int) ∧ SqL K H b (ys.map V.int) ∧ Sml xs ∧ xs.length ≤ 1000 ∧ RetL ((prodL p xs ys).map V.int) H Q
theorem ok_law_times {f : Addr} {fd : FuncData} (D : Dat K mg "_law_times" s_law_times ["_law_prime_here", "_law_one", "_law_other"] f fd) {a_PRIMES : Addr} {t_MOST_CUT : Tok} {a_PowerError : Addr} {a_BadPrime : Addr} {a_BadRow : Addr} {a_NoPart : Addr} {a_NoInside : Addr} (B : Blt K mg a_PRIMES t_MOST_CUT a_PowerError a_BadPrime a_BadRow a_NoPart a_NoInside) : Cal P w K mg base CX0 "_law_times" 1 ["_law_prime_here", "_law_one", "_law_other"] (spLTimes K) := by
  refine D.cal (D.F.ok sc_law_times (fun vs H Q E h => ?_) (fun cdv A outer s H vs Q E hr h => ?_))
  · obtain ⟨p, a, b, xs, ys, rfl, _⟩ := h
    rfl
  · obtain ⟨p, a, b, xs, ys, rfl, hp, ha, hb, hs, hx, q⟩ := h
    refine ⟨_, (pss_cons (ps_set (i := 3) sc_law_times.nd rfl (Or.inl rfl) (pe_callB (call_min2 rfl) (by rfl) B.min (by decide +kernel) (pa_cons (pe_callB (r := rLenS K) call_len_seq (by rfl) B.len PySem.boot_len (pa_cons (pv 1) pa_nil)) (pa_cons (pe_callB (r := rLenS K) call_len_seq (by rfl) B.len PySem.boot_len (pa_cons (pv 2) pa_nil)) pa_nil))))
    (pss_cons (ps_set (i := 4) sc_law_times.nd rfl (Or.inl rfl) (pe_op op_rep (pe_lst (pa_cons pe_int pa_nil)) (pv 3)))
    (pss_cons (ps_for PassesOwn.never rfl (pi_range1 rfl B.range (pa_cons (pv 3) pa_nil)) (pg_name (i := 5) sc_law_times.nd rfl (Or.inl rfl)) (pss_one (ps_for PassesOwn.never rfl (pi_range1 rfl B.range (pa_cons (pe_op op_sub (pv 3) (pv 5)) pa_nil)) (pg_name (i := 6) sc_law_times.nd rfl (Or.inl rfl)) (pss_cons (ps_set (i := 7) sc_law_times.nd rfl (Or.inl rfl) (pe_op op_add (pe_ix (r := rIxL K) ix_list (pv 4) (pe_op op_add (pv 5) (pv 6)) (fun _ _ => rfl)) (pe_op op_mulV (pe_ix (r := rIxL K) ix_list (pv 1) (pv 5) (fun _ _ => rfl)) (pe_ix (r := rIxL K) ix_list (pv 2) (pv 6) (fun _ _ => rfl)))))
    (pss_one (ps_asg (pe_op op_mod (pv 7) (pv 0)) (pg_sub (pv 4) (pe_op op_add (pv 5) (pv 6)) set_list)))))))
    (pss_one (ps_ret (pv 4)))))), ?_⟩
    generalize hm : min xs.length ys.length = m
    have mx : m ≤ xs.length := by omega
    have my : m ≤ ys.length := by omega
    refine q_asg (v := .int (m : Int)) (by rw [← hm]; walk_at "ev") fun H1 e1 => ?_
    refine q_asgL (xs := ((List.range m).map fun k => pc (sq xs) (sq ys) 0 k % p).map V.int) (el_is (el_rep (n := (m : Int)) (el_lst (ea_cons ev_c ea_nil) (by decide)) (ev_var rfl) (by omega) rfl) ?_) fun l H2 nl e2 hl => ?_
    · rw [Int.toNat_natCast, rep_one, rep_map]
      congr 1
    have nl0 : H l = none := fresh_back e1 nl
    refine q_forR1 (n := (m : Int)) (by walk_at "ev") (by omega) (fun i σ' H' => ∃ z1 z2 z3, σ' = [some (.int p), some (.ref a), some (.ref b), some (.int (m : Int)), some (.ref l), z1, z2, z3] ∧ Ex H H' ∧ H' l = some (.lst (((List.range m).map fun k => pc (sq xs) (sq ys) i k % p).map V.int)))
      (fun H3 e3 => ⟨none, none, none, rfl, (e1.trans e2).trans e3, e3 l _ hl⟩) (fun i σ' H' hi hP => ?_) fun σ' H' hP => ?_
    · obtain ⟨z1, z2, z3, rfl, e, hl'⟩ := hP
      refine s_forR1 (n := ((m - i : Nat) : Int)) (ea_cons (ev_is (ev_op (ev_var rfl) (ev_var rfl) rv_I0) (by show V.int _ = V.int _; congr 1; omega)) ea_nil) (by omega) (fun j σ' H' => ∃ z2 z3, σ' = [some (.int p), some (.ref a), some (.ref b), some (.int (m : Int)), some (.ref l), some (.int (i : Int)), z2, z3] ∧ Ex H H' ∧ H' l = some (.lst (((List.range m).map fun k => pcx (sq xs) (sq ys) i j k % p).map V.int)))
        (fun H3 e3 => ⟨_, _, rfl, e.trans e3, ?_⟩) (fun j σ' H' hj hP => ?_) fun σ' H' hP => ?_
      · rw [e3 l _ hl']
        congr 3
        apply List.map_congr_left
        intro k _
        rw [pcx_zero]
      · obtain ⟨z2, z3, rfl, e, hl'⟩ := hP
        have g1 : SqL K H' l (((List.range m).map fun k => pcx (sq xs) (sq ys) i j k % p).map V.int) := sq_of hl'
        have sx := hs.at i
        have nn : i + j < m := by omega
        refine q_asg (v := .int (pcx (sq xs) (sq ys) i j (i + j) % p + sq xs i * sq ys j)) (ev_is (ev_op (ev_op (ev_var rfl) (ev_op (ev_var rfl) (ev_var rfl) rv_I0) (rv_at g1 (n := i + j) (by omega) (by rw [List.length_map, List.length_range]; exact nn))) (ev_op (ev_op (ev_var rfl) (ev_var rfl) (rv_at (ex_l e ha) (n := i) rfl (by omega))) (ev_op (ev_var rfl) (ev_var rfl) (rv_at (ex_l e hb) (n := j) rfl (by omega))) (rv_I (mul_l (by omega)))) rv_I0) ?_) fun H3 e3 => ?_
        · rw [sq_map_range nn]
        · refine s_setL (j := i + j) (v := .int (pcx (sq xs) (sq ys) i (j + 1) (i + j) % p)) (e3 l _ hl') (ev_is (ev_op (ev_var rfl) (ev_var rfl) (rv_I (by walk_at "cond"))) ?_) (ev_var rfl) (ev_is (ev_op (ev_var rfl) (ev_var rfl) rv_I0) (by show V.int _ = V.int _; congr 1)) (by rw [List.length_map, List.length_map, List.length_range]; exact nn) fun H4 e4 => ?_
          · show V.int _ = V.int _
            rw [pcx_at]
            congr 1
            exact em_add (em_em _) rfl
          · refine ⟨_, _, rfl, Ex.mut ((e.trans e3).trans e4) nl0, ?_⟩
            rw [upd_same, List.map_map, List.map_map, set_map_range]
            congr 2
            apply List.map_congr_left
            intro k _
            show (if k = i + j then _ else V.int (pcx (sq xs) (sq ys) i j k % p)) = V.int (pcx (sq xs) (sq ys) i (j + 1) k % p)
            by_cases c : k = i + j
            · rw [if_pos c, c]
            · rw [if_neg c, pcx_else _ _ c]
      · obtain ⟨z2, z3, rfl, e, hl'⟩ := hP
        refine ⟨_, _, _, rfl, e, ?_⟩
        rw [hl']
        congr 3
        apply List.map_congr_left
        intro k hk
        have hk := List.mem_range.mp hk
        rw [pcx_full _ _ (by omega)]
    · obtain ⟨z1, z2, z3, rfl, e, hl'⟩ := hP
      have el : prodL p xs ys = (List.range m).map fun k => pc (sq xs) (sq ys) (m : Int).toNat k % p := by
        unfold prodL
        rw [hm]
        apply List.map_congr_left
        intro k hk
        rw [Int.toNat_natCast, pc_cv _ _ (List.mem_range.mp hk)]
      rw [← el] at hl'
      exact s_ret (ev_var rfl) fun H3 e3 => q l H3 nl0 (e.trans e3) (e3 l _ hl')
theorem spl_l_times {H : Hp} {p : Int} {a b : Addr} {xs ys : List Int} (hp : 0 < p) (ha : SqL K H a (xs.map V.int)) (hb : SqL K H b (ys.map V.int)) (hs : Sml xs) (hx : xs.length ≤ 1000) : SpL (spLTimes K) [.int p, .ref a, .ref b] H ((prodL p xs ys).map V.int) :=
  fun H1 e Q q E => ⟨p, a, b, xs, ys, rfl, hp, ex_l e ha, ex_l e hb, hs, hx, q⟩

/-! ### the law's putting in -/
def spLPut : Sp := fun vs H Q _ => ∃ (p : Int) (a b : Addr) (xs ys : List Int), vs = [.int p, .ref a, .ref b] ∧ Prm p ∧ H a = some (.lst (xs.map V.int)) ∧ H b = some (.lst (ys.map V.int)) ∧ Rowp p xs ∧ Rowp p ys ∧ sq ys 0 = 0 ∧ RetL ((putL p xs ys).map V.int) H Q
theorem ok_law_put {f : Addr} {fd : FuncData} (D : Dat K mg "_law_put" s_law_put ["_law_prime_here", "_law_outer", "_law_inner"] f fd) {a_PRIMES : Addr} {t_MOST_CUT : Tok} {a_PowerError : Addr} {a_BadPrime : Addr} {a_BadRow : Addr} {a_NoPart : Addr} {a_NoInside : Addr} (B : Blt K mg a_PRIMES t_MOST_CUT a_PowerError a_BadPrime a_BadRow a_NoPart a_NoInside) (C_law_times : Cal P w K mg base CX0 "_law_times" 1 ["_law_prime_here", "_law_one", "_law_other"] (spLTimes K)) : Cal P w K mg base CX0 "_law_put" 2 ["_law_prime_here", "_law_outer", "_law_inner"] spLPut := by
  refine D.cal (D.F.ok sc_law_put (fun vs H Q E h => ?_) (fun cdv A outer s H vs Q E hr h => ?_))
  · obtain ⟨p, a, b, xs, ys, rfl, _⟩ := h
    rfl
  · obtain ⟨p, a, b, xs, ys, rfl, hp, ha, hb, R1, R2, h0, q⟩ := h
    have p2 := hp.pos
    have l1 := R1.lo
    have l2 := R2.lo
    have u1 := R1.hi
    refine ⟨_, (pss_cons (ps_set (i := 3) sc_law_put.nd rfl (Or.inl rfl) (pe_callB (call_min2 rfl) (by rfl) B.min (by decide +kernel) (pa_cons (pe_callB (r := rLenS K) call_len_seq (by rfl) B.len PySem.boot_len (pa_cons (pv 1) pa_nil)) (pa_cons (pe_callB (r := rLenS K) call_len_seq (by rfl) B.len PySem.boot_len (pa_cons (pv 2) pa_nil)) pa_nil))))
    (pss_cons (ps_par (i := 4) (j := 5) (by rfl) sc_law_put.nd rfl rfl (by decide) rfl rfl (pa_cons (pe_op op_rep (pe_lst (pa_cons pe_int pa_nil)) (pv 3)) (pa_cons (pe_op op_cat (pe_lst (pa_cons pe_int pa_nil)) (pe_op op_rep (pe_lst (pa_cons pe_int pa_nil)) (pe_op op_sub (pv 3) pe_int))) pa_nil)) (by rfl))
    (pss_cons (ps_for PassesOwn.never rfl (pi_range1 rfl B.range (pa_cons (pv 3) pa_nil)) (pg_name (i := 6) sc_law_put.nd rfl (Or.inr rfl)) (pss_cons (ps_setLc (i := 4) (own := [("_law_mine", 7), ("_law_theirs", 8)]) (g := gTup K 2 (gCons (gName 7) (gCons (gName 8) (gNil)))) (tt := tYes) rfl sc_law_put.nd rfl rfl (sw_true rfl rfl rfl (by decide +kernel)) (pi_zip (by rfl) B.zip (pa_cons (pv 4) (pa_cons (pv 5) pa_nil))) (blkOk_by (N := nm_law_put) (sc := defScope s_law_put) (by decide +kernel)) (fun _ _ _ _ _ => (by exact pg_tup rfl (pgs_cons (pg_name (i := 7) sc_law_put.nd rfl (Or.inl rfl)) (pgs_cons (pg_name (i := 8) sc_law_put.nd rfl (Or.inl rfl)) pgs_nil)))) (fun _ _ _ _ _ => pts_nil) (fun _ _ _ _ _ => (pe_op op_mod (pe_op op_add (pv 7) (pe_op op_mulV (pe_ix (r := rIxL K) ix_list (pv 1) (pv 6) (fun _ _ => rfl)) (pv 8))) (pv 0))))
    (pss_one (ps_set (i := 5) sc_law_put.nd rfl (Or.inl rfl) (pe_c0 C_law_times (hr.mono (by decide)) (pa_cons (pv 0) (pa_cons (pv 5) (pa_cons (pe_slice (r := rSlL K) sl_list (pv 2) po_none (po_some (pv 3))) pa_nil))))))))
    (pss_one (ps_ret (pv 4)))))), ?_⟩
    obtain ⟨N, hN⟩ : ∃ N, N = min xs.length ys.length := ⟨_, rfl⟩
    have N1 : 1 ≤ N := by omega
    have RT : Rowp p (ys.take N) := R2.take N1
    have lt : (ys.take N).length = N := by
      rw [List.length_take]
      omega
    refine q_asg (v := .int (N : Int)) (by
      rw [hN]
      exact ev_cb (ea_cons (ev_cb (by walk_at "ev") (rc_lenI (sq_of ha))) (ea_cons (ev_cb (by walk_at "ev") (rc_lenI (sq_of hb))) ea_nil)) rc_minN) fun H1 e1 => ?_
    refine q_parLL (xs := (comL p xs ys N 0).map V.int) (ys := (powL p (ys.take N) 0).map V.int) (el_is (el_rep (n := (N : Int)) (el_lst (ea_cons ev_c ea_nil) (by decide)) (ev_var rfl) (by omega) rfl) ?_) (el_is (el_catLL (xs := [V.int 1]) (ys := (List.replicate (N - 1) [V.int 0]).flatten) (el_lst (ea_cons ev_c ea_nil) (by decide)) (el_rep (n := ((N - 1 : Nat) : Int)) (el_lst (ea_cons ev_c ea_nil) (by decide)) (ev_is (ev_op (ev_var rfl) ev_c rv_I0) (by show V.int _ = V.int _; congr 1; omega)) (by omega) rfl) ?_) ?_) fun fo he H2 nf nh hne e2 hf hh => ?_
    · rw [Int.toNat_natCast, rep_one, comL_zero, List.map_replicate]
    · rw [rep_one, List.length_replicate]
      show 1 + (N - 1) ≤ 100000
      omega
    · rw [rep_one, powL_zero (by omega) (by omega), lt, List.map_cons, List.map_replicate]
      rfl
    have e12 := e1.trans e2
    refine q_forR1 (n := (N : Int)) (ea_cons (ev_var rfl) ea_nil) (by omega) (fun i σ' H' => ∃ (fo he : Addr) (z1 : Option V), σ' = [some (.int p), some (.ref a), some (.ref b), some (.int (N : Int)), some (.ref fo), some (.ref he), z1, none, none] ∧ Ex H H' ∧ H fo = none ∧ H' fo = some (.lst ((comL p xs ys N i).map V.int)) ∧ H' he = some (.lst ((powL p (ys.take N) i).map V.int)))
      (fun H3 e3 => ⟨fo, he, none, rfl, e12.trans e3, fresh_back e1 nf, e3 fo _ hf, e3 he _ hh⟩) (fun i σ' H' hi hP => ?_) fun σ' H' hP => ?_
    · obtain ⟨fo, he, z1, rfl, e, nf, hf, hh⟩ := hP
      have hs := comL_sml (show 0 < p by omega) (by omega) xs ys N i
      have PR : Rowp p (powL p (ys.take N) i) := powL_rowp (by omega) RT i
      have bx := R1.at (n := i) (by omega)
      have nx := comL_next (p := p) xs ys N i (by omega)
      have lf := comL_len p xs ys N i
      generalize comL p xs ys N i = F at hf hs nx lf
      refine q_asgL (xs := (comL p xs ys N (i + 1)).map V.int) (el_is (el_int (n := min F.length (powL p (ys.take N) i).length) (f := fun n => (sq F n + sq xs i * sq (powL p (ys.take N) i) n) % p) (el_zip (xs := F) (ys := powL p (ys.take N) i) (fun n => V.int ((sq F n + sq xs i * sq (powL p (ys.take N) i) n) % p)) (by walk_at "ev") (sq_of hf) (sq_of hh) (by omega) (fun _ _ => rfl) fun n H3 e3 hn => ev_op (ev_op (ev_var rfl) (ev_op (ev_op (ev_var rfl) (ev_var rfl) (rv_at (sq_of (e3 a _ (e a _ ha))) (n := i) rfl (by omega))) (ev_var rfl) (rv_I (mul_l (by omega)))) rv_I0) (ev_var rfl) (rv_I (by walk_at "cond")))) (by rw [nx])) fun f2 H3 n3 e3 h3 => ?_
      refine s_asgL (xs := (powL p (ys.take N) (i + 1)).map V.int) (el_callP (eap_cons (ev_var rfl) (eap_cons (ev_var rfl) (eap_consL (el_is (el_sl (ev_var rfl) eo_none (eo_some (ev_var rfl)) (sq_of (e3 b _ (e b _ hb)))) (cut_to ys N)) eap_nil))) fun vs H4 e4 hP => ?_) fun h2 H4 n4 e4 h4 => ?_
      · obtain ⟨_, rfl, _, rfl, t3, _, rfl, ht, _, rfl⟩ := hP
        have g := spl_l_times (K := K) (H := H4) (p := p) (xs := powL p (ys.take N) i) (ys := ys.take N) (by omega) (sq_of (e4 he _ (e3 he _ hh))) (sq_of ht) (PR.sml (by omega)) (by rw [powL_len, lt]; omega)
        rw [powL_succ RT] at g
        exact g
      · exact ⟨f2, h2, _, rfl, (e.trans e3).trans e4, fresh_back e n3, e4 f2 _ h3, h4⟩
    · obtain ⟨fo, he, z1, rfl, e, nf, hf, hh⟩ := hP
      rw [Int.toNat_natCast, hN, comL_end h0] at hf
      exact s_ret (ev_var rfl) fun H3 e3 => q fo H3 nf (e.trans e3) (e3 fo _ hf)
theorem spl_l_put {H : Hp} {p : Int} {a b : Addr} {xs ys : List Int} (hp : Prm p) (ha : H a = some (.lst (xs.map V.int))) (hb : H b = some (.lst (ys.map V.int))) (R1 : Rowp p xs) (R2 : Rowp p ys) (h0 : sq ys 0 = 0) : SpL spLPut [.int p, .ref a, .ref b] H ((putL p xs ys).map V.int) :=
  fun H1 e Q q E => ⟨p, a, b, xs, ys, rfl, hp, e a _ ha, e b _ hb, R1, R2, h0, q⟩

/-! ### the law's look at a row turned inside out -/
def spLOutRight : Sp := fun vs H Q _ => ∃ (p : Int) (a : Addr) (xs : List Int), vs = [.int p, .ref a] ∧ Prm p ∧ H a = some (.lst (xs.map V.int)) ∧ Rowp p xs ∧ 2 ≤ xs.length ∧ sq xs 0 = 0 ∧ sq xs 1 ≠ 0 ∧ RetV (.bl true) H Q
theorem ok_law_out_right {f : Addr} {fd : FuncData} (D : Dat K mg "_law_out_right" s_law_out_right ["_law_prime_here", "_law_row_here"] f fd) {a_PRIMES : Addr} {t_MOST_CUT : Tok} {a_PowerError : Addr} {a_BadPrime : Addr} {a_BadRow : Addr} {a_NoPart : Addr} {a_NoInside : Addr} (B : Blt K mg a_PRIMES t_MOST_CUT a_PowerError a_BadPrime a_BadRow a_NoPart a_NoInside) (C_turned_out : Cal P w K mg base CX0 "turned_out" 10 ["prime", "row"] spTurnedOut) (C_law_put : Cal P w K mg base CX0 "_law_put" 2 ["_law_prime_here", "_law_outer", "_law_inner"] spLPut) : Cal P w K mg base CX0 "_law_out_right" 20 ["_law_prime_here", "_law_row_here"] spLOutRight := by
  refine D.cal (D.F.ok sc_law_out_right (fun vs H Q E h => ?_) (fun cdv A outer s H vs Q E hr h => ?_))
  · obtain ⟨p, a, xs, rfl, _⟩ := h
    rfl
  · obtain ⟨p, a, xs, rfl, hp, ha, R, l2, x0, x1, q⟩ := h
    have p2 := hp.pos
    have hi := R.hi
    have RO := outL_rowp hp R
    have lO := outL_len p xs
    have o0 := outL_zero p (xs := xs) (by omega)
    have o1 := outL_one hp R l2 x0 x1
    have P1 := put_out_left hp R l2 x0 x1
    have P2 := put_out_right hp R l2 x0 x1
    have P3 := outL_both hp R l2 x0 x1
    generalize hO : outL p xs = O at RO lO o0 o1 P1 P2 P3
    refine ⟨_, (pss_cons (ps_set (i := 2) sc_law_out_right.nd rfl (Or.inl rfl) (pe_op op_cat (pe_lst (pa_cons pe_int (pa_cons pe_int pa_nil))) (pe_op op_rep (pe_lst (pa_cons pe_int pa_nil)) (pe_op op_sub (pe_callB (r := rLenS K) call_len_seq (by rfl) B.len PySem.boot_len (pa_cons (pv 1) pa_nil)) pe_int))))
    (pss_cons (ps_set (i := 3) sc_law_out_right.nd rfl (Or.inl rfl) (pe_callTy (r := rListS K) call_list_of (by rfl) B.list (by decide +kernel) (pa_cons (pv 1) pa_nil)))
    (pss_cons (ps_for PassesOwn.never rfl (pi_range1 rfl B.range (pa_cons pe_int pa_nil)) (pg_name (i := 4) sc_law_out_right.nd rfl (Or.inl rfl)) (pss_cons (ps_set (i := 5) sc_law_out_right.nd rfl (Or.inl rfl) (pe_c0 C_turned_out (hr.mono (by decide)) (pa_cons (pv 0) (pa_cons (pv 3) pa_nil))))
    (pss_cons (ps_if (PW.pt (pw_or (pt_not (pt_val (pe_callB (r := rIsi K) call_isi (by rfl) B.isinstance (by decide +kernel) (pa_cons (pv 5) (pa_cons (pe_bltn (v := .ty "list") (by rfl) B.list (by decide +kernel) rfl) pa_nil))))) (pw_or (pt_cmpR op_ne (pe_callB (r := rLenS K) call_len_seq (by rfl) B.len PySem.boot_len (pa_cons (pv 5) pa_nil)) (pe_callB (r := rLenS K) call_len_seq (by rfl) B.len PySem.boot_len (pa_cons (pv 1) pa_nil)) (nomark _)) (pw_or1 (pt_cmpR (r := rNeD K) (op_neD hr.units) (pv 3) (pv 1) (nomark _)))))) (pss_one (ps_ret pe_bl)) pss_nil)
    (pss_cons (ps_if (PW.pt (pw_or (pt_cmpR (r := rNeD K) (op_neD hr.units) (pe_c0 C_law_put (hr.mono (by decide)) (pa_cons (pv 0) (pa_cons (pv 1) (pa_cons (pv 5) pa_nil)))) (pv 2) (nomark _)) (pw_or1 (pt_cmpR (r := rNeD K) (op_neD hr.units) (pe_c0 C_law_put (hr.mono (by decide)) (pa_cons (pv 0) (pa_cons (pv 5) (pa_cons (pv 1) pa_nil)))) (pv 2) (nomark _))))) (pss_one (ps_ret pe_bl)) pss_nil)
    (pss_cons (ps_if (pt_cmpR (r := rNeD K) (op_neD hr.units) (pe_c0 C_turned_out (hr.mono (by decide)) (pa_cons (pv 0) (pa_cons (pv 5) pa_nil))) (pv 1) (nomark _)) (pss_one (ps_ret pe_bl)) pss_nil)
    (pss_one (ps_expr (pe_bm PySem.F.plainAttrs_list PySem.F.slot_list_append PySem.F.type_list_append mt_append (pv 5) (pa_cons pe_int pa_nil)))))))))
    (pss_one (ps_ret pe_bl))))), ?_⟩
    refine q_asgL (xs := (plainL xs.length).map V.int) (el_is (el_catLL (xs := [V.int 0, V.int 1]) (ys := (List.replicate (xs.length - 2) [V.int 0]).flatten) (el_lst (ea_cons ev_c (ea_cons ev_c ea_nil)) (by decide)) (el_rep (n := ((xs.length - 2 : Nat) : Int)) (el_lst (ea_cons ev_c ea_nil) (by decide)) (ev_is (ev_op (ev_cb (by walk_at "ev") (rc_lenI (sq_of ha))) ev_c rv_I0) (by show V.int _ = V.int _; congr 1; omega)) (by omega) rfl) ?_) ?_) fun pl H1 npl e1 hpl => ?_
    · rw [rep_one, List.length_replicate]
      show 2 + (xs.length - 2) ≤ 100000
      omega
    · rw [rep_one]
      unfold plainL
      rw [List.map_cons, List.map_cons, List.map_replicate]
      rfl
    refine q_asgL (xs := xs.map V.int) (el_cb (by walk_at "ev") (rcl_list (sq_of (e1 a _ ha)))) fun h H2 nh e2 hh => ?_
    have hp2 := e2 pl _ hpl
    have ha2 := e2 a _ (e1 a _ ha)
    refine q_forR1 (n := 2) (by walk_at "ev") (by decide) (fun i σ' H' => ∃ (z1 z2 : Option V), σ' = [some (.int p), some (.ref a), some (.ref pl), some (.ref h), z1, z2] ∧ Ex H2 H') (fun H3 e3 => ⟨none, none, rfl, e3⟩) (fun k σ' H' hk hP => ?_) fun σ' H' hP => ?_
    · obtain ⟨z1, z2, rfl, e3⟩ := hP
      have ha3 := e3 a _ ha2
      have hh3 := e3 h _ hh
      have hp3 := e3 pl _ hp2
      have g1 := spl_turned_out (H := H') hp hh3 R l2 x0 x1
      rw [hO] at g1
      refine q_asgL (xs := O.map V.int) (el_call (by walk_at "ev") g1) fun b H4 nb e4 hb => ?_
      have ha4 := e4 a _ ha3
      have hh4 := e4 h _ hh3
      have hp4 := e4 pl _ hp3
      refine q_when (b := false) (et_or (a := false) (b := false) (et_not (a := true) (et_B (ev_cb (by walk_at "ev") (rc_isi_lst hb (by decide +kernel))))) fun _ => et_or (a := false) (b := false) (et_test (ev_is (ev_op (ev_cb (by walk_at "ev") (rc_lenI (sq_of hb))) (ev_cb (by walk_at "ev") (rc_lenI (sq_of ha4))) (rv_ne rfl)) (by rw [lO, decide_eq_true rfl]; rfl))) fun _ =>
        et_test (ev_is (ev_op (ev_var rfl) (ev_var rfl) (rv_neL (ns := xs) (ms := xs) (sq_of hh4) (sq_of ha4))) (by rw [decide_eq_true rfl]; rfl))) (fun z => Bool.noConfusion z) fun _ H5 e5 => ?_
      have g2 := spl_l_put (H := H5) hp (e5 a _ ha4) (e5 b _ hb) R RO o0
      rw [P2] at g2
      have g3 := spl_l_put (H := H5) hp (e5 b _ hb) (e5 a _ ha4) RO R x0
      rw [P1] at g3
      refine q_when (b := false) (et_or (a := false) (b := false) (et_test (ev_is (ev_opL1 (xs := (plainL xs.length).map V.int) (el_call (by walk_at "ev") g2) (fun H6 e6 => ev_var rfl) fun t6 H6 h6 e6 => rv_neL (sq_of h6) (sq_of (e6 pl _ (e5 pl _ hp4)))) (by rw [decide_eq_true rfl]; rfl))) fun _ =>
        et_test (ev_is (ev_opL1 (xs := (plainL xs.length).map V.int) (el_call (by walk_at "ev") g3) (fun H6 e6 => ev_var rfl) fun t6 H6 h6 e6 => rv_neL (sq_of h6) (sq_of (e6 pl _ (e5 pl _ hp4)))) (by rw [decide_eq_true rfl]; rfl))) (fun z => Bool.noConfusion z) fun _ H6 e6 => ?_
      have g4 := spl_turned_out (H := H6) hp (e6 b _ (e5 b _ hb)) RO (by omega) o0 o1
      rw [P3] at g4
      refine q_when (b := false) (et_test (ev_is (ev_opL1 (xs := xs.map V.int) (el_call (by walk_at "ev") g4) (fun H7 e7 => ev_var rfl) fun t7 H7 h7 e7 => rv_neL (ns := xs) (ms := xs) (sq_of h7) (sq_of (e7 a _ (e6 a _ (e5 a _ ha4))))) (by rw [decide_eq_true rfl]; rfl))) (fun z => Bool.noConfusion z) fun _ H7 e7 => ?_
      refine s_app (e7 b _ (e6 b _ (e5 b _ hb))) (ev_var rfl) ev_c (by rw [List.length_map]; omega) fun H8 e8 => ?_
      exact ⟨_, _, rfl, e3.trans (Ex.mut ((((e4.trans e5).trans e6).trans e7).trans e8) nb)⟩
    · obtain ⟨z1, z2, rfl, e3⟩ := hP
      exact s_ret ev_c fun H4 e4 => q H4 (((e1.trans e2).trans e3).trans e4)
theorem spv_l_out_right {H : Hp} {p : Int} {a : Addr} {xs : List Int} (hp : Prm p) (ha : H a = some (.lst (xs.map V.int))) (R : Rowp p xs) (l2 : 2 ≤ xs.length) (x0 : sq xs 0 = 0) (x1 : sq xs 1 ≠ 0) : SpV spLOutRight [.int p, .ref a] H (.bl true) := fun H1 e Q q E => ⟨p, a, xs, rfl, hp, e a _ ha, R, l2, x0, x1, q⟩

/-! ### the law's look at a refusal: no inside, a lambda asked -/
open LamX NdefX
def spLNone (P : Program) (w : World) (K : PySem.W.Frag) (mg : Str → Option Value) (base : Heap) (C : Addr) : Shared → Sp := fun s vs H Q _ => ∃ (f1 x : Addr) (L1 : LM) (ws1 : List (Option V)) (fr1 : List Str) (sp1 : List (Option V) → Sp), vs = [.ref f1, .ref x] ∧
  LOk P w K mg base (L2N.CX P w) 11 f1 L1 ["_law_this"] fr1 sp1 ∧ CellsAt L1.cl fr1 ws1 s.heap H ∧ H f1 = some (LamO f1 L1) ∧ H L1.c = some (CodeO L1.c L1.qual) ∧
  (∀ H1 Q1 E1, Ex H H1 → (∀ H2, Ex H1 H2 → E1 (.ref C) none H2) → sp1 ws1 [.ref x] H1 Q1 E1) ∧ RetV (.bl true) H Q
theorem ok_law_none {f : Addr} {fd : FuncData} (D : Dat K mg "_law_none" s_law_none ["_law_ask", "_law_what"] f fd) {a_PRIMES : Addr} {t_MOST_CUT : Tok} {a_PowerError : Addr} {a_BadPrime : Addr} {a_BadRow : Addr} {a_NoPart : Addr} {a_NoInside : Addr} (B : Blt K mg a_PRIMES t_MOST_CUT a_PowerError a_BadPrime a_BadRow a_NoPart a_NoInside) (E_NoInside : ExcC K a_NoInside) (M_NoInside_PowerError : PySem.W.exmOne K (.ref a_NoInside) (.ref a_PowerError) = some true)
    (K_NoInside_BadRow : PySem.W.kitOne K (.ref a_NoInside) (.ref a_BadRow) = some false) (K_NoInside_BadPrime : PySem.W.kitOne K (.ref a_NoInside) (.ref a_BadPrime) = some false) (K_NoInside_NoPart : PySem.W.kitOne K (.ref a_NoInside) (.ref a_NoPart) = some false) (K_NoInside_NoInside : PySem.W.kitOne K (.ref a_NoInside) (.ref a_NoInside) = some true) :
    CalT P w K mg base CX0 "_law_none" 15 ["_law_ask", "_law_what"] (spLNone P w K mg base a_NoInside) := by
  refine D.calT sc_law_none (fun s vs H Q E h => ?_) (fun cdv A outer s H vs Q E hr h => ?_)
  · obtain ⟨f1, x, L1, ws1, fr1, sp1, rfl, _⟩ := h
    rfl
  · obtain ⟨f1, x, L1, ws1, fr1, sp1, rfl, FN1, CC1, hf, hc, hsp, q⟩ := h
    refine ⟨_, (pss_cons (L2N.ps_try_as (i := 2) (tb := fun W => (tDrop (tAsk 0 f1 L1 ws1 sp1 (WE W) (tCons (tVar 1) tNil)))) (ts := fun a cls d => (tSeq (tAsg (tLst (tCons (tCB (rIsX K a cls d) (tCons (tVar 2) (tCons (tC (.ref a_BadRow)) tNil))) (tCons (tCB (rIsX K a cls d) (tCons (tVar 2) (tCons (tC (.ref a_BadPrime)) tNil))) (tCons (tCB (rIsX K a cls d) (tCons (tVar 2) (tCons (tC (.ref a_NoPart)) tNil))) tNil)))) (gName 3)) (tRet (tAndV (tCB (rIsX K a cls d) (tCons (tVar 2) (tCons (tC (.ref a_NoInside)) tNil))) (tNotV (tCB (rAny K) (tCons (tVar 3) tNil))))))) rfl rfl sc_law_none.nd rfl rfl ⟨rfl, by decide, .inl B.PowerError⟩ takes0N (fun W pn xe tk _ => (pss_one (ps_expr (pe_ask FN1 CC1 rfl (hr.mono (by decide)) (fun σ => L2N.passAt tk σ) rfl (Or.inl rfl) (pa_cons (pv 1) pa_nil))))) (fun a oe cls d pn hz hf => (pss_cons (ps_set (i := 3) sc_law_none.nd rfl (Or.inl rfl) (pe_lst (pa_cons (pe_callB (r := rIsX K a cls d) (call_isX hz.zc hf) (by rfl) B.isinstance (by decide +kernel) (pa_cons (pv 2) (pa_cons (pe_glob (v := .ref a_BadRow) rfl B.BadRow rfl) pa_nil))) (pa_cons (pe_callB (r := rIsX K a cls d) (call_isX hz.zc hf) (by rfl) B.isinstance (by decide +kernel) (pa_cons (pv 2) (pa_cons (pe_glob (v := .ref a_BadPrime) rfl B.BadPrime rfl) pa_nil))) (pa_cons (pe_callB (r := rIsX K a cls d) (call_isX hz.zc hf) (by rfl) B.isinstance (by decide +kernel) (pa_cons (pv 2) (pa_cons (pe_glob (v := .ref a_NoPart) rfl B.NoPart rfl) pa_nil))) pa_nil)))))
    (pss_one (ps_ret (pe_and (pe_callB (r := rIsX K a cls d) (call_isX hz.zc hf) (by rfl) B.isinstance (by decide +kernel) (pa_cons (pv 2) (pa_cons (pe_glob (v := .ref a_NoInside) rfl B.NoInside rfl) pa_nil))) (pe_one (pe_not (pe_callB (r := rAny K) (cr_anyH hz hf) (by rfl) B.any (by decide +kernel) (pa_cons (pv 3) pa_nil))))))))))
    (pss_one (ps_ret pe_bl))), ?_⟩
    refine q_trya (by walk_at "ev") rfl hf hc fun H1 e1 => hsp H1 _ _ e1 fun H2 e2 => ⟨true, M_NoInside_PowerError, fun _ x hx => ?_, fun z => Bool.noConfusion z⟩
    refine q_asgL (xs := [.bl false, .bl false, .bl false]) (el_lst (ea_cons (ev_cb (ea_cons (ev_var rfl) (ea_cons ev_c ea_nil)) (rc_isX E_NoInside K_NoInside_BadRow)) (ea_cons (ev_cb (ea_cons (ev_var rfl) (ea_cons ev_c ea_nil)) (rc_isX E_NoInside K_NoInside_BadPrime)) (ea_cons (ev_cb (ea_cons (ev_var rfl) (ea_cons ev_c ea_nil)) (rc_isX E_NoInside K_NoInside_NoPart)) ea_nil))) (by decide)) fun l H3 n3 e3 h3 => ?_
    exact s_ret (ev_andV (a := true) (b := true) (ev_cb (ea_cons (ev_var rfl) (ea_cons ev_c ea_nil)) (rc_isX E_NoInside K_NoInside_NoInside)) fun _ => ev_notV (a := false) (ev_cb (ea_cons (ev_var rfl) ea_nil) (rc_any (bs := [false, false, false]) (sq_of h3)))) fun H4 e4 => q H4 (((e1.trans e2).trans e3).trans e4)

/-! ### the law -/
open LamX NdefX
def spLaw (K : PySem.W.Frag) (PP : Addr) : Sp := fun vs H Q _ => ∃ (a : Addr) (ns : List Int), vs = [.ref a] ∧ SqL K H a (ns.map V.int) ∧ (∀ z ∈ ns, Builtin.Int.intBits z ≤ 1048576) ∧ H PP = some (.tbl #[]) ∧ ∀ H', Q (.bl true) H'
/-- what the law's lambdas promise: refused -/
def spLamPut (C : Addr) : List (Option V) → Sp := fun ws vs H Q E => ∃ (p : Int) (o b : Addr), ws = [some (.int p), some (.ref o)] ∧ vs = [.ref b] ∧ spPutInX C [.int p, .ref o, .ref b] H Q E
def spLamOut (C : Addr) : List (Option V) → Sp := fun ws vs H Q E => ∃ (p : Int) (b : Addr), ws = [some (.int p)] ∧ vs = [.ref b] ∧ spTurnedOutX C [.int p, .ref b] H Q E
theorem ok_law {f cc PP : Addr} {fd : FuncData} (D : DatC K mg "law" s_law ["_law_script"] f fd cc) (TB : TabB base mg cc PP) {a_PRIMES : Addr} {t_MOST_CUT : Tok} {a_PowerError : Addr} {a_BadPrime : Addr} {a_BadRow : Addr} {a_NoPart : Addr} {a_NoInside : Addr} (B : Blt K mg a_PRIMES t_MOST_CUT a_PowerError a_BadPrime a_BadRow a_NoPart a_NoInside)
    (C_law_prime : Cal P w K mg base CX0 "_law_prime" 1 ["_law_script", "_law_by"] (spLPrime K)) (C_law_row : Cal P w K mg base CX0 "_law_row" 2 ["_law_script", "_law_by", "_law_prime_here", "_law_most"] (spLRow K))
    (C_put_in : Cal P w K mg base CX0 "put_in" 10 ["prime", "outer", "inner"] spPutIn) (C_turned_out : Cal P w K mg base CX0 "turned_out" 10 ["prime", "row"] spTurnedOut)
    (X_put_in : Cal P w K mg base (L2N.CX P w) "put_in" 10 ["prime", "outer", "inner"] (spPutInX a_NoInside)) (X_turned_out : Cal P w K mg base (L2N.CX P w) "turned_out" 10 ["prime", "row"] (spTurnedOutX a_NoInside))
    (C_law_put : Cal P w K mg base CX0 "_law_put" 2 ["_law_prime_here", "_law_outer", "_law_inner"] spLPut) (C_law_out_right : Cal P w K mg base CX0 "_law_out_right" 20 ["_law_prime_here", "_law_row_here"] spLOutRight)
    (C_law_none : CalT P w K mg base CX0 "_law_none" 15 ["_law_ask", "_law_what"] (spLNone P w K mg base a_NoInside)) : FnOk P w K mg base CX0 30 f fd ["_law_script"] (spLaw K PP) := by
  refine D.ok sc_law (fun vs H Q E h => ?_) (fun A outer s H vs Q E hr h => ?_)
  · obtain ⟨a, ns, rfl, _⟩ := h
    rfl
  · obtain ⟨a, ns, rfl, ha, hbits, hPP, q⟩ := h
    refine ⟨_, (pss_cons (ps_set (i := 1) sc_law.nd rfl (Or.inl rfl) (pe_callB call_abs (by rfl) B.abs (by decide +kernel) (pa_cons (pe_callB (r := rSum K) (cr_sum rfl) (by rfl) B.sum (by decide +kernel) (pa_cons (pe_slice (r := rSlL K) sl_list (pv 0) po_none (po_some pe_int)) pa_nil)) pa_nil)))
    (pss_cons (ps_for PassesOwn.never rfl (pi_list (pe_lst (pa_cons pe_int (pa_cons pe_int pa_nil)))) (pg_name (i := 2) sc_law.nd rfl (Or.inl rfl)) (pss_cons (ps_asg (pe_tup (pa_cons (pe_c0 C_law_prime (hr.mono (by decide)) (pa_cons (pv 0) (pa_cons (pv 2) pa_nil))) (pa_cons (pe_ifExp (pt_cmpR op_eq (pe_op op_mod (pv 1) pe_int) (pv 2) (nomark _)) pe_int pe_int) pa_nil))) (pg_tup rfl (pgs_cons (pg_name (i := 3) sc_law.nd rfl (Or.inr rfl)) (pgs_cons (pg_name (i := 4) sc_law.nd rfl (Or.inl rfl)) pgs_nil))))
    (pss_cons (ps_asg (pe_tup (pa_cons (pe_c0 C_law_row (hr.mono (by decide)) (pa_cons (pv 0) (pa_cons (pv 2) (pa_cons (pv 3) (pa_cons (pv 4) pa_nil))))) (pa_cons (pe_op op_cat (pe_lst (pa_cons pe_int pa_nil)) (pe_c0 C_law_row (hr.mono (by decide)) (pa_cons (pv 0) (pa_cons (pe_op op_add (pv 2) pe_int) (pa_cons (pv 3) (pa_cons (pv 4) pa_nil)))))) pa_nil))) (pg_tup rfl (pgs_cons (pg_name (i := 5) sc_law.nd rfl (Or.inr rfl)) (pgs_cons (pg_name (i := 6) sc_law.nd rfl (Or.inl rfl)) pgs_nil))))
    (pss_cons (ps_set (i := 7) sc_law.nd rfl (Or.inl rfl) (pe_op op_cat (pe_lst (pa_cons pe_int pa_nil)) (pe_c0 C_law_row (hr.mono (by decide)) (pa_cons (pv 0) (pa_cons (pe_op op_add (pv 2) pe_int) (pa_cons (pv 3) (pa_cons (pv 4) pa_nil)))))))
    (pss_cons (ps_par (i := 8) (j := 9) (by rfl) sc_law.nd rfl rfl (by decide) rfl rfl (pa_cons (pe_callTy (r := rListS K) call_list_of (by rfl) B.list (by decide +kernel) (pa_cons (pv 5) pa_nil)) (pa_cons (pe_callTy (r := rListS K) call_list_of (by rfl) B.list (by decide +kernel) (pa_cons (pv 6) pa_nil)) pa_nil)) (by rfl))
    (pss_cons (ps_for PassesOwn.never rfl (pi_range1 rfl B.range (pa_cons pe_int pa_nil)) (pg_name (i := 10) sc_law.nd rfl (Or.inl rfl)) (pss_cons (ps_set (i := 11) sc_law.nd rfl (Or.inl rfl) (pe_c0 C_put_in (hr.mono (by decide)) (pa_cons (pv 3) (pa_cons (pv 8) (pa_cons (pv 9) pa_nil)))))
    (pss_cons (ps_if (PW.pt (pw_or (pt_not (pt_val (pe_callB (r := rIsi K) call_isi (by rfl) B.isinstance (by decide +kernel) (pa_cons (pv 11) (pa_cons (pe_bltn (v := .ty "list") (by rfl) B.list (by decide +kernel) rfl) pa_nil))))) (pw_or1 (pt_cmpR (r := rNeD K) (op_neD hr.units) (pv 11) (pe_c0 C_law_put (hr.mono (by decide)) (pa_cons (pv 3) (pa_cons (pv 5) (pa_cons (pv 6) pa_nil)))) (nomark _))))) (pss_one (ps_ret pe_bl)) pss_nil)
    (pss_cons (ps_if (PW.pt (pw_or (pt_cmpR (r := rNeD K) (op_neD hr.units) (pv 8) (pv 5) (nomark _)) (pw_or1 (pt_cmpR (r := rNeD K) (op_neD hr.units) (pv 9) (pv 6) (nomark _))))) (pss_one (ps_ret pe_bl)) pss_nil)
    (pss_cons (ps_if (pt_val (pe_callB (r := rAny K) (cr_any rfl) (by rfl) B.any (by decide +kernel) (pa_cons (pe_lc (own := [("_law_one", 12)]) (g := gName 12) (tt := tYes) (by rfl) sc_law.nd (pi_list (pv 11)) (blkOk_by (N := nm_law) (sc := defScope s_law) (by decide +kernel)) (fun _ _ _ _ _ => pg_name (i := 12) sc_law.nd rfl (Or.inl rfl)) (fun _ _ _ _ _ => pts_nil) (fun _ _ _ _ _ => (pe_callB (r := rIsi K) call_isi (by rfl) B.isinstance (by decide +kernel) (pa_cons (pv 12) (pa_cons (pe_bltn (v := .ty "bool") (by rfl) B.bool (by decide +kernel) rfl) pa_nil))))) pa_nil))) (pss_one (ps_ret pe_bl)) pss_nil)
    (pss_one (ps_expr (pe_bm PySem.F.plainAttrs_list PySem.F.slot_list_append PySem.F.type_list_append mt_append (pv 11) (pa_cons pe_int pa_nil)))))))))
    (pss_cons (ps_set (i := 13) sc_law.nd rfl (Or.inl rfl) (pe_callB (call_min3 rfl) (by rfl) B.min (by decide +kernel) (pa_cons (pe_callB (r := rLenS K) call_len_seq (by rfl) B.len PySem.boot_len (pa_cons (pv 5) pa_nil)) (pa_cons (pe_callB (r := rLenS K) call_len_seq (by rfl) B.len PySem.boot_len (pa_cons (pv 6) pa_nil)) (pa_cons (pe_callB (r := rLenS K) call_len_seq (by rfl) B.len PySem.boot_len (pa_cons (pv 7) pa_nil)) pa_nil)))))
    (pss_cons (ps_set (i := 14) sc_law.nd rfl (Or.inl rfl) (pe_c0 C_put_in (hr.mono (by decide)) (pa_cons (pv 3) (pa_cons (pe_c0 C_put_in (hr.mono (by decide)) (pa_cons (pv 3) (pa_cons (pv 5) (pa_cons (pv 6) pa_nil)))) (pa_cons (pv 7) pa_nil)))))
    (pss_cons (ps_if (pt_cmpR (r := rNeD K) (op_neD hr.units) (pe_slice (r := rSlL K) sl_list (pv 14) po_none (po_some (pv 13))) (pe_slice (r := rSlL K) sl_list (pe_c0 C_put_in (hr.mono (by decide)) (pa_cons (pv 3) (pa_cons (pv 5) (pa_cons (pe_c0 C_put_in (hr.mono (by decide)) (pa_cons (pv 3) (pa_cons (pv 6) (pa_cons (pv 7) pa_nil)))) pa_nil)))) po_none (po_some (pv 13))) (nomark _)) (pss_one (ps_ret pe_bl)) pss_nil)
    (pss_cons (ps_if (pt_not (pt_val (pe_c0 C_law_out_right (hr.mono (by decide)) (pa_cons (pv 3) (pa_cons (pe_op op_cat (pe_lst (pa_cons pe_int (pa_cons (pe_op op_add pe_int (pe_op op_mod (pv 1) (pe_op op_sub (pv 3) pe_int))) pa_nil))) (pv 5)) pa_nil))))) (pss_one (ps_ret pe_bl)) pss_nil)
    (pss_cons (ps_if (pt_not (pt_val (pe_cT C_law_none (hr.mono (by decide)) (pa_cons (pe_lam (T := TTof "law" PP) TB rfl tt_mem tt_uni (free_of (sc := defScope s_law) rfl (by decide +kernel))) (pa_cons (pe_op op_cat (pe_lst (pa_cons (pe_op op_add pe_int (pe_op op_mod (pv 1) (pe_op op_sub (pv 3) pe_int))) pa_nil)) (pv 5)) pa_nil))))) (pss_one (ps_ret pe_bl)) pss_nil)
    (pss_cons (ps_if (pt_not (pt_val (pe_cT C_law_none (hr.mono (by decide)) (pa_cons (pe_lam (T := TTof "law" PP) TB rfl tt_mem tt_uni (free_of (sc := defScope s_law) rfl (by decide +kernel))) (pa_cons (pe_op op_cat (pe_lst (pa_cons pe_int (pa_cons pe_int pa_nil))) (pv 5)) pa_nil))))) (pss_one (ps_ret pe_bl)) pss_nil)
    (pss_one (ps_if (pt_not (pt_val (pe_cT C_law_none (hr.mono (by decide)) (pa_cons (pe_lam (T := TTof "law" PP) TB rfl tt_mem tt_uni (free_of (sc := defScope s_law) rfl (by decide +kernel))) (pa_cons (pe_ix (r := rIxL K) ix_list (pe_lst (pa_cons (pe_lst (pa_cons pe_int pa_nil)) (pa_cons (pe_lst (pa_cons pe_int (pa_cons pe_int pa_nil))) (pa_cons (pe_lst (pa_cons pe_int pa_nil)) (pa_cons (pe_lst (pa_cons pe_int (pa_cons pe_int pa_nil))) pa_nil))))) (pe_op op_mod (pv 1) pe_int) (fun _ _ => rfl)) pa_nil))))) (pss_one (ps_ret pe_bl)) pss_nil))))))))))))))
    (pss_one (ps_ret (pe_and (pe_cmpR (r := rEqD K) (op_eqD hr.units) (pe_c0 C_turned_out (hr.mono (by decide)) (pa_cons pe_int (pa_cons (pe_lst (pa_cons pe_int (pa_cons pe_int (pa_cons pe_int (pa_cons pe_int pa_nil))))) pa_nil))) (pe_lst (pa_cons pe_int (pa_cons pe_int (pa_cons pe_int (pa_cons pe_int pa_nil))))) (nomark _)) (pe_one (pe_cmpR (r := rEqD K) (op_eqD hr.units) (pe_c0 C_put_in (hr.mono (by decide)) (pa_cons pe_int (pa_cons (pe_lst (pa_cons pe_int (pa_cons pe_int (pa_cons pe_int pa_nil)))) (pa_cons (pe_lst (pa_cons pe_int (pa_cons pe_int (pa_cons pe_int pa_nil)))) pa_nil)))) (pe_lst (pa_cons pe_int (pa_cons pe_int (pa_cons pe_int pa_nil)))) (nomark _)))))))), ?_⟩
    refine q_asg (v := .int (lwhole ns)) (ev_cb (ea_cons (ev_cbL (el_is (el_sl (ev_var rfl) eo_none (eo_some ev_c) ha) (cut_to ns 63)) fun p H2 h2 e2 => rc_sum (sq_of h2)) ea_nil) rc_abs) fun H0 e0 => ?_
    have hW := lwhole_bits hbits
    have W0 : 0 ≤ lwhole ns := absI_nonneg _
    generalize lwhole ns = W at hW W0 ⊢
    refine q_forNLn (xs := [.int 0, .int 1]) (el_lst (by walk_at "ev") (by decide)) (fun l i σ' H' => ∃ (z2 z3 z4 z5 z6 z7 z8 z9 z10 z11 z12 z13 z14 : Option V), σ' = [some (.ref a), some (.int W), z2, z3, z4, z5, z6, z7, z8, z9, z10, z11, z12, z13, z14] ∧ ExtN H H' ∧ Tabs (TTof "law" PP) H' ∧ H' l = some (.lst [.int 0, .int 1]))
      (fun l H1 n1 e1 h1 => ⟨_, _, _, _, _, _, _, _, _, _, _, _, _, rfl, ExtN.of (e0.trans e1), (tt_start hPP).ext (e0.trans e1), h1⟩) (fun l i σ' H' _ hP => ?_) (fun l i x σ' H' hi hP => ?_) fun l σ' H' hP => ?_
    · obtain ⟨_, _, _, _, _, _, _, _, _, _, _, _, _, _, _, _, hl⟩ := hP
      exact sq_of hl
    · obtain ⟨z2, z3, z4, z5, z6, z7, z8, z9, z10, z11, z12, z13, z14, rfl, e, hT, hl⟩ := hP
      obtain ⟨b, rfl, hb⟩ : ∃ b : Int, x = .int b ∧ 0 ≤ b ∧ b ≤ 1 := by
        match i, hi with
        | 0, hi => exact ⟨0, (Option.some.inj hi).symm, by decide⟩
        | 1, hi => exact ⟨1, (Option.some.inj hi).symm, by decide⟩
      have ha' := exn_l (K := K) e ha
      obtain ⟨most, hmost⟩ : ∃ most : Int, most = if W % 32 = b then 18 else 8 := ⟨_, rfl⟩
      have hm : 0 < most ∧ most ≤ 18 := by
        rw [hmost]
        split <;> decide
      refine q_asgTII (x := .int (lprime ns b)) (y := .int most) (ev_call (by walk_at "ev") (spv_l_prime ha' hb.1)) (ev_if (v := .int most) (b := decide (W % 32 = b)) (et_test (ev_is (ev_op (ev_op (ev_var rfl) ev_c (rv_I (by walk_at "cond"))) (ev_var rfl) (rv_eq rfl)) (by rw [dec_int]; rfl))) (fun h => by rw [hmost, if_pos (of_decide_eq_true h)]; exact ev_c) (fun h => by rw [hmost, if_neg (of_decide_eq_false h)]; exact ev_c)) fun H1 e1 => ?_
      have hp := lprime_prm ns b
      generalize lprime ns b = p at hp ⊢
      have p2 := hp.pos
      have RW : ∀ c : Int, 0 ≤ c → c ≤ 4 → Rowp p (lrow ns c p most) := fun c c0 c1 => lrow_rowp (by omega) hm.1 (by omega)
      have LW : ∀ c : Int, (lrow ns c p most).length ≤ 18 := fun c => by
        have := lrow_len (ns := ns) (by_ := c) (p := p) hm.1
        omega
      have ha1 := ex_l e1 ha'
      have sp : ∀ c : Int, 0 ≤ c → c ≤ 4 → SpL (spLRow K) [.ref a, .int c, .int p, .int most] H1 ((lrow ns c p most).map V.int) := fun c c0 c1 => spl_l_row (b := c) (p := p) (m := most) ha1 hbits c0 (by omega) (by omega) hm.1 (by omega)
      refine q_asgTLL (xs := (lrow ns b p most).map V.int) (ys := ((0 :: lrow ns (b + 2) p most : List Int)).map V.int) (el_call (by walk_at "ev") (sp b (by omega) (by omega))) (el_catLL (el_lst (ea_cons ev_c ea_nil) (by decide)) (el_call (by walk_at "ev") (sp (b + 2) (by omega) (by omega))) (by rw [List.length_map]; have := LW (b + 2); show 1 + (lrow ns (b + 2) p most).length ≤ 100000; omega)) fun o t H2 no nt not e2 ho ht => ?_
      refine q_asgL (xs := ((0 :: lrow ns (b + 3) p most : List Int)).map V.int) (el_catLL (el_lst (ea_cons ev_c ea_nil) (by decide)) (el_call (by walk_at "ev") (spl_l_row (b := b + 3) (p := p) (m := most) (ex_l e2 ha1) hbits (by omega) (by omega) (by omega) hm.1 (by omega))) (by rw [List.length_map]; have := LW (b + 3); show 1 + (lrow ns (b + 3) p most).length ≤ 100000; omega)) fun fa H3 nfa e3 hfa => ?_
      have R1 := RW b (by omega) (by omega)
      have L1 := LW b
      have R2 : Rowp p (0 :: lrow ns (b + 2) p most) := (RW (b + 2) (by omega) (by omega)).cons (by decide) (by omega) (by have := LW (b + 2); omega)
      have R3 : Rowp p (0 :: lrow ns (b + 3) p most) := (RW (b + 3) (by omega) (by omega)).cons (by decide) (by omega) (by have := LW (b + 3); omega)
      have y0 : sq (0 :: lrow ns (b + 2) p most) 0 = 0 := rfl
      have w0 : sq (0 :: lrow ns (b + 3) p most) 0 = 0 := rfl
      generalize lrow ns b p most = xs at R1 L1 ho ⊢
      generalize (0 :: lrow ns (b + 2) p most : List Int) = ys at R2 ht y0 ⊢
      generalize (0 :: lrow ns (b + 3) p most : List Int) = ws at R3 hfa w0 ⊢
      have lo1 := R1.lo
      have lo2 := R2.lo
      have lo3 := R3.lo
      have u2 := R2.hi
      have u3 := R3.hi
      have ho3 := e3 o _ ho
      have ht3 := e3 t _ ht
      have hl3 := e3 l _ (e2 l _ (e1 l _ hl))
      have e03 := (e1.trans e2).trans e3
      refine q_parLL (xs := xs.map V.int) (ys := ys.map V.int) (el_cb (by walk_at "ev") (rcl_list (sq_of ho3))) (el_cb (by walk_at "ev") (rcl_list (sq_of ht3))) fun h m H4 nh nm hne e4 hh hm4 => ?_
      have RP := putL_rowp (show 0 < p by omega) R1 R2
      have uP := RP.hi
      refine q_forR1 (n := 2) (by walk_at "ev") (by decide) (fun i σ' H' => ∃ (z10 z11 z12 z13 z14 : Option V), σ' = [some (.ref a), some (.int W), some (.int b), some (.int p), some (.int most), some (.ref o), some (.ref t), some (.ref fa), some (.ref h), some (.ref m), z10, z11, z12, z13, z14] ∧ Ex H4 H')
        (fun H5 e5 => ⟨_, _, _, _, _, rfl, e5⟩) (fun k σ' H' hk hP => ?_) fun σ' H' hP => ?_
      · obtain ⟨z10, z11, z12, z13, z14, rfl, e5⟩ := hP
        refine q_asgL (xs := (putL p xs ys).map V.int) (el_call (by walk_at "ev") (spl_put_in hp (e5 h _ hh) (e5 m _ hm4) R1 R2 y0)) fun fo H6 n6 e6 h6 => ?_
        have ho6 := e6 o _ (e5 o _ (e4 o _ ho3))
        have ht6 := e6 t _ (e5 t _ (e4 t _ ht3))
        refine q_when (b := false) (et_or (a := false) (b := false) (et_not (a := true) (et_B (ev_cb (by walk_at "ev") (rc_isi_lst h6 (by decide +kernel))))) fun _ => et_test (ev_is (ev_opL (ev_var rfl) (el_call (by walk_at "ev") (spl_l_put hp ho6 ht6 R1 R2 y0)) fun p7 H7 h7 e7 => rv_neL (sq_of (e7 fo _ h6)) (sq_of h7)) (by rw [decide_eq_true rfl]; rfl))) (fun z => Bool.noConfusion z) fun _ H7 e7 => ?_
        refine q_when (b := false) (et_or (a := false) (b := false) (et_test (ev_is (ev_op (ev_var rfl) (ev_var rfl) (rv_neL (ns := xs) (ms := xs) (sq_of (e7 h _ (e6 h _ (e5 h _ hh)))) (sq_of (e7 o _ ho6)))) (by rw [decide_eq_true rfl]; rfl))) fun _ => et_test (ev_is (ev_op (ev_var rfl) (ev_var rfl) (rv_neL (ns := ys) (ms := ys) (sq_of (e7 m _ (e6 m _ (e5 m _ hm4)))) (sq_of (e7 t _ ht6)))) (by rw [decide_eq_true rfl]; rfl))) (fun z => Bool.noConfusion z) fun _ H8 e8 => ?_
        have h68 := e8 fo _ (e7 fo _ h6)
        refine q_when (b := false) (et_B (ev_cbL (el_is (el_mapL (ns := putL p xs ys) (fun _ => V.bl false) (ev_var rfl) (sq_of h68) (by omega) (fun _ => rfl) fun i H9 e9 hi => ev_cb (by walk_at "ev") (rc_isi_int (by decide +kernel))) (map_map_bl (f := fun _ => false))) fun p9 H9 h9 e9 => by have g := rc_any (K := K) (sq_of h9); rw [any_falses] at g; exact g)) (fun z => Bool.noConfusion z) fun _ H9 e9 => ?_
        refine s_app (e9 fo _ h68) (ev_var rfl) ev_c (by rw [List.length_map]; omega) fun H10 e10 => ?_
        exact ⟨_, _, _, _, _, rfl, Ex.mut (((((e5.trans e6).trans e7).trans e8).trans e9).trans e10) (fresh_back e5 n6)⟩
      · obtain ⟨z10, z11, z12, z13, z14, rfl, e5⟩ := hP
        have ho4 := e5 o _ (e4 o _ ho3)
        have ht4 := e5 t _ (e4 t _ ht3)
        have hf4 := e5 fa _ (e4 fa _ hfa)
        have hl4 := e5 l _ (e4 l _ hl3)
        have e05 := (e03.trans e4).trans e5
        refine q_asg (v := .int ((min xs.length (min ys.length ws.length) : Nat) : Int)) (ev_cb (ea_cons (ev_cb (by walk_at "ev") (rc_lenI (sq_of ho4))) (ea_cons (ev_cb (by walk_at "ev") (rc_lenI (sq_of ht4))) (ea_cons (ev_cb (by walk_at "ev") (rc_lenI (sq_of hf4))) ea_nil))) rc_min3) fun H6 e6 => ?_
        have ho6 := e6 o _ ho4
        have ht6 := e6 t _ ht4
        have hf6 := e6 fa _ hf4
        refine q_asgL (xs := (putL p (putL p xs ys) ws).map V.int) (el_callP (eap_cons (ev_var rfl) (eap_consL (el_call (by walk_at "ev") (spl_put_in hp ho6 ht6 R1 R2 y0)) (eap_cons (ev_var rfl) eap_nil))) fun vs H7 e7 hP => ?_) fun on H7 n7 e7 h7 => ?_
        · obtain ⟨_, rfl, t1, _, rfl, h1, _, _, rfl, rfl⟩ := hP
          exact spl_put_in hp h1 (e7 fa _ hf6) RP R3 w0
        have ho7 := e7 o _ ho6
        have ht7 := e7 t _ ht6
        have hf7 := e7 fa _ hf6
        refine q_when (b := false) (et_test (ev_is (ev_opLL (el_is (el_sl (ev_var rfl) eo_none (eo_some (ev_var rfl)) (sq_of h7)) (cut_to _ _)) (el_is (el_slL (xs := (putL p xs (putL p ys ws)).map V.int) (el_callP (eap_cons (ev_var rfl) (eap_cons (ev_var rfl) (eap_consL (el_call (by walk_at "ev") (spl_put_in hp ht7 hf7 R2 R3 w0)) eap_nil))) fun vs H8 e8 hP => ?_) eo_none (eo_some (ev_var rfl))) (cut_to _ _)) fun p8 q8 H8 h8 g8 e8 => rv_neL (sq_of h8) (sq_of g8)) ?_)) (fun z => Bool.noConfusion z) fun _ H8 e8 => ?_
        · obtain ⟨_, rfl, _, rfl, t1, _, rfl, h1, _, rfl⟩ := hP
          refine spl_put_in hp (e8 o _ ho7) h1 R1 (putL_rowp (by omega) R2 R3) ?_
          rw [putL_at0 lo2 lo3 w0, y0, Int.zero_emod]
        · rw [putL_assoc y0 w0 lo2 lo3, decide_eq_true rfl]
          rfl
        -- turned inside out
        have ho8 := e8 o _ ho7
        have hk : 0 ≤ W % (p - 1) ∧ W % (p - 1) < p - 1 := ⟨Int.emod_nonneg _ (by omega), Int.emod_lt_of_pos _ (by omega)⟩
        have hT8 : Tabs (TTof "law" PP) H8 := hT.ext (((e05.trans e6).trans e7).trans e8)
        have e08 : ExtN H H8 := e.trans (ExtN.of (((e05.trans e6).trans e7).trans e8))
        have hl8 := e8 l _ (e7 l _ (e6 l _ hl4))
        have RC1 : Rowp p ((1 + W % (p - 1)) :: xs) := R1.cons (by omega) (by omega) (by omega)
        have RC0 : Rowp p (0 :: (1 + W % (p - 1)) :: xs) := RC1.cons (by decide) (by omega) (by rw [List.length_cons]; omega)
        have RZ : Rowp p (0 :: 0 :: xs) := (R1.cons (by decide) (by omega) (by omega)).cons (by decide) (by omega) (by rw [List.length_cons]; omega)
        refine q_when (b := false) (et_not (a := true) (et_B (ev_callP (eap_cons (ev_var rfl) (eap_consL (xs := ((0 :: (1 + W % (p - 1)) :: xs : List Int)).map V.int) (el_catL (el_lst (ea_cons ev_c (ea_cons (ev_op ev_c (ev_op (ev_var rfl) (ev_op (ev_var rfl) ev_c rv_I0) (rv_I (by walk_at "cond"))) rv_I0) ea_nil)) (by show (2 : Nat) ≤ 100000; decide)) (ev_var rfl) ho8 (by rw [List.length_map]; show 2 + xs.length ≤ 100000; omega)) eap_nil)) fun vs H9 e9 hP => ?_))) (fun z => Bool.noConfusion z) fun _ H9 e9 => ?_
        · obtain ⟨_, rfl, t1, _, rfl, h1, _, rfl⟩ := hP
          exact spv_l_out_right hp h1 RC0 (by rw [List.length_cons, List.length_cons]; omega) rfl (by show 1 + W % (p - 1) ≠ 0; omega)
        have ho9 := e9 o _ ho8
        -- refused: put in
        refine q_whenLam (fr := ["_law_prime_here", "_law_outer"]) (js := [3, 5]) (R := fun x H2 => H2 x = some (.lst (((1 + W % (p - 1)) :: xs : List Int).map V.int))) (hT8.ext e9) (fun c' ok => Caps.made ok (free_of (sc := defScope s_law) rfl (by decide +kernel)) (by decide +kernel) rfl)
          (fun H10 e10 => er_ofL (el_catL (el_lst (ea_cons (ev_op ev_c (ev_op (ev_var rfl) (ev_op (ev_var rfl) ev_c rv_I0) (rv_I (by walk_at "cond"))) rv_I0) ea_nil) (by show (1 : Nat) ≤ 100000; decide)) (ev_var rfl) (exn_lst e10 ho9) (by rw [List.length_map]; show 1 + xs.length ≤ 100000; omega)))
          (fun s f c' x H10 C e10 hf hc hx Q q => ⟨f, x, _, _, _, spLamPut a_NoInside, rfl, lok_of (N := ["_law_this", "_law_prime_here", "_law_outer"]) (nscope_by rfl) (fun _ _ us hl => match us, hl with | [_], _ => rfl) (fun ws vs H Q E h => ?_) (fun A outer s H vs ws Q E hr hws h => ⟨_, pe_cS X_put_in (hr.mono (by decide)) (fun σ => lam_passes σ) (pa_cons (pv 1) (pa_cons (pv 2) (pa_cons (pv 0) pa_nil))), ?_⟩), C, hf, hc, ?_, q⟩) fun H10 e10 hT10 => ?_
        · obtain ⟨p, o, b, rfl, rfl, _⟩ := h
          rfl
        · obtain ⟨p, o, b, rfl, rfl, p1, o1, b1, xs1, ys1, g1, h1, h2, h3, h4⟩ := h
          cases g1
          exact (show EvA (tCons (tVar 1) (tCons (tVar 2) (tCons (tVar 0) tNil))) _ H [.int p, .ref o, .ref b] from ea_cons (ev_var rfl) (ea_cons (ev_var rfl) (ea_cons (ev_var rfl) ea_nil))) H (Ex.refl H) _ fun H1 e1 => ⟨p, o, b, xs1, ys1, rfl, h1, e1 _ _ h2, e1 _ _ h3, h4.1, h4.2.1, h4.2.2.1, fun H2 e2 => h4.2.2.2 H2 (e1.trans e2)⟩
        · intro H1 Q1 E1 e1 hE
          exact ⟨p, o, x, rfl, rfl, p, o, x, xs, _, rfl, hp, e1 o _ (exn_lst e10 ho9), e1 x _ hx, R1, RC1, (by show 1 + W % (p - 1) ≠ 0; omega), hE⟩
        -- refused: turned out
        have ho10 := exn_lst e10 ho9
        refine q_whenLam (fr := ["_law_prime_here"]) (js := [3]) (R := fun x H2 => H2 x = some (.lst ((0 :: 0 :: xs : List Int).map V.int))) hT10 (fun c' ok => Caps.made ok (free_of (sc := defScope s_law) rfl (by decide +kernel)) (by decide +kernel) rfl)
          (fun H11 e11 => er_ofL (el_catL (el_lst (ea_cons ev_c (ea_cons ev_c ea_nil)) (by decide)) (ev_var rfl) (exn_lst e11 ho10) (by rw [List.length_map]; show 2 + xs.length ≤ 100000; omega)))
          (fun s f c' x H11 C e11 hf hc hx Q q => ⟨f, x, _, _, _, spLamOut a_NoInside, rfl, (lok_of (N := ["_law_this", "_law_prime_here"]) (nscope_by rfl) (fun _ _ us hl => match us, hl with | [_], _ => rfl) (fun ws vs H Q E h => ?_) (fun A outer s H vs ws Q E hr hws h => ⟨_, pe_cS X_turned_out (hr.mono (by decide)) (fun σ => lam_passes σ) (pa_cons (pv 1) (pa_cons (pv 0) pa_nil)), ?_⟩)), C, hf, hc, ?_, q⟩) fun H11 e11 hT11 => ?_
        · obtain ⟨p, b, rfl, rfl, _⟩ := h
          rfl
        · obtain ⟨p, b, rfl, rfl, p1, b1, xs1, g1, h1, h2, h3⟩ := h
          cases g1
          exact (show EvA (tCons (tVar 1) (tCons (tVar 0) tNil)) _ H [.int p, .ref b] from ea_cons (ev_var rfl) (ea_cons (ev_var rfl) ea_nil)) H (Ex.refl H) _ fun H1 e1 => ⟨p, b, xs1, rfl, h1, e1 _ _ h2, h3.1, h3.2.1, fun H2 e2 => h3.2.2 H2 (e1.trans e2)⟩
        · intro H1 Q1 E1 e1 hE
          exact ⟨p, x, rfl, rfl, p, x, _, rfl, hp, e1 x _ hx, RZ, .inr (.inr rfl), hE⟩
        -- refused: short rows
        obtain ⟨n, hn, hn4⟩ : ∃ n : Nat, (n : Int) = W % 4 ∧ n < 4 := ⟨(W % 4).toNat, by omega, by omega⟩
        have short : ∀ xs ∈ [[V.int 0], [V.int 1, V.int 1], [V.int 1], [V.int 0, V.int 0]], ∃ ns : List Int, xs = ns.map V.int ∧ Rowp p ns ∧ (ns.length < 2 ∨ sq ns 0 ≠ 0 ∨ sq ns 1 = 0) := fun xs hxs => by
          simp only [List.mem_cons, List.not_mem_nil, or_false] at hxs
          rcases hxs with rfl | rfl | rfl | rfl
          · exact ⟨[0], rfl, ⟨by decide, by decide, fun x hx => by rw [List.mem_singleton.mp hx]; omega⟩, .inl (by decide)⟩
          · exact ⟨[1, 1], rfl, ⟨by decide, by decide, fun x hx => by simp only [List.mem_cons, List.not_mem_nil, or_false] at hx; omega⟩, .inr (.inl (by decide))⟩
          · exact ⟨[1], rfl, ⟨by decide, by decide, fun x hx => by rw [List.mem_singleton.mp hx]; omega⟩, .inl (by decide)⟩
          · exact ⟨[0, 0], rfl, ⟨by decide, by decide, fun x hx => by simp only [List.mem_cons, List.not_mem_nil, or_false] at hx; omega⟩, .inr (.inr rfl)⟩
        refine s_whenLam (fr := ["_law_prime_here"]) (js := [3]) (R := fun x H2 => ∃ xs ∈ [[V.int 0], [V.int 1, V.int 1], [V.int 1], [V.int 0, V.int 0]], H2 x = some (.lst xs)) hT11 (fun c' ok => Caps.made ok (free_of (sc := defScope s_law) rfl (by decide +kernel)) (by decide +kernel) rfl)
          (fun H12 e12 => er_pick4 (n := n) (el_lst (ea_cons ev_c ea_nil) (by decide)) (el_lst (ea_cons ev_c (ea_cons ev_c ea_nil)) (by decide)) (el_lst (ea_cons ev_c ea_nil) (by decide)) (el_lst (ea_cons ev_c (ea_cons ev_c ea_nil)) (by decide)) (by rw [hn]; exact ev_op (ev_var rfl) ev_c (rv_I (by constructor <;> omega))) hn4)
          (fun s f c' x H12 C e12 hf hc hx Q q => ⟨f, x, _, _, _, spLamOut a_NoInside, rfl, (lok_of (N := ["_law_this", "_law_prime_here"]) (nscope_by rfl) (fun _ _ us hl => match us, hl with | [_], _ => rfl) (fun ws vs H Q E h => ?_) (fun A outer s H vs ws Q E hr hws h => ⟨_, pe_cS X_turned_out (hr.mono (by decide)) (fun σ => lam_passes σ) (pa_cons (pv 1) (pa_cons (pv 0) pa_nil)), ?_⟩)), C, hf, hc, ?_, q⟩) fun H12 e12 hT12 => ?_
        · obtain ⟨p, b, rfl, rfl, _⟩ := h
          rfl
        · obtain ⟨p, b, rfl, rfl, p1, b1, xs1, g1, h1, h2, h3⟩ := h
          cases g1
          exact (show EvA (tCons (tVar 1) (tCons (tVar 0) tNil)) _ H [.int p, .ref b] from ea_cons (ev_var rfl) (ea_cons (ev_var rfl) ea_nil)) H (Ex.refl H) _ fun H1 e1 => ⟨p, b, xs1, rfl, h1, e1 _ _ h2, h3.1, h3.2.1, fun H2 e2 => h3.2.2 H2 (e1.trans e2)⟩
        · intro H1 Q1 E1 e1 hE
          obtain ⟨vs, hvs, hx⟩ := hx
          obtain ⟨ns, rfl, RN, hr⟩ := short vs hvs
          exact ⟨p, x, rfl, rfl, p, x, ns, rfl, hp, e1 x _ hx, RN, hr, hE⟩
        have e912 := ((e08.trans (ExtN.of e9)).trans e10).trans (e11.trans e12)
        exact ⟨_, _, _, _, _, _, _, _, _, _, _, _, _, rfl, e912, hT12, exn_lst (e10.trans (e11.trans e12)) (e9 l _ hl8)⟩
    · obtain ⟨z2, z3, z4, z5, z6, z7, z8, z9, z10, z11, z12, z13, z14, rfl, e, hT, hl⟩ := hP
      have p7 : Prm 7 := by unfold Prm; decide
      have p5 : Prm 5 := by unfold Prm; decide
      have r4 : Rowp 7 [0, 1, 1, 0] := ⟨by decide, by decide, by decide⟩
      refine s_ret (v := .bl true) (ev_andV (a := true) (b := true) (ev_opLL (xs := (outL 7 [0, 1, 1, 0]).map V.int) (ys := ([0, 1, 6, 2] : List Int).map V.int) (el_callP (eap_cons ev_c (eap_consL (xs := ([0, 1, 1, 0] : List Int).map V.int) (el_lst (by walk_at "ev") (by decide)) eap_nil)) fun vs H9 e9 hP => ?_) (el_lst (by walk_at "ev") (by decide)) fun p8 q8 H8 h8 g8 e8 => ?_) fun _ => ev_opLL (xs := (putL 5 [1, 1, 1] [0, 2, 0]).map V.int) (ys := ([1, 2, 4] : List Int).map V.int) (el_callP (eap_cons ev_c (eap_consL (xs := ([1, 1, 1] : List Int).map V.int) (el_lst (by walk_at "ev") (by decide)) (eap_consL (xs := ([0, 2, 0] : List Int).map V.int) (el_lst (by walk_at "ev") (by decide)) eap_nil))) fun vs H9 e9 hP => ?_) (el_lst (by walk_at "ev") (by decide)) fun p8 q8 H8 h8 g8 e8 => ?_) fun H9 e9 => q H9
      · obtain ⟨_, rfl, t1, _, rfl, h1, _, rfl⟩ := hP
        exact spl_turned_out p7 h1 r4 (by decide) rfl (by decide)
      · have g := rv_eqL (K := K) (H := H8) (a := p8) (b := q8) (ns := outL 7 [0, 1, 1, 0]) (ms := [0, 1, 6, 2]) (sq_of h8) (sq_of g8)
        rw [show outL 7 [0, 1, 1, 0] = [0, 1, 6, 2] by decide +kernel, decide_eq_true rfl] at g
        exact g
      · obtain ⟨_, rfl, t1, _, rfl, h1, _, t2, _, rfl, h2, _, rfl⟩ := hP
        exact spl_put_in p5 h1 h2 ⟨by decide, by decide, by decide⟩ ⟨by decide, by decide, by decide⟩ rfl
      · have g := rv_eqL (K := K) (H := H8) (a := p8) (b := q8) (ns := putL 5 [1, 1, 1] [0, 2, 0]) (ms := [1, 2, 4]) (sq_of h8) (sq_of g8)
        rw [show putL 5 [1, 1, 1] [0, 2, 0] = [1, 2, 4] by decide +kernel, decide_eq_true rfl] at g
        exact g

end
theorem all_mk {l : PySem.W.OpenLaw} {w : World} {K : PySem.W.Frag} {h : Heap} {mg : Str → Option Value} {fa : Addr} (X : K.In h) (G : h.Ns mainGlobals mg) (hfa : mg "law" = some (.ref fa)) (own : LamX.OwnTab K fa h)
    {a_PRIMES : Addr} {dd_PRIMES : Option Addr} {its_PRIMES : Array Value} {n__PRIMES : Nat} {sl__PRIMES : Array (Option Value)}
    {t_MOST_CUT : Tok}
    {a_PowerError : Addr}
    {a_BadPrime : Addr}
    {a_BadRow : Addr}
    {a_NoPart : Addr}
    {a_NoInside : Addr}
    {f_is_number : Addr} {od_is_number an_is_number : Option Addr} {sl_is_number : Array (Option Value)} {oc_is_number kV_is_number dc_is_number pm_is_number cd_is_number ct_is_number : Value}
    {f_is_within : Addr} {od_is_within an_is_within : Option Addr} {sl_is_within : Array (Option Value)} {oc_is_within kV_is_within dc_is_within pm_is_within cd_is_within ct_is_within : Value}
    {f_is_rest : Addr} {od_is_rest an_is_rest : Option Addr} {sl_is_rest : Array (Option Value)} {oc_is_rest kV_is_rest dc_is_rest pm_is_rest cd_is_rest ct_is_rest : Value}
    {f_are_rests : Addr} {od_are_rests an_are_rests : Option Addr} {sl_are_rests : Array (Option Value)} {oc_are_rests kV_are_rests dc_are_rests pm_are_rests cd_are_rests ct_are_rests : Value}
    {f_need_prime : Addr} {od_need_prime an_need_prime : Option Addr} {sl_need_prime : Array (Option Value)} {oc_need_prime kV_need_prime dc_need_prime pm_need_prime cd_need_prime ct_need_prime : Value}
    {f_need_row : Addr} {od_need_row an_need_row : Option Addr} {sl_need_row : Array (Option Value)} {oc_need_row kV_need_row dc_need_row pm_need_row cd_need_row ct_need_row : Value}
    {f_need_prime_and_rows : Addr} {od_need_prime_and_rows an_need_prime_and_rows : Option Addr} {sl_need_prime_and_rows : Array (Option Value)} {oc_need_prime_and_rows kV_need_prime_and_rows dc_need_prime_and_rows pm_need_prime_and_rows cd_need_prime_and_rows ct_need_prime_and_rows : Value}
    {f_inverse : Addr} {od_inverse an_inverse : Option Addr} {sl_inverse : Array (Option Value)} {oc_inverse kV_inverse dc_inverse pm_inverse cd_inverse ct_inverse : Value}
    {f_product : Addr} {od_product an_product : Option Addr} {sl_product : Array (Option Value)} {oc_product kV_product dc_product pm_product cd_product ct_product : Value}
    {f_product_place : Addr} {od_product_place an_product_place : Option Addr} {sl_product_place : Array (Option Value)} {oc_product_place kV_product_place dc_product_place pm_product_place cd_product_place ct_product_place : Value}
    {f_put_in : Addr} {od_put_in an_put_in : Option Addr} {sl_put_in : Array (Option Value)} {oc_put_in kV_put_in dc_put_in pm_put_in cd_put_in ct_put_in : Value}
    {f_turned_out : Addr} {od_turned_out an_turned_out : Option Addr} {sl_turned_out : Array (Option Value)} {oc_turned_out kV_turned_out dc_turned_out pm_turned_out cd_turned_out ct_turned_out : Value}
    {f_solved : Addr} {od_solved an_solved : Option Addr} {sl_solved : Array (Option Value)} {oc_solved kV_solved dc_solved pm_solved cd_solved ct_solved : Value}
    {f_law_number : Addr} {od_law_number an_law_number : Option Addr} {sl_law_number : Array (Option Value)} {oc_law_number kV_law_number dc_law_number pm_law_number cd_law_number ct_law_number : Value}
    {f_law_prime : Addr} {od_law_prime an_law_prime : Option Addr} {sl_law_prime : Array (Option Value)} {oc_law_prime kV_law_prime dc_law_prime pm_law_prime cd_law_prime ct_law_prime : Value}
    {f_law_row : Addr} {od_law_row an_law_row : Option Addr} {sl_law_row : Array (Option Value)} {oc_law_row kV_law_row dc_law_row pm_law_row cd_law_row ct_law_row : Value}
    {f_law_times : Addr} {od_law_times an_law_times : Option Addr} {sl_law_times : Array (Option Value)} {oc_law_times kV_law_times dc_law_times pm_law_times cd_law_times ct_law_times : Value}
    {f_law_put : Addr} {od_law_put an_law_put : Option Addr} {sl_law_put : Array (Option Value)} {oc_law_put kV_law_put dc_law_put pm_law_put cd_law_put ct_law_put : Value}
    {f_law_none : Addr} {od_law_none an_law_none : Option Addr} {sl_law_none : Array (Option Value)} {oc_law_none kV_law_none dc_law_none pm_law_none cd_law_none ct_law_none : Value}
    {f_law_out_right : Addr} {od_law_out_right an_law_out_right : Option Addr} {sl_law_out_right : Array (Option Value)} {oc_law_out_right kV_law_out_right dc_law_out_right pm_law_out_right cd_law_out_right ct_law_out_right : Value}
    {f_law : Addr} {od_law an_law : Option Addr} {sl_law : Array (Option Value)} {oc_law kV_law dc_law pm_law ct_law : Value} {cc PP : Addr} {dd_cc : Option Addr} {vs_cc : Array Value} {sl_cc : Array (Option Value)} {fi_cc : Str} {tf_cc tg_cc tt_cc : Nat} {fl_cc tx_cc : Int} {in_cc : Bool}
    (z_abs : PySem.W.nsIn K mainGlobals "abs" = some none)
    (z_all : PySem.W.nsIn K mainGlobals "all" = some none)
    (z_any : PySem.W.nsIn K mainGlobals "any" = some none)
    (z_bool : PySem.W.nsIn K mainGlobals "bool" = some none)
    (z_int : PySem.W.nsIn K mainGlobals "int" = some none)
    (z_isinstance : PySem.W.nsIn K mainGlobals "isinstance" = some none)
    (z_len : PySem.W.nsIn K mainGlobals "len" = some none)
    (z_list : PySem.W.nsIn K mainGlobals "list" = some none)
    (z_min : PySem.W.nsIn K mainGlobals "min" = some none)
    (z_range : PySem.W.nsIn K mainGlobals "range" = some none)
    (z_reversed : PySem.W.nsIn K mainGlobals "reversed" = some none)
    (z_sum : PySem.W.nsIn K mainGlobals "sum" = some none)
    (z_zip : PySem.W.nsIn K mainGlobals "zip" = some none)
    (n_PRIMES : PySem.W.nsIn K mainGlobals "PRIMES" = some (some (.ref a_PRIMES)))
    (o_PRIMES : K.lookup a_PRIMES = some ⟨.type "tuple", dd_PRIMES, .seq its_PRIMES n__PRIMES, sl__PRIMES⟩)
    (s_PRIMES : its_PRIMES.size ≤ sizeLine)
    (v_PRIMES : its_PRIMES.toList.map absV = ([2, 3, 5, 7, 11, 13, 17, 19, 23, 29, 31, 37, 41, 43, 47, 53, 59, 61, 67, 71, 73, 79, 83, 89, 97] : List Int).map fun i => some (V.int i))
    (n_MOST_CUT : PySem.W.nsIn K mainGlobals "MOST_CUT" = some (some (.int 20 t_MOST_CUT)))
    (n_PowerError : PySem.W.nsIn K mainGlobals "PowerError" = some (some (.ref a_PowerError)))
    (k_PowerError : PySem.W.keepIn K (.ref a_PowerError) = true)
    (sb_PowerError : PySem.W.subIn K (.ref a_PowerError) (.type "BaseException") = some true)
    (ty_PowerError : PySem.W.typeIn K (.ref a_PowerError) = some (.type "type"))
    (ic_PowerError : PySem.W.isClsIn K a_PowerError = true)
    (n_BadPrime : PySem.W.nsIn K mainGlobals "BadPrime" = some (some (.ref a_BadPrime)))
    (k_BadPrime : PySem.W.keepIn K (.ref a_BadPrime) = true)
    (sb_BadPrime : PySem.W.subIn K (.ref a_BadPrime) (.type "BaseException") = some true)
    (ty_BadPrime : PySem.W.typeIn K (.ref a_BadPrime) = some (.type "type"))
    (ic_BadPrime : PySem.W.isClsIn K a_BadPrime = true)
    (n_BadRow : PySem.W.nsIn K mainGlobals "BadRow" = some (some (.ref a_BadRow)))
    (k_BadRow : PySem.W.keepIn K (.ref a_BadRow) = true)
    (sb_BadRow : PySem.W.subIn K (.ref a_BadRow) (.type "BaseException") = some true)
    (ty_BadRow : PySem.W.typeIn K (.ref a_BadRow) = some (.type "type"))
    (ic_BadRow : PySem.W.isClsIn K a_BadRow = true)
    (n_NoPart : PySem.W.nsIn K mainGlobals "NoPart" = some (some (.ref a_NoPart)))
    (k_NoPart : PySem.W.keepIn K (.ref a_NoPart) = true)
    (sb_NoPart : PySem.W.subIn K (.ref a_NoPart) (.type "BaseException") = some true)
    (ty_NoPart : PySem.W.typeIn K (.ref a_NoPart) = some (.type "type"))
    (ic_NoPart : PySem.W.isClsIn K a_NoPart = true)
    (n_NoInside : PySem.W.nsIn K mainGlobals "NoInside" = some (some (.ref a_NoInside)))
    (k_NoInside : PySem.W.keepIn K (.ref a_NoInside) = true)
    (sb_NoInside : PySem.W.subIn K (.ref a_NoInside) (.type "BaseException") = some true)
    (ty_NoInside : PySem.W.typeIn K (.ref a_NoInside) = some (.type "type"))
    (ic_NoInside : PySem.W.isClsIn K a_NoInside = true)
    (n_is_number : PySem.W.nsIn K mainGlobals "is_number" = some (some (.ref f_is_number)))
    (l_is_number : K.lookup f_is_number = some ⟨oc_is_number, od_is_number, .func (PySem.W.fnOf "is_number" "is_number" (defArgs s_is_number) (defBody s_is_number) (defScope s_is_number) .none kV_is_number dc_is_number pm_is_number an_is_number cd_is_number ct_is_number), sl_is_number⟩)
    (c_is_number : PySem.W.codeIn K cd_is_number "is_number" = true)
    (k_is_number : PySem.W.keepIn K (.ref f_is_number) = true)
    (n_is_within : PySem.W.nsIn K mainGlobals "is_within" = some (some (.ref f_is_within)))
    (l_is_within : K.lookup f_is_within = some ⟨oc_is_within, od_is_within, .func (PySem.W.fnOf "is_within" "is_within" (defArgs s_is_within) (defBody s_is_within) (defScope s_is_within) .none kV_is_within dc_is_within pm_is_within an_is_within cd_is_within ct_is_within), sl_is_within⟩)
    (c_is_within : PySem.W.codeIn K cd_is_within "is_within" = true)
    (k_is_within : PySem.W.keepIn K (.ref f_is_within) = true)
    (n_is_rest : PySem.W.nsIn K mainGlobals "is_rest" = some (some (.ref f_is_rest)))
    (l_is_rest : K.lookup f_is_rest = some ⟨oc_is_rest, od_is_rest, .func (PySem.W.fnOf "is_rest" "is_rest" (defArgs s_is_rest) (defBody s_is_rest) (defScope s_is_rest) .none kV_is_rest dc_is_rest pm_is_rest an_is_rest cd_is_rest ct_is_rest), sl_is_rest⟩)
    (c_is_rest : PySem.W.codeIn K cd_is_rest "is_rest" = true)
    (k_is_rest : PySem.W.keepIn K (.ref f_is_rest) = true)
    (n_are_rests : PySem.W.nsIn K mainGlobals "are_rests" = some (some (.ref f_are_rests)))
    (l_are_rests : K.lookup f_are_rests = some ⟨oc_are_rests, od_are_rests, .func (PySem.W.fnOf "are_rests" "are_rests" (defArgs s_are_rests) (defBody s_are_rests) (defScope s_are_rests) .none kV_are_rests dc_are_rests pm_are_rests an_are_rests cd_are_rests ct_are_rests), sl_are_rests⟩)
    (c_are_rests : PySem.W.codeIn K cd_are_rests "are_rests" = true)
    (k_are_rests : PySem.W.keepIn K (.ref f_are_rests) = true)
    (n_need_prime : PySem.W.nsIn K mainGlobals "need_prime" = some (some (.ref f_need_prime)))
    (l_need_prime : K.lookup f_need_prime = some ⟨oc_need_prime, od_need_prime, .func (PySem.W.fnOf "need_prime" "need_prime" (defArgs s_need_prime) (defBody s_need_prime) (defScope s_need_prime) .none kV_need_prime dc_need_prime pm_need_prime an_need_prime cd_need_prime ct_need_prime), sl_need_prime⟩)
    (c_need_prime : PySem.W.codeIn K cd_need_prime "need_prime" = true)
    (k_need_prime : PySem.W.keepIn K (.ref f_need_prime) = true)
    (n_need_row : PySem.W.nsIn K mainGlobals "need_row" = some (some (.ref f_need_row)))
    (l_need_row : K.lookup f_need_row = some ⟨oc_need_row, od_need_row, .func (PySem.W.fnOf "need_row" "need_row" (defArgs s_need_row) (defBody s_need_row) (defScope s_need_row) .none kV_need_row dc_need_row pm_need_row an_need_row cd_need_row ct_need_row), sl_need_row⟩)
    (c_need_row : PySem.W.codeIn K cd_need_row "need_row" = true)
    (k_need_row : PySem.W.keepIn K (.ref f_need_row) = true)
    (n_need_prime_and_rows : PySem.W.nsIn K mainGlobals "need_prime_and_rows" = some (some (.ref f_need_prime_and_rows)))
    (l_need_prime_and_rows : K.lookup f_need_prime_and_rows = some ⟨oc_need_prime_and_rows, od_need_prime_and_rows, .func (PySem.W.fnOf "need_prime_and_rows" "need_prime_and_rows" (defArgs s_need_prime_and_rows) (defBody s_need_prime_and_rows) (defScope s_need_prime_and_rows) .none kV_need_prime_and_rows dc_need_prime_and_rows pm_need_prime_and_rows an_need_prime_and_rows cd_need_prime_and_rows ct_need_prime_and_rows), sl_need_prime_and_rows⟩)
    (c_need_prime_and_rows : PySem.W.codeIn K cd_need_prime_and_rows "need_prime_and_rows" = true)
    (k_need_prime_and_rows : PySem.W.keepIn K (.ref f_need_prime_and_rows) = true)
    (n_inverse : PySem.W.nsIn K mainGlobals "inverse" = some (some (.ref f_inverse)))
    (l_inverse : K.lookup f_inverse = some ⟨oc_inverse, od_inverse, .func (PySem.W.fnOf "inverse" "inverse" (defArgs s_inverse) (defBody s_inverse) (defScope s_inverse) .none kV_inverse dc_inverse pm_inverse an_inverse cd_inverse ct_inverse), sl_inverse⟩)
    (c_inverse : PySem.W.codeIn K cd_inverse "inverse" = true)
    (k_inverse : PySem.W.keepIn K (.ref f_inverse) = true)
    (n_product : PySem.W.nsIn K mainGlobals "product" = some (some (.ref f_product)))
    (l_product : K.lookup f_product = some ⟨oc_product, od_product, .func (PySem.W.fnOf "product" "product" (defArgs s_product) (defBody s_product) (defScope s_product) .none kV_product dc_product pm_product an_product cd_product ct_product), sl_product⟩)
    (c_product : PySem.W.codeIn K cd_product "product" = true)
    (k_product : PySem.W.keepIn K (.ref f_product) = true)
    (n_product_place : PySem.W.nsIn K mainGlobals "product_place" = some (some (.ref f_product_place)))
    (l_product_place : K.lookup f_product_place = some ⟨oc_product_place, od_product_place, .func (PySem.W.fnOf "product_place" "product_place" (defArgs s_product_place) (defBody s_product_place) (defScope s_product_place) .none kV_product_place dc_product_place pm_product_place an_product_place cd_product_place ct_product_place), sl_product_place⟩)
    (c_product_place : PySem.W.codeIn K cd_product_place "product_place" = true)
    (k_product_place : PySem.W.keepIn K (.ref f_product_place) = true)
    (n_put_in : PySem.W.nsIn K mainGlobals "put_in" = some (some (.ref f_put_in)))
    (l_put_in : K.lookup f_put_in = some ⟨oc_put_in, od_put_in, .func (PySem.W.fnOf "put_in" "put_in" (defArgs s_put_in) (defBody s_put_in) (defScope s_put_in) .none kV_put_in dc_put_in pm_put_in an_put_in cd_put_in ct_put_in), sl_put_in⟩)
    (c_put_in : PySem.W.codeIn K cd_put_in "put_in" = true)
    (k_put_in : PySem.W.keepIn K (.ref f_put_in) = true)
    (n_turned_out : PySem.W.nsIn K mainGlobals "turned_out" = some (some (.ref f_turned_out)))
    (l_turned_out : K.lookup f_turned_out = some ⟨oc_turned_out, od_turned_out, .func (PySem.W.fnOf "turned_out" "turned_out" (defArgs s_turned_out) (defBody s_turned_out) (defScope s_turned_out) .none kV_turned_out dc_turned_out pm_turned_out an_turned_out cd_turned_out ct_turned_out), sl_turned_out⟩)
    (c_turned_out : PySem.W.codeIn K cd_turned_out "turned_out" = true)
    (k_turned_out : PySem.W.keepIn K (.ref f_turned_out) = true)
    (n_solved : PySem.W.nsIn K mainGlobals "solved" = some (some (.ref f_solved)))
    (l_solved : K.lookup f_solved = some ⟨oc_solved, od_solved, .func (PySem.W.fnOf "solved" "solved" (defArgs s_solved) (defBody s_solved) (defScope s_solved) .none kV_solved dc_solved pm_solved an_solved cd_solved ct_solved), sl_solved⟩)
    (c_solved : PySem.W.codeIn K cd_solved "solved" = true)
    (k_solved : PySem.W.keepIn K (.ref f_solved) = true)
    (n_law_number : PySem.W.nsIn K mainGlobals "_law_number" = some (some (.ref f_law_number)))
    (l_law_number : K.lookup f_law_number = some ⟨oc_law_number, od_law_number, .func (PySem.W.fnOf "_law_number" "_law_number" (defArgs s_law_number) (defBody s_law_number) (defScope s_law_number) .none kV_law_number dc_law_number pm_law_number an_law_number cd_law_number ct_law_number), sl_law_number⟩)
    (c_law_number : PySem.W.codeIn K cd_law_number "_law_number" = true)
    (k_law_number : PySem.W.keepIn K (.ref f_law_number) = true)
    (n_law_prime : PySem.W.nsIn K mainGlobals "_law_prime" = some (some (.ref f_law_prime)))
    (l_law_prime : K.lookup f_law_prime = some ⟨oc_law_prime, od_law_prime, .func (PySem.W.fnOf "_law_prime" "_law_prime" (defArgs s_law_prime) (defBody s_law_prime) (defScope s_law_prime) .none kV_law_prime dc_law_prime pm_law_prime an_law_prime cd_law_prime ct_law_prime), sl_law_prime⟩)
    (c_law_prime : PySem.W.codeIn K cd_law_prime "_law_prime" = true)
    (k_law_prime : PySem.W.keepIn K (.ref f_law_prime) = true)
    (n_law_row : PySem.W.nsIn K mainGlobals "_law_row" = some (some (.ref f_law_row)))
    (l_law_row : K.lookup f_law_row = some ⟨oc_law_row, od_law_row, .func (PySem.W.fnOf "_law_row" "_law_row" (defArgs s_law_row) (defBody s_law_row) (defScope s_law_row) .none kV_law_row dc_law_row pm_law_row an_law_row cd_law_row ct_law_row), sl_law_row⟩)
    (c_law_row : PySem.W.codeIn K cd_law_row "_law_row" = true)
    (k_law_row : PySem.W.keepIn K (.ref f_law_row) = true)
    (n_law_times : PySem.W.nsIn K mainGlobals "_law_times" = some (some (.ref f_law_times)))
    (l_law_times : K.lookup f_law_times = some ⟨oc_law_times, od_law_times, .func (PySem.W.fnOf "_law_times" "_law_times" (defArgs s_law_times) (defBody s_law_times) (defScope s_law_times) .none kV_law_times dc_law_times pm_law_times an_law_times cd_law_times ct_law_times), sl_law_times⟩)
    (c_law_times : PySem.W.codeIn K cd_law_times "_law_times" = true)
    (k_law_times : PySem.W.keepIn K (.ref f_law_times) = true)
    (n_law_put : PySem.W.nsIn K mainGlobals "_law_put" = some (some (.ref f_law_put)))
    (l_law_put : K.lookup f_law_put = some ⟨oc_law_put, od_law_put, .func (PySem.W.fnOf "_law_put" "_law_put" (defArgs s_law_put) (defBody s_law_put) (defScope s_law_put) .none kV_law_put dc_law_put pm_law_put an_law_put cd_law_put ct_law_put), sl_law_put⟩)
    (c_law_put : PySem.W.codeIn K cd_law_put "_law_put" = true)
    (k_law_put : PySem.W.keepIn K (.ref f_law_put) = true)
    (n_law_none : PySem.W.nsIn K mainGlobals "_law_none" = some (some (.ref f_law_none)))
    (l_law_none : K.lookup f_law_none = some ⟨oc_law_none, od_law_none, .func (PySem.W.fnOf "_law_none" "_law_none" (defArgs s_law_none) (defBody s_law_none) (defScope s_law_none) .none kV_law_none dc_law_none pm_law_none an_law_none cd_law_none ct_law_none), sl_law_none⟩)
    (c_law_none : PySem.W.codeIn K cd_law_none "_law_none" = true)
    (k_law_none : PySem.W.keepIn K (.ref f_law_none) = true)
    (n_law_out_right : PySem.W.nsIn K mainGlobals "_law_out_right" = some (some (.ref f_law_out_right)))
    (l_law_out_right : K.lookup f_law_out_right = some ⟨oc_law_out_right, od_law_out_right, .func (PySem.W.fnOf "_law_out_right" "_law_out_right" (defArgs s_law_out_right) (defBody s_law_out_right) (defScope s_law_out_right) .none kV_law_out_right dc_law_out_right pm_law_out_right an_law_out_right cd_law_out_right ct_law_out_right), sl_law_out_right⟩)
    (c_law_out_right : PySem.W.codeIn K cd_law_out_right "_law_out_right" = true)
    (k_law_out_right : PySem.W.keepIn K (.ref f_law_out_right) = true)
    (n_law : PySem.W.nsIn K mainGlobals "law" = some (some (.ref f_law)))
    (l_law : K.lookup f_law = some ⟨oc_law, od_law, .func (PySem.W.fnOf "law" "law" (defArgs s_law) (defBody s_law) (defScope s_law) .none kV_law dc_law pm_law an_law (.ref cc) ct_law), sl_law⟩)
    (c_law : PySem.W.codeIn K (.ref cc) "law" = true)
    (k_law : PySem.W.keepIn K (.ref f_law) = true)
    (ex_NoInside : PySem.W.excIn K a_NoInside [.type "ValueError", .type "Exception", .type "BaseException", .type "object"] "ValueError.__new__" = true)
    (ga_NoInside : PySem.W.findIn K (.ref a_NoInside) "__getattribute__" = some (some (.builtin "BaseException.__getattribute__")))
    (gt_NoInside : PySem.W.findIn K (.ref a_NoInside) "__getattr__" = some none)
    (hd_NoInside : PySem.W.hasDictIn K a_NoInside = true)
    (cl_NoInside : PySem.W.findIn K (.ref a_NoInside) "__class__" = some (some (.builtin "object.__class__")))
    (sp__get : PySem.W.specialIn K (.builtin "object.__class__") "__get__" = some (some (.builtin "getset_descriptor.__get__")))
    (tk__get : PySem.W.takesIn K (.builtin "object.__class__") = some true)
    (mo_NoInside : PySem.W.mroIn K a_NoInside (.type "object") = some true)
    (se_NoInside : PySem.W.subIn K (.ref a_NoInside) (.ref a_NoInside) = some true)
    (hd_PowerError : PySem.W.hasDictIn K a_PowerError = true)
    (su_NoInside_PowerError : PySem.W.subIn K (.ref a_NoInside) (.ref a_PowerError) = some true)
    (su_NoInside_BadRow : PySem.W.subIn K (.ref a_NoInside) (.ref a_BadRow) = some false)
    (su_NoInside_BadPrime : PySem.W.subIn K (.ref a_NoInside) (.ref a_BadPrime) = some false)
    (su_NoInside_NoPart : PySem.W.subIn K (.ref a_NoInside) (.ref a_NoPart) = some false)
    (lc_cc : K.lookup cc = some ⟨.type "code", dd_cc, .fields vs_cc, sl_cc⟩)
    (v11_cc : vs_cc[11]? = some (.ref PP))
    (g11_cc : vs_cc.getD 11 .none = .ref PP)
    (g18_cc : vs_cc.getD 18 .none = .str fi_cc tf_cc)
    (g7_cc : vs_cc.getD 7 .none = .int fl_cc tg_cc)
    (g9_cc : vs_cc.getD 9 .none = .bool in_cc)
    (g10_cc : vs_cc.getD 10 .none = .int tx_cc tt_cc)
    (ne_cc : cc ≠ PP)
    (nT_cc : K.lookup PP = none)
    : LamX.LawAtS l w K CX0 30 63 "_law_script" mg fa h := by
  have e : fa = f_law := by
    cases hfa.symm.trans (PySem.W.mg_of X G n_law)
    rfl
  subst e
  have B : Blt K mg a_PRIMES t_MOST_CUT a_PowerError a_BadPrime a_BadRow a_NoPart a_NoInside := { abs := PySem.W.mg_none_of X G z_abs, all := PySem.W.mg_none_of X G z_all, any := PySem.W.mg_none_of X G z_any, bool := PySem.W.mg_none_of X G z_bool, int := PySem.W.mg_none_of X G z_int, isinstance := PySem.W.mg_none_of X G z_isinstance, len := PySem.W.mg_none_of X G z_len, list := PySem.W.mg_none_of X G z_list, min := PySem.W.mg_none_of X G z_min, range := PySem.W.mg_none_of X G z_range, reversed := PySem.W.mg_none_of X G z_reversed, sum := PySem.W.mg_none_of X G z_sum, zip := PySem.W.mg_none_of X G z_zip, PRIMES := PySem.W.mg_of X G n_PRIMES, PRIMES_T := sqt_ints o_PRIMES s_PRIMES v_PRIMES, MOST_CUT := PySem.W.mg_of X G n_MOST_CUT, PowerError := PySem.W.mg_of X G n_PowerError, PowerError_k := k_PowerError, BadPrime := PySem.W.mg_of X G n_BadPrime, BadPrime_k := k_BadPrime, BadRow := PySem.W.mg_of X G n_BadRow, BadRow_k := k_BadRow, NoPart := PySem.W.mg_of X G n_NoPart, NoPart_k := k_NoPart, NoInside := PySem.W.mg_of X G n_NoInside, NoInside_k := k_NoInside }
  have F_is_number := fun_mk (st := s_is_number) l_is_number c_is_number k_is_number
  have D_is_number : Dat K mg "is_number" s_is_number ["thing"] f_is_number _ := ⟨F_is_number, PySem.W.mg_of X G n_is_number, F_is_number.binds (ps := ["thing"]) fun _ _ _ _ _ _ us hl => match us, hl with | [_], _ => rfl⟩
  have F_is_within := fun_mk (st := s_is_within) l_is_within c_is_within k_is_within
  have D_is_within : Dat K mg "is_within" s_is_within ["thing", "least", "most"] f_is_within _ := ⟨F_is_within, PySem.W.mg_of X G n_is_within, F_is_within.binds (ps := ["thing", "least", "most"]) fun _ _ _ _ _ _ us hl => match us, hl with | [_, _, _], _ => rfl⟩
  have F_is_rest := fun_mk (st := s_is_rest) l_is_rest c_is_rest k_is_rest
  have D_is_rest : Dat K mg "is_rest" s_is_rest ["prime", "thing"] f_is_rest _ := ⟨F_is_rest, PySem.W.mg_of X G n_is_rest, F_is_rest.binds (ps := ["prime", "thing"]) fun _ _ _ _ _ _ us hl => match us, hl with | [_, _], _ => rfl⟩
  have F_are_rests := fun_mk (st := s_are_rests) l_are_rests c_are_rests k_are_rests
  have D_are_rests : Dat K mg "are_rests" s_are_rests ["prime", "thing", "least", "most"] f_are_rests _ := ⟨F_are_rests, PySem.W.mg_of X G n_are_rests, F_are_rests.binds (ps := ["prime", "thing", "least", "most"]) fun _ _ _ _ _ _ us hl => match us, hl with | [_, _, _, _], _ => rfl⟩
  have F_need_prime := fun_mk (st := s_need_prime) l_need_prime c_need_prime k_need_prime
  have D_need_prime : Dat K mg "need_prime" s_need_prime ["prime"] f_need_prime _ := ⟨F_need_prime, PySem.W.mg_of X G n_need_prime, F_need_prime.binds (ps := ["prime"]) fun _ _ _ _ _ _ us hl => match us, hl with | [_], _ => rfl⟩
  have F_need_row := fun_mk (st := s_need_row) l_need_row c_need_row k_need_row
  have D_need_row : Dat K mg "need_row" s_need_row ["prime", "row"] f_need_row _ := ⟨F_need_row, PySem.W.mg_of X G n_need_row, F_need_row.binds (ps := ["prime", "row"]) fun _ _ _ _ _ _ us hl => match us, hl with | [_, _], _ => rfl⟩
  have F_need_prime_and_rows := fun_mk (st := s_need_prime_and_rows) l_need_prime_and_rows c_need_prime_and_rows k_need_prime_and_rows
  have D_need_prime_and_rows : Dat K mg "need_prime_and_rows" s_need_prime_and_rows ["prime", "one", "other"] f_need_prime_and_rows _ := ⟨F_need_prime_and_rows, PySem.W.mg_of X G n_need_prime_and_rows, F_need_prime_and_rows.binds (ps := ["prime", "one", "other"]) fun _ _ _ _ _ _ us hl => match us, hl with | [_, _, _], _ => rfl⟩
  have F_inverse := fun_mk (st := s_inverse) l_inverse c_inverse k_inverse
  have D_inverse : Dat K mg "inverse" s_inverse ["prime", "rest"] f_inverse _ := ⟨F_inverse, PySem.W.mg_of X G n_inverse, F_inverse.binds (ps := ["prime", "rest"]) fun _ _ _ _ _ _ us hl => match us, hl with | [_, _], _ => rfl⟩
  have F_product := fun_mk (st := s_product) l_product c_product k_product
  have D_product : Dat K mg "product" s_product ["prime", "one", "other"] f_product _ := ⟨F_product, PySem.W.mg_of X G n_product, F_product.binds (ps := ["prime", "one", "other"]) fun _ _ _ _ _ _ us hl => match us, hl with | [_, _, _], _ => rfl⟩
  have F_product_place := fun_mk (st := s_product_place) l_product_place c_product_place k_product_place
  have D_product_place : Dat K mg "product_place" s_product_place ["one", "other", "place"] f_product_place _ := ⟨F_product_place, PySem.W.mg_of X G n_product_place, F_product_place.binds (ps := ["one", "other", "place"]) fun _ _ _ _ _ _ us hl => match us, hl with | [_, _, _], _ => rfl⟩
  have F_put_in := fun_mk (st := s_put_in) l_put_in c_put_in k_put_in
  have D_put_in : Dat K mg "put_in" s_put_in ["prime", "outer", "inner"] f_put_in _ := ⟨F_put_in, PySem.W.mg_of X G n_put_in, F_put_in.binds (ps := ["prime", "outer", "inner"]) fun _ _ _ _ _ _ us hl => match us, hl with | [_, _, _], _ => rfl⟩
  have F_turned_out := fun_mk (st := s_turned_out) l_turned_out c_turned_out k_turned_out
  have D_turned_out : Dat K mg "turned_out" s_turned_out ["prime", "row"] f_turned_out _ := ⟨F_turned_out, PySem.W.mg_of X G n_turned_out, F_turned_out.binds (ps := ["prime", "row"]) fun _ _ _ _ _ _ us hl => match us, hl with | [_, _], _ => rfl⟩
  have F_solved := fun_mk (st := s_solved) l_solved c_solved k_solved
  have D_solved : Dat K mg "solved" s_solved ["prime", "row"] f_solved _ := ⟨F_solved, PySem.W.mg_of X G n_solved, F_solved.binds (ps := ["prime", "row"]) fun _ _ _ _ _ _ us hl => match us, hl with | [_, _], _ => rfl⟩
  have F_law_number := fun_mk (st := s_law_number) l_law_number c_law_number k_law_number
  have D_law_number : Dat K mg "_law_number" s_law_number ["_law_cell", "_law_at", "_law_whole"] f_law_number _ := ⟨F_law_number, PySem.W.mg_of X G n_law_number, F_law_number.binds (ps := ["_law_cell", "_law_at", "_law_whole"]) fun _ _ _ _ _ _ us hl => match us, hl with | [_, _, _], _ => rfl⟩
  have F_law_prime := fun_mk (st := s_law_prime) l_law_prime c_law_prime k_law_prime
  have D_law_prime : Dat K mg "_law_prime" s_law_prime ["_law_script", "_law_by"] f_law_prime _ := ⟨F_law_prime, PySem.W.mg_of X G n_law_prime, F_law_prime.binds (ps := ["_law_script", "_law_by"]) fun _ _ _ _ _ _ us hl => match us, hl with | [_, _], _ => rfl⟩
  have F_law_row := fun_mk (st := s_law_row) l_law_row c_law_row k_law_row
  have D_law_row : Dat K mg "_law_row" s_law_row ["_law_script", "_law_by", "_law_prime_here", "_law_most"] f_law_row _ := ⟨F_law_row, PySem.W.mg_of X G n_law_row, F_law_row.binds (ps := ["_law_script", "_law_by", "_law_prime_here", "_law_most"]) fun _ _ _ _ _ _ us hl => match us, hl with | [_, _, _, _], _ => rfl⟩
  have F_law_times := fun_mk (st := s_law_times) l_law_times c_law_times k_law_times
  have D_law_times : Dat K mg "_law_times" s_law_times ["_law_prime_here", "_law_one", "_law_other"] f_law_times _ := ⟨F_law_times, PySem.W.mg_of X G n_law_times, F_law_times.binds (ps := ["_law_prime_here", "_law_one", "_law_other"]) fun _ _ _ _ _ _ us hl => match us, hl with | [_, _, _], _ => rfl⟩
  have F_law_put := fun_mk (st := s_law_put) l_law_put c_law_put k_law_put
  have D_law_put : Dat K mg "_law_put" s_law_put ["_law_prime_here", "_law_outer", "_law_inner"] f_law_put _ := ⟨F_law_put, PySem.W.mg_of X G n_law_put, F_law_put.binds (ps := ["_law_prime_here", "_law_outer", "_law_inner"]) fun _ _ _ _ _ _ us hl => match us, hl with | [_, _, _], _ => rfl⟩
  have F_law_none := fun_mk (st := s_law_none) l_law_none c_law_none k_law_none
  have D_law_none : Dat K mg "_law_none" s_law_none ["_law_ask", "_law_what"] f_law_none _ := ⟨F_law_none, PySem.W.mg_of X G n_law_none, F_law_none.binds (ps := ["_law_ask", "_law_what"]) fun _ _ _ _ _ _ us hl => match us, hl with | [_, _], _ => rfl⟩
  have F_law_out_right := fun_mk (st := s_law_out_right) l_law_out_right c_law_out_right k_law_out_right
  have D_law_out_right : Dat K mg "_law_out_right" s_law_out_right ["_law_prime_here", "_law_row_here"] f_law_out_right _ := ⟨F_law_out_right, PySem.W.mg_of X G n_law_out_right, F_law_out_right.binds (ps := ["_law_prime_here", "_law_row_here"]) fun _ _ _ _ _ _ us hl => match us, hl with | [_, _], _ => rfl⟩
  have D_law : DatC K mg "law" s_law ["_law_script"] fa _ cc := ⟨_, _, _, _, _, _, _, _, rfl, l_law, c_law⟩
  have X_NoInside : ExcF K a_NoInside := ⟨ex_NoInside, sb_NoInside, ty_NoInside, ic_NoInside⟩
  have E_NoInside : ExcC K a_NoInside := ⟨ga_NoInside, gt_NoInside, sb_NoInside, hd_NoInside, cl_NoInside, sp__get, tk__get, mo_NoInside⟩
  have M_NoInside_PowerError : PySem.W.exmOne K (.ref a_NoInside) (.ref a_PowerError) = some true := PySem.W.exm_ref sb_PowerError hd_PowerError ty_PowerError su_NoInside_PowerError
  have K_NoInside_BadRow : PySem.W.kitOne K (.ref a_NoInside) (.ref a_BadRow) = some false := kit_other ic_BadRow ty_BadRow su_NoInside_BadRow se_NoInside
  have K_NoInside_BadPrime : PySem.W.kitOne K (.ref a_NoInside) (.ref a_BadPrime) = some false := kit_other ic_BadPrime ty_BadPrime su_NoInside_BadPrime se_NoInside
  have K_NoInside_NoPart : PySem.W.kitOne K (.ref a_NoInside) (.ref a_NoPart) = some false := kit_other ic_NoPart ty_NoPart su_NoInside_NoPart se_NoInside
  have K_NoInside_NoInside : PySem.W.kitOne K (.ref a_NoInside) (.ref a_NoInside) = some true := kit_self ic_NoInside ty_NoInside se_NoInside
  refine ⟨PySem.W.fnOf "law" "law" (defArgs s_law) (defBody s_law) (defScope s_law) .none kV_law dc_law pm_law an_law (.ref cc) ct_law, [(cc, PP)], spLaw K PP, ?_, ?_, ?_, fun s v => .of_eq rfl, ?_, fun base _ _ hTB => ?_⟩
  · intro p hp
    rw [List.mem_singleton.mp hp]
    exact own cc PP _ _ _ _ _ _ l_law rfl rfl lc_cc v11_cc
  · intro p hp
    rw [List.mem_singleton.mp hp]
    exact nT_cc
  · intro p hp
    rw [List.mem_singleton.mp hp]
    exact ⟨_, vs_cc, fi_cc, tf_cc, fl_cc, tg_cc, in_cc, tx_cc, tt_cc, X _ _ lc_cc, rfl, rfl, v11_cc, g11_cc, g18_cc, g7_cc, g9_cc, g10_cc, ne_cc⟩
  · exact fun H a ns hl hb hT hS => ⟨a, ns, rfl, hS, hb, hT _ (List.mem_singleton.mpr rfl), fun _ => rfl⟩
  have TB := hTB _ (List.mem_singleton.mpr rfl)
  have C_is_number := ok_is_number (P := l.prog) (w := w) (base := base) D_is_number B 
  have C_is_within := ok_is_within (P := l.prog) (w := w) (base := base) D_is_within B C_is_number
  have C_is_rest := ok_is_rest (P := l.prog) (w := w) (base := base) D_is_rest B C_is_within
  have C_are_rests := ok_are_rests (P := l.prog) (w := w) (base := base) D_are_rests B C_is_rest
  have C_need_prime := ok_need_prime (P := l.prog) (w := w) (base := base) D_need_prime B C_is_number
  have C_need_row := ok_need_row (P := l.prog) (w := w) (base := base) D_need_row B C_are_rests
  have C_need_prime_and_rows := ok_need_prime_and_rows (P := l.prog) (w := w) (base := base) D_need_prime_and_rows B C_need_prime C_need_row
  have C_product_place := ok_product_place (P := l.prog) (w := w) (base := base) D_product_place B 
  have C_product := ok_product (P := l.prog) (w := w) (base := base) D_product B C_product_place
  have C_inverse := ok_inverse (P := l.prog) (w := w) (base := base) D_inverse B 
  have C_put_in := ok_put_in (P := l.prog) (w := w) (base := base) D_put_in B C_need_prime_and_rows C_product
  have X_put_in := ok_put_in_x (P := l.prog) (w := w) (base := base) D_put_in B X_NoInside C_need_prime_and_rows
  have C_solved := ok_solved (P := l.prog) (w := w) (base := base) D_solved B C_inverse C_product
  have C_turned_out := ok_turned_out (P := l.prog) (w := w) (base := base) D_turned_out B C_need_prime C_need_row C_solved
  have X_turned_out := ok_turned_out_x (P := l.prog) (w := w) (base := base) D_turned_out B X_NoInside C_need_prime C_need_row
  have C_law_number := ok_law_number (P := l.prog) (w := w) (base := base) D_law_number B 
  have C_law_prime := ok_law_prime (P := l.prog) (w := w) (base := base) D_law_prime B 
  have C_law_row := ok_law_row (P := l.prog) (w := w) (base := base) D_law_row B C_law_number
  have C_law_times := ok_law_times (P := l.prog) (w := w) (base := base) D_law_times B 
  have C_law_put := ok_law_put (P := l.prog) (w := w) (base := base) D_law_put B C_law_times
  have C_law_out_right := ok_law_out_right (P := l.prog) (w := w) (base := base) D_law_out_right B C_turned_out C_law_put
  have C_law_none := ok_law_none (P := l.prog) (w := w) (base := base) D_law_none B E_NoInside M_NoInside_PowerError K_NoInside_BadRow K_NoInside_BadPrime K_NoInside_NoPart K_NoInside_NoInside
  exact ok_law (P := l.prog) (w := w) (base := base) D_law TB B C_law_prime C_law_row C_put_in C_turned_out X_put_in X_turned_out C_law_put C_law_out_right C_law_none
end Pw
open PySem PySem.W PyProof.Rows
set_option maxHeartbeats 0 in
theorem PySem.Challenge.cw_powerrows_k02_whole_inside_holds : PySem.Challenge.rw_powerrows_k02_whole_inside.Holds := by
  w_on; o_law; k_head; (case hw => w_witness2)
  k_fill
  refine LamX.walk_ofOwn (l := PySem.Challenge.rw_powerrows_k02_whole_inside) (n := 63) (k := 30) (x := "_law_script") (CX := fun _ => L2.CX0) rfl (by decide) rfl ⟨rfl, by decide, by decide⟩ (by decide +kernel) (fun w h Y => PySem.W.km_in_of Y) ?F (fun _ _ _ _ _ h => h)
  case F =>
    intro w mg fa h Y KX G hmg own
    refine' Pw.all_mk KX G hmg own ?z_abs ?z_all ?z_any ?z_bool ?z_int ?z_isinstance ?z_len ?z_list ?z_min ?z_range ?z_reversed ?z_sum ?z_zip ?n_PRIMES ?o_PRIMES ?s_PRIMES ?v_PRIMES ?n_MOST_CUT ?n_PowerError ?k_PowerError ?sb_PowerError ?ty_PowerError ?ic_PowerError ?n_BadPrime ?k_BadPrime ?sb_BadPrime ?ty_BadPrime ?ic_BadPrime ?n_BadRow ?k_BadRow ?sb_BadRow ?ty_BadRow ?ic_BadRow ?n_NoPart ?k_NoPart ?sb_NoPart ?ty_NoPart ?ic_NoPart ?n_NoInside ?k_NoInside ?sb_NoInside ?ty_NoInside ?ic_NoInside ?n_is_number ?l_is_number ?c_is_number ?k_is_number ?n_is_within ?l_is_within ?c_is_within ?k_is_within ?n_is_rest ?l_is_rest ?c_is_rest ?k_is_rest ?n_are_rests ?l_are_rests ?c_are_rests ?k_are_rests ?n_need_prime ?l_need_prime ?c_need_prime ?k_need_prime ?n_need_row ?l_need_row ?c_need_row ?k_need_row ?n_need_prime_and_rows ?l_need_prime_and_rows ?c_need_prime_and_rows ?k_need_prime_and_rows ?n_inverse ?l_inverse ?c_inverse ?k_inverse ?n_product ?l_product ?c_product ?k_product ?n_product_place ?l_product_place ?c_product_place ?k_product_place ?n_put_in ?l_put_in ?c_put_in ?k_put_in ?n_turned_out ?l_turned_out ?c_turned_out ?k_turned_out ?n_solved ?l_solved ?c_solved ?k_solved ?n_law_number ?l_law_number ?c_law_number ?k_law_number ?n_law_prime ?l_law_prime ?c_law_prime ?k_law_prime ?n_law_row ?l_law_row ?c_law_row ?k_law_row ?n_law_times ?l_law_times ?c_law_times ?k_law_times ?n_law_put ?l_law_put ?c_law_put ?k_law_put ?n_law_none ?l_law_none ?c_law_none ?k_law_none ?n_law_out_right ?l_law_out_right ?c_law_out_right ?k_law_out_right ?n_law ?l_law ?c_law ?k_law ?ex_NoInside ?ga_NoInside ?gt_NoInside ?hd_NoInside ?cl_NoInside ?sp__get ?tk__get ?mo_NoInside ?se_NoInside ?hd_PowerError ?su_NoInside_PowerError ?su_NoInside_BadRow ?su_NoInside_BadPrime ?su_NoInside_NoPart ?lc_cc ?v11_cc ?g11_cc ?g18_cc ?g7_cc ?g9_cc ?g10_cc ?ne_cc ?nT_cc
    (case z_abs => k_is)
    (case z_all => k_is)
    (case z_any => k_is)
    (case z_bool => k_is)
    (case z_int => k_is)
    (case z_isinstance => k_is)
    (case z_len => k_is)
    (case z_list => k_is)
    (case z_min => k_is)
    (case z_range => k_is)
    (case z_reversed => k_is)
    (case z_sum => k_is)
    (case z_zip => k_is)
    (case n_PRIMES => k_is)
    (case o_PRIMES => k_is)
    (case s_PRIMES => decide)
    (case v_PRIMES => rfl)
    (case n_MOST_CUT => k_is)
    (case n_PowerError => k_is)
    (case k_PowerError => k_is)
    (case sb_PowerError => k_is)
    (case ty_PowerError => k_is)
    (case ic_PowerError => k_is)
    (case n_BadPrime => k_is)
    (case k_BadPrime => k_is)
    (case sb_BadPrime => k_is)
    (case ty_BadPrime => k_is)
    (case ic_BadPrime => k_is)
    (case n_BadRow => k_is)
    (case k_BadRow => k_is)
    (case sb_BadRow => k_is)
    (case ty_BadRow => k_is)
    (case ic_BadRow => k_is)
    (case n_NoPart => k_is)
    (case k_NoPart => k_is)
    (case sb_NoPart => k_is)
    (case ty_NoPart => k_is)
    (case ic_NoPart => k_is)
    (case n_NoInside => k_is)
    (case k_NoInside => k_is)
    (case sb_NoInside => k_is)
    (case ty_NoInside => k_is)
    (case ic_NoInside => k_is)
    (case n_is_number => k_is)
    (case l_is_number => k_is)
    (case c_is_number => k_is)
    (case k_is_number => k_is)
    (case n_is_within => k_is)
    (case l_is_within => k_is)
    (case c_is_within => k_is)
    (case k_is_within => k_is)
    (case n_is_rest => k_is)
    (case l_is_rest => k_is)
    (case c_is_rest => k_is)
    (case k_is_rest => k_is)
    (case n_are_rests => k_is)
    (case l_are_rests => k_is)
    (case c_are_rests => k_is)
    (case k_are_rests => k_is)
    (case n_need_prime => k_is)
    (case l_need_prime => k_is)
    (case c_need_prime => k_is)
    (case k_need_prime => k_is)
    (case n_need_row => k_is)
    (case l_need_row => k_is)
    (case c_need_row => k_is)
    (case k_need_row => k_is)
    (case n_need_prime_and_rows => k_is)
    (case l_need_prime_and_rows => k_is)
    (case c_need_prime_and_rows => k_is)
    (case k_need_prime_and_rows => k_is)
    (case n_inverse => k_is)
    (case l_inverse => k_is)
    (case c_inverse => k_is)
    (case k_inverse => k_is)
    (case n_product => k_is)
    (case l_product => k_is)
    (case c_product => k_is)
    (case k_product => k_is)
    (case n_product_place => k_is)
    (case l_product_place => k_is)
    (case c_product_place => k_is)
    (case k_product_place => k_is)
    (case n_put_in => k_is)
    (case l_put_in => k_is)
    (case c_put_in => k_is)
    (case k_put_in => k_is)
    (case n_turned_out => k_is)
    (case l_turned_out => k_is)
    (case c_turned_out => k_is)
    (case k_turned_out => k_is)
    (case n_solved => k_is)
    (case l_solved => k_is)
    (case c_solved => k_is)
    (case k_solved => k_is)
    (case n_law_number => k_is)
    (case l_law_number => k_is)
    (case c_law_number => k_is)
    (case k_law_number => k_is)
    (case n_law_prime => k_is)
    (case l_law_prime => k_is)
    (case c_law_prime => k_is)
    (case k_law_prime => k_is)
    (case n_law_row => k_is)
    (case l_law_row => k_is)
    (case c_law_row => k_is)
    (case k_law_row => k_is)
    (case n_law_times => k_is)
    (case l_law_times => k_is)
    (case c_law_times => k_is)
    (case k_law_times => k_is)
    (case n_law_put => k_is)
    (case l_law_put => k_is)
    (case c_law_put => k_is)
    (case k_law_put => k_is)
    (case n_law_none => k_is)
    (case l_law_none => k_is)
    (case c_law_none => k_is)
    (case k_law_none => k_is)
    (case n_law_out_right => k_is)
    (case l_law_out_right => k_is)
    (case c_law_out_right => k_is)
    (case k_law_out_right => k_is)
    (case n_law => k_is)
    (case l_law => k_is)
    (case c_law => k_is)
    (case k_law => k_is)
    (case ex_NoInside => k_exc)
    (case ga_NoInside => k_is)
    (case gt_NoInside => k_is)
    (case hd_NoInside => k_is)
    (case cl_NoInside => k_is)
    (case sp__get => k_is)
    (case tk__get => k_is)
    (case mo_NoInside => k_is)
    (case se_NoInside => k_is)
    (case hd_PowerError => k_is)
    (case su_NoInside_PowerError => k_is)
    (case su_NoInside_BadRow => k_is)
    (case su_NoInside_BadPrime => k_is)
    (case su_NoInside_NoPart => k_is)
    (case lc_cc => k_is)
    (case v11_cc => rfl)
    (case g11_cc => rfl)
    (case g18_cc => rfl)
    (case g7_cc => rfl)
    (case g9_cc => rfl)
    (case g10_cc => rfl)
    (case ne_cc => decide)
    (case nT_cc => rfl)
