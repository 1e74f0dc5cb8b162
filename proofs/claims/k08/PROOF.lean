import PyProof.Rows.All
import Wide.All
import OpenK.AllK
import Wide.FinOn
import HandS.ForMost
import HandS.ForExc
import HandS.Evl
import HandS.IsInst
import HandS.ExcIs
import HandS.EndBits
import HandS.Style
import HandS.Zip
import KE.IntBitsLaws
import KE.KEqDeep
import HandS.ExcCtx
import HandS.Hot
import HandS.RevRange
import PyProof.MaxThree
import HandS.Walk
import PyProof.P3Eq
import PySem.Challenge.RW_powerrows_k08_whole_grown
set_option Elab.async false
set_option linter.all false
set_option maxRecDepth 100000
set_option maxHeartbeats 4000000
namespace Pw
/-! ### the mathematics of rows: sequences of whole numbers, their products, modulo p -/
abbrev Sq := Nat → Int
def tl (f : Sq) : Sq := fun n => f (n + 1)
/-- the product of two sequences -/
def cv : Sq → Sq → Nat → Int
  | f, g, 0 => f 0 * g 0
  | f, g, n + 1 => f 0 * g (n + 1) + cv (tl f) g n
def one : Sq := fun n => if n = 0 then 1 else 0
def zer : Sq := fun _ => 0
def plusS (f g : Sq) : Sq := fun n => f n + g n
def smul (c : Int) (f : Sq) : Sq := fun n => c * f n
/-- one place on -/
def sh (f : Sq) : Sq := fun n => match n with
  | 0 => 0
  | n + 1 => f n
theorem cv_add_left (f g h : Sq) (n : Nat) : cv (fun n => f n + g n) h n = cv f h n + cv g h n := by
  induction n generalizing f g with
  | zero => exact Int.add_mul _ _ _
  | succ n ih =>
    show (f 0 + g 0) * h (n + 1) + cv (fun n => tl f n + tl g n) h n = f 0 * h (n + 1) + cv (tl f) h n + (g 0 * h (n + 1) + cv (tl g) h n)
    rw [ih, Int.add_mul]
    omega
theorem cv_smul_left (c : Int) (f h : Sq) (n : Nat) : cv (fun n => c * f n) h n = c * cv f h n := by
  induction n generalizing f with
  | zero => exact Int.mul_assoc _ _ _
  | succ n ih =>
    show (c * f 0) * h (n + 1) + cv (fun n => c * tl f n) h n = c * (f 0 * h (n + 1) + cv (tl f) h n)
    rw [ih, Int.mul_add, Int.mul_assoc]
theorem cv_succ (f g : Sq) (n : Nat) : cv f g (n + 1) = cv f (tl g) n + f (n + 1) * g 0 := by
  induction n generalizing f with
  | zero => rfl
  | succ n ih =>
    show f 0 * g (n + 2) + cv (tl f) g (n + 1) = f 0 * tl g (n + 1) + cv (tl f) (tl g) n + f (n + 2) * g 0
    rw [ih (tl f)]
    show f 0 * g (n + 2) + (cv (tl f) (tl g) n + f (n + 2) * g 0) = f 0 * g (n + 2) + cv (tl f) (tl g) n + f (n + 2) * g 0
    omega
theorem cv_comm (f g : Sq) (n : Nat) : cv f g n = cv g f n := by
  induction n generalizing f g with
  | zero => exact Int.mul_comm _ _
  | succ n ih =>
    rw [cv_succ g f]
    show f 0 * g (n + 1) + cv (tl f) g n = cv g (tl f) n + g (n + 1) * f 0
    rw [ih (tl f) g, Int.mul_comm (f 0)]
    omega
theorem cv_add_right (f g h : Sq) (n : Nat) : cv f (fun n => g n + h n) n = cv f g n + cv f h n := by
  rw [cv_comm, cv_add_left, cv_comm g, cv_comm h]
theorem cv_smul_right (c : Int) (f g : Sq) (n : Nat) : cv f (fun n => c * g n) n = c * cv f g n := by
  rw [cv_comm, cv_smul_left, cv_comm g]
theorem cv_congr {f f' g g' : Sq} {n : Nat} (h1 : ∀ i, i ≤ n → f i = f' i) (h2 : ∀ i, i ≤ n → g i = g' i) : cv f g n = cv f' g' n := by
  induction n generalizing f f' with
  | zero =>
    show f 0 * g 0 = f' 0 * g' 0
    rw [h1 0 (Nat.le_refl _), h2 0 (Nat.le_refl _)]
  | succ n ih =>
    show f 0 * g (n + 1) + cv (tl f) g n = f' 0 * g' (n + 1) + cv (tl f') g' n
    rw [h1 0 (Nat.zero_le _), h2 (n + 1) (Nat.le_refl _), ih (f := tl f) (f' := tl f') (fun i hi => h1 (i + 1) (Nat.succ_le_succ hi)) (fun i hi => h2 i (Nat.le_succ_of_le hi))]
theorem cv_assoc (f g h : Sq) (n : Nat) : cv (cv f g) h n = cv f (cv g h) n := by
  induction n generalizing f g with
  | zero => exact Int.mul_assoc _ _ _
  | succ n ih =>
    show (f 0 * g 0) * h (n + 1) + cv (tl (cv f g)) h n = f 0 * (g 0 * h (n + 1) + cv (tl g) h n) + cv (tl f) (cv g h) n
    have e : cv (tl (cv f g)) h n = f 0 * cv (tl g) h n + cv (cv (tl f) g) h n := by
      have e1 : tl (cv f g) = fun n => (fun n => f 0 * tl g n) n + cv (tl f) g n := rfl
      rw [e1, cv_add_left, cv_smul_left]
    rw [e, ih, Int.mul_add, Int.mul_assoc]
    omega
theorem cv_one_left (g : Sq) (n : Nat) : cv one g n = g n := by
  have z : ∀ (n : Nat) (h : Sq), cv (tl one) h n = 0 := by
    intro n h
    have e : tl one = fun n => 0 * one n := by
      funext m
      show (if m + 1 = 0 then (1 : Int) else 0) = 0 * one m
      rw [if_neg (Nat.succ_ne_zero m), Int.zero_mul]
    rw [e, cv_smul_left, Int.zero_mul]
  cases n with
  | zero => exact Int.one_mul _
  | succ n =>
    show 1 * g (n + 1) + cv (tl one) g n = g (n + 1)
    rw [z, Int.one_mul, Int.add_zero]
theorem cv_one_right (f : Sq) (n : Nat) : cv f one n = f n := by rw [cv_comm, cv_one_left]
theorem cv_zer_left (g : Sq) (n : Nat) : cv zer g n = 0 := by
  have e : zer = fun n => 0 * zer n := by
    funext m
    show (0 : Int) = 0 * _
    rw [Int.zero_mul]
  rw [e, cv_smul_left, Int.zero_mul]
theorem cv_zer_right (f : Sq) (n : Nat) : cv f zer n = 0 := by rw [cv_comm, cv_zer_left]
theorem cv_sh_left (f g : Sq) (n : Nat) : cv (sh f) g n = sh (cv f g) n := by
  cases n with
  | zero => exact Int.zero_mul _
  | succ n =>
    show 0 * g (n + 1) + cv f g n = cv f g n
    rw [Int.zero_mul, Int.zero_add]
theorem cv_sh_right (f g : Sq) (n : Nat) : cv f (sh g) n = sh (cv f g) n := by
  rw [cv_comm, cv_sh_left]
  cases n with
  | zero => rfl
  | succ n => exact cv_comm g f n
/-! ### modulo p -/
theorem em_add {p a b c d : Int} (h1 : a % p = b % p) (h2 : c % p = d % p) : (a + c) % p = (b + d) % p := by
  rw [Int.add_emod, h1, h2, ← Int.add_emod]
theorem em_mul {p a b c d : Int} (h1 : a % p = b % p) (h2 : c % p = d % p) : (a * c) % p = (b * d) % p := by
  rw [Int.mul_emod, h1, h2, ← Int.mul_emod]
theorem em_sub {p a b c d : Int} (h1 : a % p = b % p) (h2 : c % p = d % p) : (a - c) % p = (b - d) % p := by
  rw [Int.sub_emod, h1, h2, ← Int.sub_emod]
theorem em_em {p : Int} (a : Int) : a % p % p = a % p := Int.emod_emod_of_dvd a (Int.dvd_refl p)
theorem cv_em {p : Int} {f f' g g' : Sq} {n : Nat} (h1 : ∀ i, i ≤ n → f i % p = f' i % p) (h2 : ∀ i, i ≤ n → g i % p = g' i % p) : cv f g n % p = cv f' g' n % p := by
  induction n generalizing f f' with
  | zero => exact em_mul (h1 0 (Nat.le_refl _)) (h2 0 (Nat.le_refl _))
  | succ n ih =>
    show (f 0 * g (n + 1) + cv (tl f) g n) % p = (f' 0 * g' (n + 1) + cv (tl f') g' n) % p
    exact em_add (em_mul (h1 0 (Nat.zero_le _)) (h2 (n + 1) (Nat.le_refl _))) (ih (fun i hi => h1 (i + 1) (Nat.succ_le_succ hi)) (fun i hi => h2 i (Nat.le_succ_of_le hi)))
/-! ### lists as sequences -/
def sq (xs : List Int) : Sq := fun n => xs.getD n 0
theorem sum_map_zero {α : Type} (l : List α) : (l.map fun _ => (0 : Int)).sum = 0 := by
  induction l with
  | nil => rfl
  | cons a r ih =>
    show 0 + (r.map fun _ => (0 : Int)).sum = 0
    rw [ih]
    rfl
/-- the sum over all two places that come to n -/
theorem sum_cv (f g : Sq) (n : Nat) : ((List.range (n + 1)).map fun i => f i * g (n - i)).sum = cv f g n := by
  induction n generalizing f with
  | zero =>
    show f 0 * g 0 + 0 = f 0 * g 0
    omega
  | succ n ih =>
    rw [List.range_succ_eq_map, List.map_cons, List.map_map, List.sum_cons]
    show f 0 * g (n + 1) + _ = f 0 * g (n + 1) + cv (tl f) g n
    rw [← ih (tl f)]
    congr 2
    apply List.map_congr_left
    intro i hi
    show f (i + 1) * g (n + 1 - (i + 1)) = f (i + 1) * g (n - i)
    rw [Nat.add_sub_add_right]
/-- the sum without the last of them -/
theorem sum_cv_less (f g : Sq) (n : Nat) : ((List.range n).map fun i => f i * g (n - i)).sum = cv f g n - f n * g 0 := by
  have e := sum_cv f g n
  rw [List.range_succ, List.map_append, List.sum_append] at e
  have e2 : ([n].map fun i => f i * g (n - i)).sum = f n * g 0 := by
    show f n * g (n - n) + 0 = f n * g 0
    rw [Nat.sub_self]
    omega
  rw [e2] at e
  omega
/-! ### the values that the program tells -/
/-- a row: 1 to 20 rests -/
structure Rowp (p : Int) (xs : List Int) : Prop where
  lo : 1 ≤ xs.length
  hi : xs.length ≤ 20
  rest : ∀ x ∈ xs, 0 ≤ x ∧ x < p
def prodL (p : Int) (xs ys : List Int) : List Int := (List.range (min xs.length ys.length)).map fun n => cv (sq xs) (sq ys) n % p
def plusL (p : Int) (xs ys : List Int) : List Int := (List.range (min xs.length ys.length)).map fun n => (sq xs n + sq ys n) % p
theorem prodL_len (p : Int) (xs ys : List Int) : (prodL p xs ys).length = min xs.length ys.length := by
  unfold prodL
  rw [List.length_map, List.length_range]
theorem plusL_len (p : Int) (xs ys : List Int) : (plusL p xs ys).length = min xs.length ys.length := by
  unfold plusL
  rw [List.length_map, List.length_range]
theorem sq_map_range {f : Nat → Int} {m n : Nat} (h : n < m) : sq ((List.range m).map f) n = f n := by
  unfold sq
  rw [List.getD_eq_getElem?_getD, List.getElem?_map, List.getElem?_range h]
  rfl
theorem sq_out {xs : List Int} {n : Nat} (h : xs.length ≤ n) : sq xs n = 0 := by
  unfold sq
  rw [List.getD_eq_getElem?_getD, List.getElem?_eq_none h]
  rfl
theorem sq_at {xs : List Int} {n : Nat} (h : n < xs.length) : xs[n]? = some (sq xs n) := by
  unfold sq
  rw [List.getD_eq_getElem?_getD, List.getElem?_eq_getElem h]
  rfl
theorem sq_mem {xs : List Int} {n : Nat} (h : n < xs.length) : sq xs n ∈ xs := List.mem_of_getElem? (sq_at h)
theorem sq_take {xs : List Int} {m n : Nat} (h : n < m) : sq (xs.take m) n = sq xs n := by
  unfold sq
  rw [List.getD_eq_getElem?_getD, List.getD_eq_getElem?_getD, List.getElem?_take, if_pos h]
theorem sq_append_left {xs ys : List Int} {n : Nat} (h : n < xs.length) : sq (xs ++ ys) n = sq xs n := by
  unfold sq
  rw [List.getD_eq_getElem?_getD, List.getD_eq_getElem?_getD, List.getElem?_append_left h]
theorem sq_append_at {xs : List Int} {y : Int} : sq (xs ++ [y]) xs.length = y := by
  unfold sq
  rw [List.getD_eq_getElem?_getD, List.getElem?_append_right (Nat.le_refl _), Nat.sub_self]
  rfl
/-- lists are the same if their lengths and places are -/
theorem ext_sq {xs ys : List Int} (h : xs.length = ys.length) (e : ∀ n, n < xs.length → sq xs n = sq ys n) : xs = ys := by
  apply List.ext_getElem? 
  intro n
  by_cases hn : n < xs.length
  · rw [sq_at hn, sq_at (h ▸ hn), e n hn]
  · rw [List.getElem?_eq_none (by omega), List.getElem?_eq_none (by omega)]
theorem sq_prodL {p : Int} {xs ys : List Int} {n : Nat} (h : n < min xs.length ys.length) : sq (prodL p xs ys) n = cv (sq xs) (sq ys) n % p := sq_map_range h
theorem sq_plusL {p : Int} {xs ys : List Int} {n : Nat} (h : n < min xs.length ys.length) : sq (plusL p xs ys) n = (sq xs n + sq ys n) % p := sq_map_range h
theorem Rowp.at {p : Int} {xs : List Int} (h : Rowp p xs) {n : Nat} (hn : n < xs.length) : 0 ≤ sq xs n ∧ sq xs n < p := h.rest _ (sq_mem hn)
theorem Rowp.em {p : Int} {xs : List Int} (h : Rowp p xs) {n : Nat} (hn : n < xs.length) : sq xs n % p = sq xs n := Int.emod_eq_of_lt (h.at hn).1 (h.at hn).2
theorem rowp_map {p : Int} (hp : 0 < p) {m : Nat} {f : Nat → Int} (h1 : 1 ≤ m) (h2 : m ≤ 20) : Rowp p ((List.range m).map fun n => f n % p) := by
  refine ⟨by rw [List.length_map, List.length_range]; exact h1, by rw [List.length_map, List.length_range]; exact h2, fun x hx => ?_⟩
  obtain ⟨i, _, rfl⟩ := List.mem_map.mp hx
  exact ⟨Int.emod_nonneg _ (by omega), Int.emod_lt_of_pos _ hp⟩
theorem Rowp.prod {p : Int} (hp : 0 < p) {xs ys : List Int} (h1 : Rowp p xs) (h2 : Rowp p ys) : Rowp p (prodL p xs ys) :=
  rowp_map hp (by have := h1.lo; have := h2.lo; omega) (by have := h1.hi; omega)
theorem Rowp.plus {p : Int} (hp : 0 < p) {xs ys : List Int} (h1 : Rowp p xs) (h2 : Rowp p ys) : Rowp p (plusL p xs ys) :=
  rowp_map hp (by have := h1.lo; have := h2.lo; omega) (by have := h1.hi; omega)
/-! ### primes and inverses -/
def primes : List Int := [2, 3, 5, 7, 11, 13, 17, 19, 23, 29, 31, 37, 41, 43, 47, 53, 59, 61, 67, 71, 73, 79, 83, 89, 97]
def Prm (p : Int) : Prop := p ∈ primes
theorem Prm.pos {p : Int} (h : Prm p) : 2 ≤ p ∧ p ≤ 97 := by
  unfold Prm primes at h
  simp only [List.mem_cons, List.not_mem_nil, or_false] at h
  omega
/-- what is multiplied so often, each time less all whole p -/
def powm (p r : Int) : Nat → Int
  | 0 => 1
  | n + 1 => powm p r n * r % p
def inv (p r : Int) : Int := powm p r (p - 2).toNat
def invCheck : Bool := primes.all fun p => (List.range p.toNat).all fun r => r == 0 || inv p r * r % p == 1
theorem invCheck_ok : invCheck = true := by decide +kernel
theorem inv_ok {p r : Int} (hp : Prm p) (h0 : 0 < r) (h1 : r < p) : inv p r * r % p = 1 := by
  have h := List.all_eq_true.mp invCheck_ok p hp
  have h2 := List.all_eq_true.mp h r.toNat (List.mem_range.mpr (by omega))
  have e : ((r.toNat : Nat) : Int) = r := Int.toNat_of_nonneg (Int.le_of_lt h0)
  have ne : (r.toNat == 0) = false := by
    rw [beq_eq_false_iff_ne]
    omega
  rw [ne, Bool.false_or] at h2
  have h3 := beq_iff_eq.mp h2
  rw [e] at h3
  exact h3
/-! ### the quotient -/
def quo (p c : Int) (f g : Sq) : Nat → List Int
  | 0 => []
  | n + 1 => quo p c f g n ++ [(f n - ((List.range n).map fun i => sq (quo p c f g n) i * g (n - i)).sum) * c % p]
theorem quo_len (p c : Int) (f g : Sq) (n : Nat) : (quo p c f g n).length = n := by
  induction n with
  | zero => rfl
  | succ n ih =>
    show (quo p c f g n ++ [_]).length = n + 1
    rw [List.length_append, ih]
    rfl
theorem quo_sq (p c : Int) (f g : Sq) {n m : Nat} (h : n < m) : sq (quo p c f g m) n = sq (quo p c f g (n + 1)) n := by
  induction m with
  | zero => omega
  | succ m ih =>
    by_cases e : n = m
    · rw [e]
    · show sq (quo p c f g m ++ [_]) n = _
      rw [sq_append_left (by rw [quo_len]; omega)]
      exact ih (by omega)
theorem quo_at (p c : Int) (f g : Sq) (n : Nat) : sq (quo p c f g (n + 1)) n = (f n - ((List.range n).map fun i => sq (quo p c f g n) i * g (n - i)).sum) * c % p := by
  have h := sq_append_at (xs := quo p c f g n) (y := (f n - ((List.range n).map fun i => sq (quo p c f g n) i * g (n - i)).sum) * c % p)
  rw [quo_len] at h
  exact h
theorem quo_mul {p c : Int} {f g : Sq} (hc : c * g 0 % p = 1 % p) {m n : Nat} (h : n < m) : cv (sq (quo p c f g m)) g n % p = f n % p := by
  have e : cv (sq (quo p c f g m)) g n = cv (sq (quo p c f g m)) g n - sq (quo p c f g m) n * g 0 + sq (quo p c f g m) n * g 0 := by omega
  rw [e, ← sum_cv_less]
  have e2 : ((List.range n).map fun i => sq (quo p c f g m) i * g (n - i)).sum = ((List.range n).map fun i => sq (quo p c f g n) i * g (n - i)).sum := by
    congr 1
    apply List.map_congr_left
    intro i hi
    have hi := List.mem_range.mp hi
    rw [quo_sq p c f g (Nat.lt_trans hi h), ← quo_sq p c f g hi]
  rw [e2, quo_sq p c f g h, quo_at]
  generalize ((List.range n).map fun i => sq (quo p c f g n) i * g (n - i)).sum = S
  have h3 : (f n - S) * c % p * g 0 % p = (f n - S) % p := by
    have : ((f n - S) * c % p * g 0) % p = ((f n - S) * (c * g 0)) % p := by
      rw [← Int.mul_assoc]
      exact em_mul (em_em _) rfl
    rw [this]
    have h4 : ((f n - S) * (c * g 0)) % p = ((f n - S) * 1) % p := em_mul rfl hc
    rw [h4, Int.mul_one]
  have h5 : (S + (f n - S) * c % p * g 0) % p = (S + (f n - S)) % p := em_add rfl h3
  rw [h5]
  congr 1
  omega
end Pw
namespace Pw
/-! ### what the drawing helpers tell -/
def absI (x : Int) : Int := if x < 0 then -x else x
theorem absI_nonneg (x : Int) : 0 ≤ absI x := by
  unfold absI
  split <;> omega
def blend (cell at_ whole : Int) : Int := ((cell + 977 * at_) * 48271 + whole) % 2147483647
def lnum (cell at_ whole : Int) : Int :=
  if 10 ^ 18 ≤ cell then cell / (1 + at_ % 7)
  else blend cell at_ whole * (cell + 31 * at_ + 7) * (blend cell at_ whole + cell + 5) * (blend cell at_ whole * blend cell at_ whole + 11) / (1009 + at_)
def lwhole (ns : List Int) : Int := absI (ns.take 63).sum
def lprime (ns : List Int) (by_ : Int) : Int :=
  if (lwhole ns + by_) / 60 % 2 = 0 then sq primes ((lwhole ns + by_) / 120 % 25).toNat else sq primes ((lwhole ns + by_) / 120 % 5).toNat
theorem lprime_prm (ns : List Int) (by_ : Int) : Prm (lprime ns by_) := by
  unfold lprime
  have l : primes.length = 25 := rfl
  split <;> exact sq_mem (by rw [l]; omega)
def lcells (ns : List Int) : List Int := if ns = [] then [5] else ns.take 63
theorem lcells_len (ns : List Int) : 1 ≤ (lcells ns).length ∧ (lcells ns).length ≤ 63 := by
  unfold lcells
  split
  · exact ⟨Nat.le_refl _, by decide⟩
  · rename_i h
    rw [List.length_take]
    have : 0 < ns.length := List.length_pos_iff.mpr h
    omega
theorem lcells_mem {ns : List Int} {x : Int} (h : x ∈ lcells ns) : x ∈ ns ∨ x = 5 := by
  unfold lcells at h
  split at h
  · exact .inr (List.mem_singleton.mp h)
  · exact .inl (List.mem_of_mem_take h)
/-- the place's rest -/
def lrowNum (ns : List Int) (by_ : Int) (n : Nat) : Int :=
  lnum (sq (lcells ns) (((n : Int) + by_) % ((lcells ns).length : Int)).toNat) ((n : Int) + 5 * by_) (absI (lcells ns).sum + 7 * by_) / 3
def lrowAt (ns : List Int) (by_ p : Int) (n : Nat) : Int :=
  sq [lrowNum ns by_ n % p, if lrowNum ns by_ n / 5 % 4 = 0 then lrowNum ns by_ n % p else 0, (absI (lcells ns).sum + 7 * by_) % p] ((absI (lcells ns).sum + 7 * by_) / 3 % 3).toNat
def lrow (ns : List Int) (by_ p most : Int) : List Int :=
  (List.range (1 + (absI (lcells ns).sum + 7 * by_) % most).toNat).map (lrowAt ns by_ p)
theorem lrowAt_rest {ns : List Int} {by_ p : Int} (hp : 0 < p) (n : Nat) : 0 ≤ lrowAt ns by_ p n ∧ lrowAt ns by_ p n < p := by
  have h : ∀ (x y z : Int) (k : Nat), (0 ≤ x ∧ x < p) → (0 ≤ y ∧ y < p) → (0 ≤ z ∧ z < p) → 0 ≤ sq [x, y, z] k ∧ sq [x, y, z] k < p := by
    intro x y z k hx hy hz
    match k with
    | 0 => exact hx
    | 1 => exact hy
    | 2 => exact hz
    | k + 3 =>
      have e : sq [x, y, z] (k + 3) = 0 := rfl
      rw [e]
      exact ⟨Int.le_refl _, hp⟩
  have m : ∀ x : Int, 0 ≤ x % p ∧ x % p < p := fun x => ⟨Int.emod_nonneg _ (by omega), Int.emod_lt_of_pos _ hp⟩
  refine h _ _ _ _ (m _) ?_ (m _)
  split
  · exact m _
  · exact ⟨Int.le_refl _, hp⟩
theorem lrow_len {ns : List Int} {by_ p most : Int} (hm : 0 < most) : 1 ≤ (lrow ns by_ p most).length ∧ ((lrow ns by_ p most).length : Int) ≤ most := by
  unfold lrow
  rw [List.length_map, List.length_range]
  have h1 := Int.emod_nonneg (absI (lcells ns).sum + 7 * by_) (show most ≠ 0 by omega)
  have h2 := Int.emod_lt_of_pos (absI (lcells ns).sum + 7 * by_) hm
  omega
theorem lrow_rowp {ns : List Int} {by_ p most : Int} (hp : 0 < p) (hm : 0 < most) (h20 : most ≤ 20) : Rowp p (lrow ns by_ p most) := by
  have l := lrow_len (ns := ns) (by_ := by_) (p := p) hm
  refine ⟨l.1, by omega, fun x hx => ?_⟩
  obtain ⟨n, _, rfl⟩ := List.mem_map.mp hx
  exact lrowAt_rest hp n
/-! ### the helper's product -/
/-- the sum over the first m places of the one -/
def pc (f g : Sq) : Nat → Nat → Int
  | 0, _ => 0
  | m + 1, k => pc f g m k + if m ≤ k then f m * g (k - m) else 0
theorem pc_sum (f g : Sq) (m k : Nat) (h : m ≤ k + 1) : pc f g m k = ((List.range m).map fun i => f i * g (k - i)).sum := by
  induction m with
  | zero => rfl
  | succ m ih =>
    rw [List.range_succ, List.map_append, List.sum_append, ← ih (by omega)]
    show pc f g m k + (if m ≤ k then f m * g (k - m) else 0) = pc f g m k + (f m * g (k - m) + 0)
    rw [if_pos (by omega), Int.add_zero]
theorem pc_more (f g : Sq) (k d : Nat) : pc f g (k + 1 + d) k = pc f g (k + 1) k := by
  induction d with
  | zero => rfl
  | succ d ih =>
    show pc f g (k + 1 + d) k + (if k + 1 + d ≤ k then f (k + 1 + d) * g (k - (k + 1 + d)) else 0) = _
    rw [if_neg (by omega), ih, Int.add_zero]
theorem pc_cv (f g : Sq) {m k : Nat} (h : k < m) : pc f g m k = cv f g k := by
  obtain ⟨d, rfl⟩ : ∃ d, m = k + 1 + d := ⟨m - (k + 1), by omega⟩
  rw [pc_more, pc_sum f g _ _ (Nat.le_refl _), sum_cv]
/-- .. and so many of the next one's -/
def pcx (f g : Sq) (m far k : Nat) : Int := pc f g m k + if m ≤ k ∧ k < m + far then f m * g (k - m) else 0
theorem pcx_zero (f g : Sq) (m k : Nat) : pcx f g m 0 k = pc f g m k := by
  unfold pcx
  rw [if_neg (by omega), Int.add_zero]
theorem pcx_full (f g : Sq) {m far k : Nat} (h : k < m + far) : pcx f g m far k = pc f g (m + 1) k := by
  unfold pcx
  by_cases c : m ≤ k
  · rw [if_pos ⟨c, h⟩]
    show _ = pc f g m k + (if m ≤ k then f m * g (k - m) else 0)
    rw [if_pos c]
  · rw [if_neg (fun z => c z.1)]
    show _ = pc f g m k + (if m ≤ k then f m * g (k - m) else 0)
    rw [if_neg c]
theorem pcx_at (f g : Sq) (m far : Nat) : pcx f g m (far + 1) (m + far) = pcx f g m far (m + far) + f m * g far := by
  unfold pcx
  rw [if_pos (by omega), if_neg (by omega), show m + far - m = far by omega, Int.add_zero]
theorem pcx_else (f g : Sq) {m far k : Nat} (h : k ≠ m + far) : pcx f g m (far + 1) k = pcx f g m far k := by
  unfold pcx
  by_cases c : m ≤ k ∧ k < m + far
  · rw [if_pos c, if_pos (by omega)]
  · rw [if_neg c, if_neg (by omega)]
theorem set_map_range {α : Type} (f : Nat → α) (n j : Nat) (v : α) : ((List.range n).map f).set j v = (List.range n).map fun k => if k = j then v else f k := by
  apply List.ext_getElem?
  intro i
  rw [List.getElem?_set, List.length_map, List.length_range, List.getElem?_map, List.getElem?_map]
  by_cases hi : i < n
  · rw [List.getElem?_range hi]
    by_cases e : j = i
    · subst e
      rw [if_pos rfl, if_pos hi]
      show some v = some (if j = j then v else f j)
      rw [if_pos rfl]
    · rw [if_neg e]
      show some (f i) = some (if i = j then v else f i)
      rw [if_neg (fun z => e z.symm)]
  · rw [List.getElem?_eq_none (by rw [List.length_range]; omega)]
    by_cases e : j = i
    · rw [if_pos e, if_neg (by omega)]
      rfl
    · rw [if_neg e]
      rfl
theorem dropLast_snoc (xs : List Int) (y : Int) : (xs ++ [y]).dropLast = xs := List.dropLast_concat
end Pw
namespace Pw
theorem Rowp.take {p : Int} {xs : List Int} (h : Rowp p xs) {m : Nat} (h1 : 1 ≤ m) : Rowp p (xs.take m) := by
  have := h.lo
  have := h.hi
  exact ⟨by rw [List.length_take]; omega, by rw [List.length_take]; omega, fun x hx => h.rest x (List.mem_of_mem_take hx)⟩
theorem plusL_comp (p : Int) (xs ys : List Int) : plusL p xs ys = (List.range (min xs.length ys.length)).map fun n => (sq xs n + sq ys n) % p := rfl
end Pw

namespace Pw
/-! ### powers of sequences -/
def pw (f : Sq) : Nat → Sq
  | 0 => one
  | m + 1 => cv (pw f m) f
theorem cv_fun_assoc (f g h : Sq) : cv (cv f g) h = cv f (cv g h) := funext fun n => cv_assoc f g h n
theorem cv_fun_comm (f g : Sq) : cv f g = cv g f := funext fun n => cv_comm f g n
theorem cv_fun_one (f : Sq) : cv f one = f := funext fun n => cv_one_right f n
theorem cv_fun_one_left (f : Sq) : cv one f = f := funext fun n => cv_one_left f n
theorem pw_add (f : Sq) (a b : Nat) : pw f (a + b) = cv (pw f a) (pw f b) := by
  induction b with
  | zero => exact (cv_fun_one _).symm
  | succ b ih =>
    show cv (pw f (a + b)) f = cv (pw f a) (cv (pw f b) f)
    rw [ih, cv_fun_assoc]
theorem pw_one (f : Sq) : pw f 1 = f := cv_fun_one_left f
theorem pw_mul (f : Sq) (a b : Nat) : pw f (a * b) = pw (pw f a) b := by
  induction b with
  | zero => rfl
  | succ b ih =>
    show pw f (a * (b + 1)) = cv (pw (pw f a) b) (pw f a)
    rw [Nat.mul_succ, pw_add, ih]
theorem pw_one_fun (m : Nat) : pw one m = one := by
  induction m with
  | zero => rfl
  | succ m ih =>
    show cv (pw one m) one = one
    rw [ih, cv_fun_one]
theorem pw_em {p : Int} {f g : Sq} {n : Nat} (m : Nat) (h : ∀ i, i ≤ n → f i % p = g i % p) : ∀ i, i ≤ n → pw f m i % p = pw g m i % p := by
  induction m with
  | zero => exact fun _ _ => rfl
  | succ m ih => exact fun i hi => cv_em (fun j hj => ih j (Nat.le_trans hj hi)) (fun j hj => h j (Nat.le_trans hj hi))
theorem pw_congr {f g : Sq} {n : Nat} (m : Nat) (h : ∀ i, i ≤ n → f i = g i) : ∀ i, i ≤ n → pw f m i = pw g m i := by
  induction m with
  | zero => exact fun _ _ => rfl
  | succ m ih => exact fun i hi => cv_congr (fun j hj => ih j (Nat.le_trans hj hi)) (fun j hj => h j (Nat.le_trans hj hi))
theorem pw_at0 (f : Sq) (m : Nat) : pw f m 0 = f 0 ^ m := by
  induction m with
  | zero =>
    rw [Int.pow_zero]
    rfl
  | succ m ih =>
    show pw f m 0 * f 0 = f 0 ^ (m + 1)
    rw [ih, Int.pow_succ]
/-- what begins with 0 begins with so many 0 behind its power -/
theorem cv_low {f g : Sq} {a b : Nat} (hf : ∀ i, i < a → f i = 0) (hg : ∀ i, i < b → g i = 0) : ∀ n, n < a + b → cv f g n = 0 := by
  intro n hn
  rw [← sum_cv]
  have e : (List.range (n + 1)).map (fun i => f i * g (n - i)) = (List.range (n + 1)).map fun _ => (0 : Int) := by
    apply List.map_congr_left
    intro i hi
    have hi := List.mem_range.mp hi
    by_cases c : i < a
    · rw [hf i c, Int.zero_mul]
    · rw [hg (n - i) (by omega), Int.mul_zero]
  rw [e, sum_map_zero]
theorem pw_low {f : Sq} (h0 : f 0 = 0) (m : Nat) : ∀ n, n < m → pw f m n = 0 := by
  induction m with
  | zero => exact fun n hn => absurd hn (Nat.not_lt_zero _)
  | succ m ih =>
    intro n hn
    exact cv_low (b := 1) ih (fun i hi => by rw [show i = 0 by omega, h0]) n hn
/-! ### n times the place: the rule of products -/
def th (f : Sq) : Sq := fun n => (n : Int) * f n
theorem sum_map_add (f g : Nat → Int) (l : List Nat) : (l.map fun i => f i + g i).sum = (l.map f).sum + (l.map g).sum := by
  induction l with
  | nil => rfl
  | cons a r ih =>
    simp only [List.map_cons, List.sum_cons, ih]
    omega
theorem sum_map_mul (c : Int) (f : Nat → Int) (l : List Nat) : (l.map fun i => c * f i).sum = c * (l.map f).sum := by
  induction l with
  | nil => exact (Int.mul_zero _).symm
  | cons a r ih => simp only [List.map_cons, List.sum_cons, ih, Int.mul_add]
theorem th_cv (f g : Sq) (n : Nat) : th (cv f g) n = cv (th f) g n + cv f (th g) n := by
  unfold th
  rw [← sum_cv f g, ← sum_cv (fun n => (n : Int) * f n) g, ← sum_cv f (fun n => (n : Int) * g n), ← sum_map_mul, ← sum_map_add]
  congr 1
  apply List.map_congr_left
  intro i hi
  have hi := List.mem_range.mp hi
  have e : (n : Int) = (i : Int) + ((n - i : Nat) : Int) := by omega
  rw [Int.mul_assoc, Int.mul_left_comm (f i), ← Int.add_mul, ← e]
theorem th_pw (f : Sq) (m : Nat) : ∀ n, th (pw f (m + 1)) n = ((m : Int) + 1) * cv (pw f m) (th f) n := by
  induction m with
  | zero =>
    intro n
    rw [pw_one]
    show th f n = (((0 : Nat) : Int) + 1) * cv one (th f) n
    rw [cv_one_left]
    omega
  | succ m ih =>
    intro n
    show th (cv (pw f (m + 1)) f) n = _
    rw [th_cv]
    have e : th (pw f (m + 1)) = fun n => ((m : Int) + 1) * cv (pw f m) (th f) n := funext ih
    rw [e, cv_smul_left, cv_fun_assoc, cv_fun_comm (th f) f, ← cv_fun_assoc]
    show ((m : Int) + 1) * cv (pw f (m + 1)) (th f) n + cv (pw f (m + 1)) (th f) n = _
    rw [Int.natCast_succ, Int.add_mul, Int.one_mul, Int.add_mul, Int.add_mul, Int.one_mul]
/-- a row raised by the prime has rests but 0 only where the prime goes into the place -/
theorem pw_prime {p : Int} (hp : Prm p) (f : Sq) {n : Nat} (hn : ¬ p ∣ (n : Int)) : pw f p.toNat n % p = 0 := by
  have p2 := hp.pos
  obtain ⟨m, hm⟩ : ∃ m, p.toNat = m + 1 := ⟨p.toNat - 1, by omega⟩
  have h := th_pw f m n
  rw [← hm] at h
  have hpm : (m : Int) + 1 = p := by omega
  rw [hpm] at h
  have h2 : (n : Int) * pw f p.toNat n % p = 0 := by
    have : (n : Int) * pw f p.toNat n = p * cv (pw f m) (th f) n := h
    rw [this]
    exact Int.mul_emod_right _ _
  have r0 := Int.emod_nonneg (n : Int) (show p ≠ 0 by omega)
  have r1 := Int.emod_lt_of_pos (n : Int) (show 0 < p by omega)
  have rn : (n : Int) % p ≠ 0 := fun z => hn (Int.dvd_of_emod_eq_zero z)
  have hi := inv_ok hp (show 0 < (n : Int) % p by omega) r1
  generalize pw f p.toNat n = c at h2
  have e1 : (1 * c) % p = (inv p ((n : Int) % p) * ((n : Int) % p) * c) % p := em_mul (by rw [hi]; exact Int.emod_eq_of_lt (by decide) (by omega)) rfl
  have e2 : (inv p ((n : Int) % p) * ((n : Int) % p) * c) % p = (inv p ((n : Int) % p) * ((n : Int) * c)) % p := by
    rw [← Int.mul_assoc]
    exact em_mul (em_mul rfl (em_em _)) rfl
  have e3 : (inv p ((n : Int) % p) * ((n : Int) * c)) % p = (inv p ((n : Int) % p) * 0) % p := em_mul rfl (by rw [h2, Int.zero_emod])
  rw [Int.one_mul] at e1
  rw [e1, e2, e3, Int.mul_zero, Int.zero_emod]
/-! ### places stretched -/
def dil (q : Nat) (f : Sq) : Sq := fun n => if n % q = 0 then f (n / q) else 0
def shn (f : Sq) (m : Nat) : Sq := fun n => f (m + n)
theorem cv_steps (f g : Sq) (m n : Nat) : cv f g (m + n) = ((List.range m).map fun j => f j * g (m + n - j)).sum + cv (shn f m) g n := by
  induction m generalizing f with
  | zero =>
    rw [Nat.zero_add]
    have e : shn f 0 = f := funext fun n => by
      show f (0 + n) = f n
      rw [Nat.zero_add]
    rw [e]
    show _ = 0 + _
    rw [Int.zero_add]
  | succ m ih =>
    rw [show m + 1 + n = (m + n) + 1 by omega]
    show f 0 * g (m + n + 1) + cv (tl f) g (m + n) = _
    rw [ih (tl f), List.range_succ_eq_map, List.map_cons, List.map_map, List.sum_cons]
    have e1 : (List.range m).map (fun j => tl f j * g (m + n - j)) = (List.range m).map ((fun j => f j * g (m + n + 1 - j)) ∘ Nat.succ) := by
      apply List.map_congr_left
      intro j _
      show f (j + 1) * g (m + n - j) = f (j + 1) * g (m + n + 1 - (j + 1))
      rw [Nat.add_sub_add_right]
    have e2 : shn (tl f) m = shn f (m + 1) := funext fun k => by
      show f (m + k + 1) = f (m + 1 + k)
      congr 1
      omega
    rw [e1, e2]
    show _ = f 0 * g (m + n + 1 - 0) + _ + _
    rw [Nat.sub_zero]
    omega
theorem dil_shn {q : Nat} (hq : 0 < q) (f : Sq) : shn (dil q f) q = dil q (tl f) := funext fun n => by
  show (if (q + n) % q = 0 then f ((q + n) / q) else 0) = if n % q = 0 then f (n / q + 1) else 0
  rw [Nat.add_mod_left, Nat.add_div_left _ hq]
theorem dil_low {q : Nat} (f : Sq) {n : Nat} (h : n < q) (h0 : n ≠ 0) : dil q f n = 0 := by
  show (if n % q = 0 then f (n / q) else 0) = 0
  rw [Nat.mod_eq_of_lt h, if_neg h0]
theorem dil_zero (q : Nat) (f : Sq) : dil q f 0 = f 0 := by
  show (if 0 % q = 0 then f (0 / q) else 0) = f 0
  rw [Nat.zero_mod, if_pos rfl, Nat.zero_div]
theorem sum_first {m : Nat} (f : Nat → Int) (h : ∀ j, 0 < j → j < m + 1 → f j = 0) : ((List.range (m + 1)).map f).sum = f 0 := by
  rw [List.range_succ_eq_map, List.map_cons, List.map_map, List.sum_cons]
  have e : (List.range m).map (f ∘ Nat.succ) = (List.range m).map fun _ => (0 : Int) := by
    apply List.map_congr_left
    intro j hj
    exact h (j + 1) (Nat.succ_pos _) (Nat.succ_lt_succ (List.mem_range.mp hj))
  rw [e, sum_map_zero, Int.add_zero]
theorem cv_dil {q : Nat} (hq : 0 < q) (f g : Sq) (n : Nat) : cv (dil q f) (dil q g) n = dil q (cv f g) n := by
  induction n using Nat.strongRecOn generalizing f with
  | ind n ih =>
    by_cases c : n < q
    · rw [← sum_cv, sum_first _ fun j h0 h1 => by rw [dil_low f (by omega) (by omega), Int.zero_mul]]
      rw [dil_zero, Nat.sub_zero]
      by_cases z : n = 0
      · subst z
        rw [dil_zero, dil_zero]
        rfl
      · rw [dil_low g c z, dil_low _ c z, Int.mul_zero]
    · obtain ⟨k, rfl⟩ : ∃ k, n = q + k := ⟨n - q, by omega⟩
      obtain ⟨q', rfl⟩ : ∃ q', q = q' + 1 := ⟨q - 1, by omega⟩
      rw [cv_steps, sum_first _ fun j h0 h1 => by rw [dil_low f h1 (by omega), Int.zero_mul], dil_shn hq, ih k (by omega), dil_zero, Nat.sub_zero]
      show f 0 * (if (q' + 1 + k) % (q' + 1) = 0 then g ((q' + 1 + k) / (q' + 1)) else 0) + (if k % (q' + 1) = 0 then cv (tl f) g (k / (q' + 1)) else 0) = if (q' + 1 + k) % (q' + 1) = 0 then cv f g ((q' + 1 + k) / (q' + 1)) else 0
      rw [Nat.add_mod_left, Nat.add_div_left _ hq]
      by_cases z : k % (q' + 1) = 0
      · rw [if_pos z, if_pos z, if_pos z]
        rfl
      · rw [if_neg z, if_neg z, if_neg z, Int.mul_zero, Int.add_zero]
theorem dil_one {q : Nat} : dil q one = one := funext fun n => by
  show (if n % q = 0 then (if n / q = 0 then (1 : Int) else 0) else 0) = if n = 0 then 1 else 0
  by_cases z : n = 0
  · subst z
    rw [Nat.zero_mod, Nat.zero_div]
    rfl
  · rw [if_neg z]
    by_cases y : n % q = 0
    · rw [if_pos y, if_neg]
      intro w
      have := Nat.div_add_mod n q
      rw [w, y] at this
      omega
    · rw [if_neg y]
theorem pw_dil {q : Nat} (hq : 0 < q) (f : Sq) (m : Nat) : pw (dil q f) m = dil q (pw f m) := by
  induction m with
  | zero => exact dil_one.symm
  | succ m ih =>
    show cv (pw (dil q f) m) (dil q f) = dil q (cv (pw f m) f)
    rw [ih]
    exact funext fun n => cv_dil hq _ _ n
/-- raised by a power of the prime: rests but 0 only at its multiples -/
theorem pw_primes {p : Int} (hp : Prm p) (k : Nat) : ∀ (f : Sq) (n : Nat), n % (p.toNat ^ k) ≠ 0 → pw f (p.toNat ^ k) n % p = 0 := by
  have p2 := hp.pos
  have q0 : 0 < p.toNat := by omega
  induction k with
  | zero =>
    intro f n h
    rw [Nat.pow_zero, Nat.mod_one] at h
    exact absurd rfl h
  | succ k ih =>
    intro f n h
    have e : pw f (p.toNat ^ (k + 1)) = pw (pw f p.toNat) (p.toNat ^ k) := by
      rw [Nat.pow_succ, Nat.mul_comm, pw_mul]
    have s : ∀ i, i ≤ n → pw f p.toNat i % p = dil p.toNat (fun j => pw f p.toNat (p.toNat * j)) i % p := by
      intro i _
      show _ = (if i % p.toNat = 0 then pw f p.toNat (p.toNat * (i / p.toNat)) else 0) % p
      by_cases z : i % p.toNat = 0
      · rw [if_pos z, Nat.mul_div_cancel' (Nat.dvd_of_mod_eq_zero z)]
      · rw [if_neg z, Int.zero_emod]
        refine pw_prime hp f fun d => z ?_
        have e2 : ((p.toNat : Nat) : Int) = p := Int.toNat_of_nonneg (by omega)
        rw [← e2] at d
        exact Nat.mod_eq_zero_of_dvd (Int.natCast_dvd_natCast.mp d)
    rw [e, pw_em _ s n (Nat.le_refl _), pw_dil q0]
    show (if n % p.toNat = 0 then pw (fun j => pw f p.toNat (p.toNat * j)) (p.toNat ^ k) (n / p.toNat) else 0) % p = 0
    by_cases z : n % p.toNat = 0
    · rw [if_pos z]
      refine ih _ _ fun w => h ?_
      rw [Nat.pow_succ, Nat.mul_comm, Nat.mod_mul, w, z]
      omega
    · rw [if_neg z, Int.zero_emod]
/-- Fermat -/
def fermCheck : Bool := primes.all fun p => (List.range p.toNat).all fun r => r == 0 || powm p r (p - 1).toNat == 1
theorem fermCheck_ok : fermCheck = true := by decide +kernel
theorem powm_pow {p r : Int} (n : Nat) : powm p r n % p = r ^ n % p := by
  induction n with
  | zero =>
    rw [Int.pow_zero]
    rfl
  | succ n ih =>
    show powm p r n * r % p % p = _
    rw [em_em, Int.pow_succ]
    exact em_mul ih rfl
theorem fermat {p r : Int} (hp : Prm p) (h0 : 0 < r) (h1 : r < p) : r ^ (p - 1).toNat % p = 1 := by
  have p2 := hp.pos
  have h := List.all_eq_true.mp fermCheck_ok p hp
  have h2 := List.all_eq_true.mp h r.toNat (List.mem_range.mpr (by omega))
  have e : ((r.toNat : Nat) : Int) = r := Int.toNat_of_nonneg (Int.le_of_lt h0)
  have ne : (r.toNat == 0) = false := by
    rw [beq_eq_false_iff_ne]
    omega
  rw [ne, Bool.false_or] at h2
  have h3 := beq_iff_eq.mp h2
  rw [e] at h3
  rw [← powm_pow, h3]
  exact Int.emod_eq_of_lt (by decide) (by omega)
theorem pow_emod {p a b : Int} (h : a % p = b % p) (n : Nat) : a ^ n % p = b ^ n % p := by
  induction n with
  | zero => rw [Int.pow_zero, Int.pow_zero]
  | succ n ih =>
    rw [Int.pow_succ, Int.pow_succ]
    exact em_mul ih h
/-- raised by a whole turn a row that doesn't begin with 0 is the row 1 -/
theorem pw_turn {p : Int} (hp : Prm p) {f : Sq} (h0 : f 0 % p ≠ 0) (k : Nat) {n : Nat} (hn : n < p.toNat ^ k) : pw f (p.toNat ^ k * (p - 1).toNat) n % p = one n % p := by
  have p2 := hp.pos
  rw [pw_mul]
  have s : ∀ i, i ≤ n → pw f (p.toNat ^ k) i % p = smul (f 0 ^ (p.toNat ^ k)) one i % p := by
    intro i hi
    show _ = (f 0 ^ (p.toNat ^ k) * (if i = 0 then 1 else 0)) % p
    by_cases z : i = 0
    · subst z
      rw [pw_at0, if_pos rfl, Int.mul_one]
    · rw [if_neg z, Int.mul_zero, Int.zero_emod]
      refine pw_primes hp k f i ?_
      rw [Nat.mod_eq_of_lt (by omega)]
      exact z
  rw [pw_em _ s n (Nat.le_refl _)]
  have e : ∀ m : Nat, pw (smul (f 0 ^ (p.toNat ^ k)) one) m = smul ((f 0 ^ (p.toNat ^ k)) ^ m) one := by
    intro m
    induction m with
    | zero =>
      rw [Int.pow_zero]
      exact funext fun n => (Int.one_mul _).symm
    | succ m ih =>
      show cv (pw (smul (f 0 ^ (p.toNat ^ k)) one) m) (smul (f 0 ^ (p.toNat ^ k)) one) = _
      rw [ih]
      funext n
      show cv (fun n => (f 0 ^ (p.toNat ^ k)) ^ m * one n) (fun n => f 0 ^ (p.toNat ^ k) * one n) n = (f 0 ^ (p.toNat ^ k)) ^ (m + 1) * one n
      rw [cv_smul_left, cv_smul_right, cv_one_left, Int.pow_succ, Int.mul_assoc]
  rw [e]
  have r0 := Int.emod_nonneg (f 0) (show p ≠ 0 by omega)
  have r1 := Int.emod_lt_of_pos (f 0) (show 0 < p by omega)
  have fm := fermat hp (show 0 < f 0 % p by omega) r1
  have f1 : (f 0 ^ (p - 1).toNat) % p = 1 % p := by
    rw [pow_emod (em_em (f 0)).symm, fm, Int.emod_eq_of_lt (by decide) (by omega)]
  have f2 : ((f 0 ^ (p.toNat ^ k)) ^ (p - 1).toNat) % p = 1 % p := by
    rw [← Int.pow_mul, Nat.mul_comm, Int.pow_mul, pow_emod f1, Int.one_pow]
  show ((f 0 ^ (p.toNat ^ k)) ^ (p - 1).toNat * one n) % p = one n % p
  rw [em_mul f2 rfl, Int.one_mul]
/-- a count and what it leaves by a whole turn -/
theorem pw_rest {p : Int} (hp : Prm p) {f : Sq} (h0 : f 0 % p ≠ 0) (k m : Nat) {n : Nat} (hn : n < p.toNat ^ k) : pw f m n % p = pw f (m % (p.toNat ^ k * (p - 1).toNat)) n % p := by
  have e : m = (p.toNat ^ k * (p - 1).toNat) * (m / (p.toNat ^ k * (p - 1).toNat)) + m % (p.toNat ^ k * (p - 1).toNat) := (Nat.div_add_mod _ _).symm
  conv => lhs; rw [e]
  rw [pw_add, pw_mul]
  have s : ∀ i, i ≤ n → pw (pw f (p.toNat ^ k * (p - 1).toNat)) (m / (p.toNat ^ k * (p - 1).toNat)) i % p = one i % p := by
    intro i hi
    rw [pw_em (g := one) (n := n) _ (fun j hj => pw_turn hp h0 k (by omega)) i hi, pw_one_fun]
  rw [cv_em s fun _ _ => rfl, cv_one_left]
/-! ### the values that raised tells -/
def powL (p : Int) (xs : List Int) (m : Nat) : List Int := (List.range xs.length).map fun n => pw (sq xs) m n % p
theorem powL_len (p : Int) (xs : List Int) (m : Nat) : (powL p xs m).length = xs.length := by
  unfold powL
  rw [List.length_map, List.length_range]
theorem sq_powL {p : Int} {xs : List Int} {m n : Nat} (h : n < xs.length) : sq (powL p xs m) n = pw (sq xs) m n % p := sq_map_range h
theorem powL_rowp {p : Int} (hp : 0 < p) {xs : List Int} (R : Rowp p xs) (m : Nat) : Rowp p (powL p xs m) := rowp_map hp R.lo R.hi
theorem powL_mul (p : Int) (xs : List Int) (a b : Nat) : prodL p (powL p xs a) (powL p xs b) = powL p xs (a + b) := by
  have l : (prodL p (powL p xs a) (powL p xs b)).length = xs.length := by
    rw [prodL_len, powL_len, powL_len]
    omega
  refine ext_sq (by rw [l, powL_len]) fun n hn => ?_
  rw [l] at hn
  rw [sq_prodL (by rw [powL_len, powL_len]; omega), sq_powL hn, pw_add]
  exact cv_em (fun i hi => by rw [sq_powL (by omega), em_em]) (fun i hi => by rw [sq_powL (by omega), em_em])
theorem powL_one {p : Int} {xs : List Int} (R : Rowp p xs) : powL p xs 1 = xs := by
  refine ext_sq (powL_len _ _ _) fun n hn => ?_
  rw [powL_len] at hn
  rw [sq_powL hn, pw_one, R.em hn]
theorem powL_succ {p : Int} {xs : List Int} (R : Rowp p xs) (m : Nat) : prodL p (powL p xs m) xs = powL p xs (m + 1) := by
  conv => lhs; rw [← powL_one R]
  rw [powL_one R]
  have := powL_mul p xs m 1
  rw [powL_one R] at this
  exact this
theorem powL_zero {p : Int} (hp : 1 < p) {xs : List Int} (h : 1 ≤ xs.length) : powL p xs 0 = 1 :: List.replicate (xs.length - 1) 0 := by
  refine ext_sq ?_ fun n hn => ?_
  · rw [powL_len, List.length_cons, List.length_replicate]
    omega
  · rw [powL_len] at hn
    rw [sq_powL hn]
    show (if n = 0 then (1 : Int) else 0) % p = _
    cases n with
    | zero =>
      rw [if_pos rfl]
      exact Int.emod_eq_of_lt (by decide) hp
    | succ n =>
      rw [if_neg (Nat.succ_ne_zero _), Int.zero_emod]
      show (0 : Int) = (List.replicate (xs.length - 1) 0).getD n 0
      rw [List.getD_eq_getElem?_getD, List.getElem?_replicate]
      split <;> rfl
/-- the same for counts that the rows don't tell apart -/
theorem powL_low {p : Int} {xs : List Int} (h0 : sq xs 0 = 0) (m : Nat) : powL p xs m = powL p xs (min m xs.length) := by
  by_cases c : m ≤ xs.length
  · rw [Nat.min_eq_left c]
  · rw [Nat.min_eq_right (by omega)]
    unfold powL
    apply List.map_congr_left
    intro n hn
    have hn := List.mem_range.mp hn
    rw [pw_low h0 m n (by omega), pw_low h0 xs.length n hn]
theorem powL_turn {p : Int} (hp : Prm p) {xs : List Int} (h0 : sq xs 0 % p ≠ 0) (k m : Nat) (hk : xs.length ≤ p.toNat ^ k) : powL p xs m = powL p xs (m % (p.toNat ^ k * (p - 1).toNat)) := by
  unfold powL
  apply List.map_congr_left
  intro n hn
  have hn := List.mem_range.mp hn
  exact pw_rest hp h0 k m (by omega)
end Pw

namespace Pw
/-! ### rows grown by rules of their own -/
structure Tm where
  r : Int
  s : Nat
  k : Nat
structure TmOk (p : Int) (t : Tm) : Prop where
  r : 0 ≤ t.r ∧ t.r < p
  s : 1 ≤ t.s ∧ t.s ≤ 4
  k : t.k ≤ 3
/-- one term's part of place n, of powers told by F -/
def tmAt (F : Nat → Sq) (t : Tm) (n : Nat) : Int := if t.s ≤ n then t.r * F t.k (n - t.s) else 0
def tmSum (F : Nat → Sq) (ts : List Tm) (n : Nat) : Int := (ts.map fun t => tmAt F t n).sum
/-- the row, its square, its cube so far -/
def pick (a b c : List Int) : Nat → Sq
  | 0 => one
  | 1 => sq a
  | 2 => sq b
  | _ => sq c
def gst (p : Int) (ts : List Tm) : Nat → List Int × List Int × List Int
  | 0 => ([], [], [])
  | n + 1 =>
    let (a, b, c) := gst p ts n
    let a' := a ++ [tmSum (pick a b c) ts n % p]
    let b' := b ++ [cv (sq a') (sq a') n % p]
    let c' := c ++ [cv (sq b') (sq a') n % p]
    (a', b', c')
def grA (p : Int) (ts : List Tm) (n : Nat) : List Int := (gst p ts n).1
def grB (p : Int) (ts : List Tm) (n : Nat) : List Int := (gst p ts n).2.1
def grC (p : Int) (ts : List Tm) (n : Nat) : List Int := (gst p ts n).2.2
theorem grA_succ (p : Int) (ts : List Tm) (n : Nat) : grA p ts (n + 1) = grA p ts n ++ [tmSum (pick (grA p ts n) (grB p ts n) (grC p ts n)) ts n % p] := rfl
theorem grB_succ (p : Int) (ts : List Tm) (n : Nat) : grB p ts (n + 1) = grB p ts n ++ [cv (sq (grA p ts (n + 1))) (sq (grA p ts (n + 1))) n % p] := rfl
theorem grC_succ (p : Int) (ts : List Tm) (n : Nat) : grC p ts (n + 1) = grC p ts n ++ [cv (sq (grB p ts (n + 1))) (sq (grA p ts (n + 1))) n % p] := rfl
theorem grA_len (p : Int) (ts : List Tm) (n : Nat) : (grA p ts n).length = n := by
  induction n with
  | zero => rfl
  | succ n ih =>
    rw [grA_succ, List.length_append, ih]
    rfl
theorem grB_len (p : Int) (ts : List Tm) (n : Nat) : (grB p ts n).length = n := by
  induction n with
  | zero => rfl
  | succ n ih =>
    rw [grB_succ, List.length_append, ih]
    rfl
theorem grC_len (p : Int) (ts : List Tm) (n : Nat) : (grC p ts n).length = n := by
  induction n with
  | zero => rfl
  | succ n ih =>
    rw [grC_succ, List.length_append, ih]
    rfl
theorem snoc_rest {p : Int} {xs : List Int} {y : Int} (hp : 0 < p) (h : ∀ x ∈ xs, 0 ≤ x ∧ x < p) : ∀ x ∈ xs ++ [y % p], 0 ≤ x ∧ x < p := fun x hx => by
  rcases List.mem_append.mp hx with h1 | h1
  · exact h x h1
  · rw [List.mem_singleton.mp h1]
    exact ⟨Int.emod_nonneg _ (by omega), Int.emod_lt_of_pos _ hp⟩
theorem grA_rest {p : Int} (hp : 0 < p) (ts : List Tm) (n : Nat) : ∀ x ∈ grA p ts n, 0 ≤ x ∧ x < p := by
  induction n with
  | zero => exact fun x h => nomatch h
  | succ n ih => exact snoc_rest hp ih
theorem grB_rest {p : Int} (hp : 0 < p) (ts : List Tm) (n : Nat) : ∀ x ∈ grB p ts n, 0 ≤ x ∧ x < p := by
  induction n with
  | zero => exact fun x h => nomatch h
  | succ n ih => exact snoc_rest hp ih
theorem grC_rest {p : Int} (hp : 0 < p) (ts : List Tm) (n : Nat) : ∀ x ∈ grC p ts n, 0 ≤ x ∧ x < p := by
  induction n with
  | zero => exact fun x h => nomatch h
  | succ n ih => exact snoc_rest hp ih
theorem grA_take (p : Int) (ts : List Tm) {n m : Nat} (h : n ≤ m) : (grA p ts m).take n = grA p ts n := by
  induction m with
  | zero =>
    obtain rfl : n = 0 := by omega
    rfl
  | succ m ih =>
    by_cases e : n = m + 1
    · rw [e, List.take_of_length_le (by rw [grA_len]; exact Nat.le_refl _)]
    · rw [grA_succ, List.take_append_of_le_length (by rw [grA_len]; omega)]
      exact ih (by omega)
/-- the places stay as they are told -/
theorem grA_sq (p : Int) (ts : List Tm) {i n m : Nat} (h : i < n) (h2 : n ≤ m) : sq (grA p ts n) i = sq (grA p ts m) i := by
  rw [← grA_take p ts h2, sq_take h]
theorem grA_at (p : Int) (ts : List Tm) {i m : Nat} (h : i < m) : sq (grA p ts m) i = tmSum (pick (grA p ts i) (grB p ts i) (grC p ts i)) ts i % p := by
  rw [← grA_sq p ts (Nat.lt_succ_self i) h, grA_succ]
  have e := sq_append_at (xs := grA p ts i) (y := tmSum (pick (grA p ts i) (grB p ts i) (grC p ts i)) ts i % p)
  rw [grA_len] at e
  exact e
theorem grB_at (p : Int) (ts : List Tm) {i m : Nat} (h : i < m) : sq (grB p ts m) i = cv (sq (grA p ts m)) (sq (grA p ts m)) i % p := by
  induction m with
  | zero => omega
  | succ m ih =>
    by_cases e : i = m
    · subst e
      rw [grB_succ]
      have e := sq_append_at (xs := grB p ts i) (y := cv (sq (grA p ts (i + 1))) (sq (grA p ts (i + 1))) i % p)
      rw [grB_len] at e
      exact e
    · rw [grB_succ, sq_append_left (by rw [grB_len]; omega), ih (by omega)]
      congr 1
      exact cv_congr (fun j hj => grA_sq p ts (by omega) (by omega)) (fun j hj => grA_sq p ts (by omega) (by omega))
theorem grB_sq (p : Int) (ts : List Tm) {i n m : Nat} (h : i < n) (h2 : n ≤ m) : sq (grB p ts n) i = sq (grB p ts m) i := by
  rw [grB_at p ts h, grB_at p ts (Nat.lt_of_lt_of_le h h2)]
  congr 1
  exact cv_congr (fun j hj => grA_sq p ts (by omega) h2) (fun j hj => grA_sq p ts (by omega) h2)
theorem grC_at (p : Int) (ts : List Tm) {i m : Nat} (h : i < m) : sq (grC p ts m) i = cv (sq (grB p ts m)) (sq (grA p ts m)) i % p := by
  induction m with
  | zero => omega
  | succ m ih =>
    by_cases e : i = m
    · subst e
      rw [grC_succ]
      have e := sq_append_at (xs := grC p ts i) (y := cv (sq (grB p ts (i + 1))) (sq (grA p ts (i + 1))) i % p)
      rw [grC_len] at e
      exact e
    · rw [grC_succ, sq_append_left (by rw [grC_len]; omega), ih (by omega)]
      congr 1
      exact cv_congr (fun j hj => grB_sq p ts (by omega) (by omega)) (fun j hj => grA_sq p ts (by omega) (by omega))
theorem grC_sq (p : Int) (ts : List Tm) {i n m : Nat} (h : i < n) (h2 : n ≤ m) : sq (grC p ts n) i = sq (grC p ts m) i := by
  rw [grC_at p ts h, grC_at p ts (Nat.lt_of_lt_of_le h h2)]
  congr 1
  exact cv_congr (fun j hj => grB_sq p ts (by omega) h2) (fun j hj => grA_sq p ts (by omega) h2)
theorem grA_rowp {p : Int} (hp : 0 < p) (ts : List Tm) {n : Nat} (h1 : 1 ≤ n) (h2 : n ≤ 20) : Rowp p (grA p ts n) := ⟨by rw [grA_len]; exact h1, by rw [grA_len]; exact h2, grA_rest hp ts n⟩
/-- the powers that are kept are the row's -/
theorem pick_pow {p : Int} (hp : 1 < p) (ts : List Tm) {k i n : Nat} (hk : k ≤ 3) (hi : i < n) : pick (grA p ts n) (grB p ts n) (grC p ts n) k i = sq (powL p (grA p ts n) k) i := by
  have l := grA_len p ts n
  have rest := fun j (h : j < n) => grA_rest (p := p) (by omega) ts n _ (sq_mem (xs := grA p ts n) (n := j) (by omega))
  have e1 : ∀ j, j < n → sq (grA p ts n) j = pw (sq (grA p ts n)) 1 j % p := fun j hj => by
    rw [pw_one, Int.emod_eq_of_lt (rest j hj).1 (rest j hj).2]
  have e2 : ∀ j, j < n → sq (grB p ts n) j = pw (sq (grA p ts n)) 2 j % p := fun j hj => by
    rw [grB_at p ts hj, show (2 : Nat) = 1 + 1 from rfl, pw_add, pw_one]
  rw [sq_powL (by omega)]
  match k, hk with
  | 0, _ =>
    show one i = one i % p
    unfold one
    split
    · exact (Int.emod_eq_of_lt (by decide) hp).symm
    · exact (Int.zero_emod _).symm
  | 1, _ => exact e1 i hi
  | 2, _ => exact e2 i hi
  | 3, _ =>
    show sq (grC p ts n) i = _
    rw [grC_at p ts hi, show (3 : Nat) = 2 + 1 from rfl, pw_add, pw_one]
    exact cv_em (fun j hj => by rw [e2 j (by omega), em_em]) (fun j hj => rfl)
theorem tmSum_congr {p : Int} {F G : Nat → Sq} {ts : List Tm} {n : Nat} (h : ∀ t ∈ ts, t.s ≤ n → F t.k (n - t.s) = G t.k (n - t.s)) : tmSum F ts n = tmSum G ts n := by
  unfold tmSum
  congr 1
  apply List.map_congr_left
  intro t ht
  unfold tmAt
  split
  · rw [h t ht (by assumption)]
  · rfl
/-- the row keeps its rule -/
theorem grA_keeps {p : Int} (hp : 1 < p) {ts : List Tm} (hts : ∀ t ∈ ts, TmOk p t) {i n : Nat} (hi : i < n) : sq (grA p ts n) i = tmSum (fun k => sq (powL p (grA p ts n) k)) ts i % p := by
  rw [grA_at p ts hi]
  congr 1
  refine tmSum_congr (p := p) fun t ht hs => ?_
  have o := hts t ht
  have os := o.s
  rw [← pick_pow hp ts o.k (show i - t.s < n by omega)]
  match t.k, o.k with
  | 0, _ => rfl
  | 1, _ => exact grA_sq p ts (by omega) (by omega)
  | 2, _ => exact grB_sq p ts (by omega) (by omega)
  | 3, _ => exact grC_sq p ts (by omega) (by omega)
theorem sum_zero {l : List Int} (h : ∀ x ∈ l, x = 0) : l.sum = 0 := by
  induction l with
  | nil => rfl
  | cons a r ih =>
    rw [List.sum_cons, h a List.mem_cons_self, ih fun x hx => h x (List.mem_cons_of_mem _ hx)]
    rfl
theorem grA_zero {p : Int} (ts : List Tm) (hts : ∀ t ∈ ts, TmOk p t) {n : Nat} (hn : 0 < n) : sq (grA p ts n) 0 = 0 := by
  rw [grA_at p ts hn]
  have e : tmSum (pick (grA p ts 0) (grB p ts 0) (grC p ts 0)) ts 0 = 0 := sum_zero fun x hx => by
    obtain ⟨t, ht, rfl⟩ := List.mem_map.mp hx
    have := (hts t ht).s
    unfold tmAt
    rw [if_neg (by omega)]
  rw [e, Int.zero_emod]
/-- the sum of those that a test lets through -/
theorem sum_given (n : Nat) (f : Nat → Bool) (v : Nat → Int) : (((List.range n).filter f).map v).sum = ((List.range n).map fun i => if f i = true then v i else 0).sum := by
  induction n with
  | zero => rfl
  | succ n ih =>
    rw [List.range_succ, List.filter_append, List.map_append, List.map_append, List.sum_append, List.sum_append, ih]
    congr 1
    cases h : f n with
    | true => simp [h]
    | false => simp [h]
/-! ### the law's own reckoning -/
def kst (p : Int) (row : List Int) (ts : List Tm) : List Int := (List.range row.length).map fun n => tmSum (fun k => sq (powL p row k)) ts n % p
def kin (p : Int) (row : List Int) (ts : List Tm) (t : Tm) (m : Nat) : List Int := (List.range row.length).map fun n => (tmSum (fun k => sq (powL p row k)) ts n + if t.s ≤ n ∧ n - t.s < m then t.r * sq (powL p row t.k) (n - t.s) else 0) % p
theorem kst_len (p : Int) (row : List Int) (ts : List Tm) : (kst p row ts).length = row.length := by
  unfold kst
  rw [List.length_map, List.length_range]
theorem kin_len (p : Int) (row : List Int) (ts : List Tm) (t : Tm) (m : Nat) : (kin p row ts t m).length = row.length := by
  unfold kin
  rw [List.length_map, List.length_range]
theorem kst_nil (p : Int) (row : List Int) : kst p row [] = List.replicate row.length 0 := by
  unfold kst
  apply List.ext_getElem?
  intro i
  by_cases h : i < row.length
  · rw [List.getElem?_map, List.getElem?_range h, List.getElem?_replicate, if_pos h]
    show some ((0 : Int) % p) = some 0
    rw [Int.zero_emod]
  · rw [List.getElem?_eq_none (by simp; omega), List.getElem?_eq_none (by simp; omega)]
theorem kin_zero (p : Int) (row : List Int) (ts : List Tm) (t : Tm) : kin p row ts t 0 = kst p row ts := by
  unfold kin kst
  apply List.map_congr_left
  intro n _
  rw [if_neg (by omega), Int.add_zero]
theorem kin_step (p : Int) (row : List Int) (ts : List Tm) (t : Tm) {m : Nat} (hm : m + t.s < row.length) : (kin p row ts t m).set (m + t.s) ((sq (kin p row ts t m) (m + t.s) + t.r * sq (powL p row t.k) m) % p) = kin p row ts t (m + 1) := by
  have e : sq (kin p row ts t m) (m + t.s) = tmSum (fun k => sq (powL p row k)) ts (m + t.s) % p := by
    unfold kin
    rw [sq_map_range hm, if_neg (by omega), Int.add_zero]
  rw [e]
  unfold kin
  rw [set_map_range]
  apply List.map_congr_left
  intro n hn
  by_cases h : n = m + t.s
  · subst h
    rw [if_pos rfl, if_pos (by omega), Nat.add_sub_cancel, Int.emod_add_emod]
  · rw [if_neg h]
    congr 2
    by_cases h2 : t.s ≤ n ∧ n - t.s < m
    · rw [if_pos h2, if_pos (by omega)]
    · rw [if_neg h2, if_neg (by omega)]
theorem kin_full (p : Int) (row : List Int) (ts : List Tm) (t : Tm) {m : Nat} (hm : row.length ≤ m + t.s) : kin p row ts t m = kst p row (ts ++ [t]) := by
  unfold kin kst
  apply List.map_congr_left
  intro n hn
  have hn := List.mem_range.mp hn
  congr 1
  unfold tmSum
  rw [List.map_append, List.sum_append]
  congr 1
  show _ = tmAt _ t n + 0
  unfold tmAt
  rw [Int.add_zero]
  by_cases h : t.s ≤ n
  · rw [if_pos h, if_pos (by omega)]
  · rw [if_neg h, if_neg (by omega)]
theorem kst_grown {p : Int} (hp : 1 < p) {ts : List Tm} (hts : ∀ t ∈ ts, TmOk p t) (n : Nat) : kst p (grA p ts n) ts = grA p ts n := by
  refine ext_sq ?_ fun i hi => ?_
  · rw [kst_len]
  · rw [kst_len, grA_len] at hi
    rw [show sq (kst p (grA p ts n) ts) i = _ from sq_map_range (by rw [grA_len]; exact hi), ← grA_keeps hp hts hi]
/-! ### the law's terms -/
def ltermsNum (ns : List Int) (by_ : Int) (n : Nat) : Int := lnum (sq (lcells ns) (((n : Int) + by_) % ((lcells ns).length : Int)).toNat) ((n : Int) + by_) (absI (lcells ns).sum + by_) / 3
def ltermAt (ns : List Int) (by_ p : Int) (n : Nat) : Tm :=
  let num := ltermsNum ns by_ n
  let free : Bool := decide (0 < n) || decide ((absI (lcells ns).sum + by_) % 3 = 0)
  ⟨num % p, if free then (1 + num / 11 % 4).toNat else 1, if free then (num / 47 % 4).toNat else 0⟩
def lterms (ns : List Int) (by_ p : Int) : List Tm := (List.range (1 + (absI (lcells ns).sum + by_) % 6).toNat).map (ltermAt ns by_ p)
theorem ltermAt_ok {ns : List Int} {by_ p : Int} (hp : 0 < p) (n : Nat) : TmOk p (ltermAt ns by_ p n) := by
  have h1 : ∀ (b : Bool) (x : Int), 1 ≤ (if b = true then (1 + x / 11 % 4).toNat else 1) ∧ (if b = true then (1 + x / 11 % 4).toNat else 1) ≤ 4 := fun b x => by
    cases b with
    | true =>
      rw [if_pos rfl]
      omega
    | false => exact ⟨Nat.le_refl 1, (by decide : 1 ≤ 4)⟩
  have h2 : ∀ (b : Bool) (x : Int), (if b = true then (x / 47 % 4).toNat else 0) ≤ 3 := fun b x => by
    cases b with
    | true =>
      rw [if_pos rfl]
      omega
    | false => exact Nat.zero_le 3
  exact ⟨⟨Int.emod_nonneg _ (by omega), Int.emod_lt_of_pos _ hp⟩, h1 _ _, h2 _ _⟩
theorem lterms_ok {ns : List Int} {by_ p : Int} (hp : 0 < p) : ∀ t ∈ lterms ns by_ p, TmOk p t := fun t ht => by
  obtain ⟨n, _, rfl⟩ := List.mem_map.mp ht
  exact ltermAt_ok hp n
theorem lterms_len {ns : List Int} {by_ p : Int} (h : 0 ≤ by_) : 1 ≤ (lterms ns by_ p).length ∧ (lterms ns by_ p).length ≤ 6 := by
  unfold lterms
  rw [List.length_map, List.length_range]
  have := absI_nonneg (lcells ns).sum
  omega
end Pw

namespace Pw
open PySem PySem.Spec PyProof.Rows L2 Evl
/-! ### a callee -/
structure Cal (P : Program) (w : World) (K : PySem.W.Frag) (mg : Str → Option Value) (base : Heap) (CX : CXT) (x : Str) (k : Nat) (ps : List Str) (sp : Sp) : Prop where
  ex : ∃ (f : Addr) (fd : FuncData), FnOk P w K mg base CX k f fd ps sp ∧ mg x = some (.ref f) ∧ PySem.W.keepIn K (.ref f) = true ∧ Binds K fd ps []
/-- a def of the text: where it stands -/
structure Dat (K : PySem.W.Frag) (mg : Str → Option Value) (x : Str) (st : Stmt) (ps : List Str) (f : Addr) (fd : FuncData) : Prop where
  F : Fun K x x st f fd
  g : mg x = some (.ref f)
  b : Binds K fd ps []
section
variable {P : Program} {w : World} {K : PySem.W.Frag} {mg : Str → Option Value} {base : Heap}
theorem Dat.cal {CX : CXT} {x : Str} {st : Stmt} {ps : List Str} {f : Addr} {fd : FuncData} {k : Nat} {sp : Sp} (D : Dat K mg x st ps f fd) (h : FnOk P w K mg base CX k f fd ps sp) : Cal P w K mg base CX x k ps sp := ⟨f, fd, h, D.g, D.F.kp, D.b⟩
theorem Cal.imp {CX : CXT} {x : Str} {ps : List Str} {k : Nat} {sp sp' : Sp} (C : Cal P w K mg base CX x k ps sp) (h : ∀ vs H Q E, sp' vs H Q E → sp vs H Q E) : Cal P w K mg base CX x k ps sp' := by
  obtain ⟨f, fd, F, g, kp, b⟩ := C.ex
  exact ⟨f, fd, F.imp h, g, kp, b⟩
end
section
variable {X : Cx} {x : Str} {p pos : Pos} {e : Expr} {es : List Expr} {t : TA} {sp : Sp} {k : Nat} {ps : List Str}
theorem pe_c0 (C : Cal X.prog X.w X.K X.mg X.base CX0 x k ps sp) (hr : Room k X.A) (ha : PA X (e :: es) t) (hg : Gl X x := by rfl) (hdb : (x == ("__debug__" : Str)) = false := by decide)
    (he : starEach (e :: es) X.env = (false, eval e X.env) :: starEach es X.env := by rfl) (hpl : (backTo pos (starEach es X.env)).any (·.1) = false := by rfl) :
    PE X (.Call (.Name x p) (e :: es) [] pos) (tCall sp [] E0 t) := by
  obtain ⟨f, fd, F, g, kp, b⟩ := C.ex
  exact pe_call F hr hg g kp b .nil pass0 ha hdb he hpl
/-! ### products of any size -/
theorem op_mulV : OpR X (binaryOp .Mult) (rI IntMulOk fun i j => .int (i * j)) := opI fun _ _ _ _ _ _ _ hc q => mul_int q hc
end
theorem mul_l {i j : Int} (h : -18446744073709551616 < i ∧ i < 18446744073709551616) : IntMulOk i j := .of_left (intBits_le_64 h.1 h.2)
theorem mul_r {i j : Int} (h : -18446744073709551616 < j ∧ j < 18446744073709551616) : IntMulOk i j := .of_right (intBits_le_64 h.1 h.2)
/-! ### readings -/
section
variable {K : PySem.W.Frag} {σ : L2.St} {H H' : Hp} {ta tb tc te : TE} {t u : TT} {x y z v : V} {r r' : R2}
theorem ev_chain {b1 b2 : Bool} (ha : Ev ta σ H x) (hb : Ev tb σ H y) (hr : RV r x y H (.bl b1)) (hc : b1 = true → Ev tc σ H z) (hr' : b1 = true → RV r' y z H (.bl b2)) : Ev (tChain r r' ta tb tc) σ H (.bl (b1 && b2)) := fun H1 e Q q =>
  ha H1 e _ fun H2 e2 => hb H2 (e.trans e2) _ fun H3 e3 => hr H3 ((e.trans e2).trans e3) _ fun H4 e4 => ⟨b1, rfl, by
    have ee := ((e.trans e2).trans e3).trans e4
    have en := (e2.trans e3).trans e4
    cases b1 with
    | true =>
      show tc σ H4 fun w' H4 => r' y w' H4 Q
      exact hc rfl H4 ee _ fun H5 e5 => hr' rfl H5 (ee.trans e5) Q fun H6 e6 => q H6 ((en.trans e5).trans e6)
    | false =>
      show Q (.bl false) H4
      exact q H4 en⟩
/-- a call of a built-in upon one new list -/
theorem ev_cbL {r : List V → Hp → VK → Prop} {xs : List V} (h : EvL te σ H xs) (hr : ∀ p H1, H1 p = some (.lst xs) → Ex H H1 → RC r [.ref p] H1 z) : Ev (tCB r (tCons te tNil)) σ H z := fun H1 e Q q =>
  h H1 e _ fun p H2 _ e2 hp => hr p H2 hp (e.trans e2) H2 (Ex.refl H2) Q fun H3 e3 => q H3 (e2.trans e3)
theorem rc_sum {a : Addr} {ns : List Int} (h : SqL K H a (ns.map V.int)) : RC (rSum K) [.ref a] H (.int ns.sum) := fun H1 e _ q => ⟨a, ns, rfl, ex_l e h, q H1 (Ex.refl H1)⟩
theorem rc_all {a : Addr} {bs : List Bool} (h : SqL K H a (bs.map V.bl)) : RC (rAll K) [.ref a] H (.bl (bs.all id)) := fun H1 e _ q => ⟨a, bs, rfl, ex_l e h, q H1 (Ex.refl H1)⟩
theorem rc_any {a : Addr} {bs : List Bool} (h : SqL K H a (bs.map V.bl)) : RC (rAny K) [.ref a] H (.bl (bs.any id)) := fun H1 e _ q => ⟨a, bs, rfl, ex_l e h, q H1 (Ex.refl H1)⟩
theorem rc_len {a : Addr} {xs : List V} (h : SqL K H a xs) : RC (rLenS K) [.ref a] H (.int (xs.length : Int)) := fun H1 e _ q => ⟨a, xs, rfl, .inl (ex_l e h), q H1 (Ex.refl H1)⟩
theorem rc_min {i j : Int} : RC (fun vs H Q => ∃ i j, vs = [V.int i, V.int j] ∧ Q (.int (if j < i then j else i)) H) [.int i, .int j] H (.int (if j < i then j else i)) := fun H1 _ _ q => ⟨i, j, rfl, q H1 (Ex.refl H1)⟩
theorem rc_abs {i : Int} : RC (fun vs H Q => ∃ i, vs = [V.int i] ∧ Q (.int (if i < 0 then -i else i)) H) [.int i] H (.int (if i < 0 then -i else i)) := fun H1 _ _ q => ⟨i, rfl, q H1 (Ex.refl H1)⟩
theorem rcl_list {a : Addr} {xs : List V} (h : SqL K H a xs) : RCL (rListS K) [.ref a] H xs := fun H1 e _ q =>
  ⟨a, xs, rfl, .inl (ex_l e h), fun l hl => q l _ hl (Ex.new hl) upd_same⟩
/-! ### == of lists of ints -/
theorem dp_ints (ns : List Int) : DpAll K H (ns.map V.int) (ns.map PyData.int) := by
  induction ns with
  | nil => exact .nil
  | cons n r ih => exact .cons (.int n) ih
theorem eqv_ints (ns ms : List Int) : PyData.eqv (.list (ns.map PyData.int)) (.list (ms.map PyData.int)) = decide (ns = ms) := by
  simp only [PyData.eqv]
  exact PySem.W.ked_eqvAll ns ms
theorem rv_eqL {a b : Addr} {ns ms : List Int} (ha : SqL K H a (ns.map V.int)) (hb : SqL K H b (ms.map V.int)) : RV (rEqD K) (.ref a) (.ref b) H (.bl (decide (ns = ms))) := fun H1 e Q q =>
  ⟨_, _, .lst (ex_l e ha) (dp_ints ns), .lst (ex_l e hb) (dp_ints ms), PySem.W.ke_shaped_ints ns, PySem.W.ke_shaped_ints ms, by rw [eqv_ints]; exact q H1 (Ex.refl H1)⟩
theorem rv_neL {a b : Addr} {ns ms : List Int} (ha : SqL K H a (ns.map V.int)) (hb : SqL K H b (ms.map V.int)) : RV (rNeD K) (.ref a) (.ref b) H (.bl (!decide (ns = ms))) := fun H1 e Q q =>
  ⟨_, _, .lst (ex_l e ha) (dp_ints ns), .lst (ex_l e hb) (dp_ints ms), PySem.W.ke_shaped_ints ns, PySem.W.ke_shaped_ints ms, by rw [eqv_ints]; exact q H1 (Ex.refl H1)⟩
/-- an item of a list of ints at a place within it -/
theorem rv_at {a : Addr} {ns : List Int} {i : Int} {n : Nat} (h : SqL K H a (ns.map V.int)) (e : i = (n : Int)) (hn : n < ns.length) : RV (rIxL K) (.ref a) (.int i) H (.int (sq ns n)) := by
  refine rv_ixL h ?_
  rw [e]
  refine atI_nat ?_
  rw [List.getElem?_map, sq_at hn]
  rfl
/-! ### isinstance -/
theorem rc_isi {x : V} {c t : String} {b : Bool} (h : TyX K H x (.type t)) (hx : ∀ H1, Ex H H1 → TyX K H1 x (.type t)) (hb : kitB t c = some b) : RC (rIsi K) [x, .ty c] H (.bl b) := fun H1 e _ q =>
  ⟨x, .ty c, .type t, .type c, b, rfl, .ty c, hx H1 e, kit_ty hb, q H1 (Ex.refl H1)⟩
theorem rc_isi_int {i : Int} {c : String} {b : Bool} (hb : kitB "int" c = some b) : RC (rIsi K) [.int i, .ty c] H (.bl b) := rc_isi (.base (.int i)) (fun _ _ => .base (.int i)) hb
theorem rc_isi_bl {k : Bool} {c : String} {b : Bool} (hb : kitB "bool" c = some b) : RC (rIsi K) [.bl k, .ty c] H (.bl b) := rc_isi (.base (.bl k)) (fun _ _ => .base (.bl k)) hb
theorem rc_isi_lst {a : Addr} {xs : List V} {c : String} {b : Bool} (ha : H a = some (.lst xs)) (hb : kitB "list" c = some b) : RC (rIsi K) [.ref a, .ty c] H (.bl b) := rc_isi (.base (.lst ha)) (fun _ e => .base (.lst (e a _ ha))) hb
/-! ### loops and tests -/
theorem et_test' {b : Bool} (h : Ev te σ H (.bl b)) : EvT (tTest te) σ H b := et_test h
end
end Pw
namespace Pw
open PySem PySem.Spec PyProof.Rows L2 Evl
section
variable {K : PySem.W.Frag} {σ : L2.St} {H H' : Hp} {ta tb tc te : TE} {t u : TT} {x y z v : V} {r r' : R2}
theorem given_all {n : Nat} {v : Nat → V} : given n (fun _ => true) v = (List.range n).map v := by
  unfold given
  rw [List.filter_eq_self.mpr fun _ _ => rfl]
theorem et_yes : EvT tYes σ H true := fun H1 _ _ q => q H1 (Ex.refl H1)
theorem el_is {xs ys : List V} (h : EvL te σ H xs) (e : xs = ys) : EvL te σ H ys := by
  rw [← e]
  exact h
/-- [e for x in xs], a list of ints -/
theorem el_mapL {a : Addr} {ns : List Int} {tl : TE} {j : Nat} {vs : List Nat} (v : Nat → V) (h : Ev tl σ H (.ref a)) (hx : SqL K H a (ns.map V.int)) (hz : ns.length ≤ 40000) (hw : ∀ x, wipe ((wipe σ vs).set j (some x)) vs = wipe σ vs)
    (he : ∀ (i : Nat) H1, Ex H H1 → i < ns.length → Ev te ((wipe σ vs).set j (some (.int (sq ns i)))) H1 (v i)) : EvL (tLc (iList K tl) (gName j) tYes te vs) σ H ((List.range ns.length).map v) := by
  refine el_is (el_lcL (xs := ns.map V.int) (fun _ => true) v h hx (by rw [List.length_map]; exact hz) hw (fun _ _ _ _ _ => et_yes) (fun i x H1 e hi _ => ?_)) ?_
  · rw [List.getElem?_map] at hi
    have hn : i < ns.length := by
      by_cases c : i < ns.length
      · exact c
      · rw [List.getElem?_eq_none (by omega)] at hi
        cases hi
    rw [sq_at hn] at hi
    cases hi
    exact he i H1 e hn
  · rw [given_all, List.length_map]
/-- [e for x in range(n)] -/
theorem el_mapR {ta : TA} {j : Nat} {vs : List Nat} {n : Int} (v : Nat → V) (h : EvA ta σ H [.int n]) (hn : 0 ≤ n ∧ n ≤ 40000) (hw : ∀ x, wipe ((wipe σ vs).set j (some x)) vs = wipe σ vs)
    (he : ∀ (i : Nat) H1, Ex H H1 → (i : Int) < n → Ev te ((wipe σ vs).set j (some (.int (i : Int)))) H1 (v i)) : EvL (tLc (iRng1 ta) (gName j) tYes te vs) σ H ((List.range n.toNat).map v) :=
  el_is (el_lcR1 (fun _ => true) v h hn hw (fun _ _ _ _ => et_yes) (fun i H1 e hi _ => he i H1 e hi)) given_all
theorem map_map_int {n : Nat} {f : Nat → Int} : (List.range n).map (fun i => V.int (f i)) = ((List.range n).map f).map V.int := by
  rw [List.map_map]
  rfl
theorem map_map_bl {n : Nat} {f : Nat → Bool} : (List.range n).map (fun i => V.bl (f i)) = ((List.range n).map f).map V.bl := by
  rw [List.map_map]
  rfl
theorem all_true {n : Nat} : ((List.range n).map fun _ => true).all id = true := by
  rw [List.all_eq_true]
  intro x hx
  obtain ⟨_, _, rfl⟩ := List.mem_map.mp hx
  rfl
theorem min_if {a b : Nat} : (if (b : Int) < (a : Int) then (b : Int) else (a : Int)) = ((min a b : Nat) : Int) := by
  by_cases h : b < a
  · rw [if_pos (by omega), Nat.min_eq_right (by omega)]
  · rw [if_neg (by omega), Nat.min_eq_left (by omega)]
end
end Pw
namespace Pw
open PySem PySem.Spec PyProof.Rows L2 Evl
section
variable {K : PySem.W.Frag} {σ : L2.St} {H H' : Hp} {ta tb tc te : TE} {t u : TT} {x y z v : V} {r r' : R2}
theorem rc_lenI {a : Addr} {ns : List Int} (h : SqL K H a (ns.map V.int)) : RC (rLenS K) [.ref a] H (.int (ns.length : Int)) := by
  have g := rc_len h
  rw [List.length_map] at g
  exact g
theorem rc_minN {a b : Nat} : RC (fun vs H Q => ∃ i j, vs = [V.int i, V.int j] ∧ Q (.int (if j < i then j else i)) H) [.int (a : Int), .int (b : Int)] H (.int ((min a b : Nat) : Int)) := by
  have g := rc_min (H := H) (i := (a : Int)) (j := (b : Int))
  rw [min_if] at g
  exact g
/-- small items -/
def Sml (xs : List Int) : Prop := ∀ x ∈ xs, -1000000 < x ∧ x < 1000000
theorem Sml.at {xs : List Int} (h : Sml xs) (n : Nat) : -1000000 < sq xs n ∧ sq xs n < 1000000 := by
  by_cases c : n < xs.length
  · exact h _ (sq_mem c)
  · rw [sq_out (by omega)]
    decide
theorem Rowp.sml {p : Int} {xs : List Int} (hp : p ≤ 1000) (h : Rowp p xs) : Sml xs := fun x hx => by
  have := h.rest x hx
  omega
theorem el_int {n : Nat} {f : Nat → Int} (h : EvL te σ H ((List.range n).map fun i => V.int (f i))) : EvL te σ H (((List.range n).map f).map V.int) := el_is h map_map_int
end
end Pw
namespace Pw
open PySem PySem.Spec PyProof.Rows L2 Evl
section
variable {K : PySem.W.Frag} {σ : L2.St} {H H' : Hp} {ta tb tc te : TE} {t u : TT} {x y z v : V} {r r' : R2}
/-- [e for x, y in zip(xs, ys)], two lists of ints -/
theorem el_zip {a b : Addr} {xs ys : List Int} {tA : TA} {i j : Nat} {vs : List Nat} (v : Nat → V) (h : EvA tA σ H [.ref a, .ref b]) (hx : SqL K H a (xs.map V.int)) (hy : SqL K H b (ys.map V.int)) (hz : xs.length ≤ 40000)
    (hw : ∀ x y, wipe (((wipe σ vs).set i (some x)).set j (some y)) vs = wipe σ vs)
    (he : ∀ (n : Nat) H1, Ex H H1 → n < min xs.length ys.length → Ev te (((wipe σ vs).set i (some (.int (sq xs n)))).set j (some (.int (sq ys n)))) H1 (v n)) :
    EvL (tLc (iZip K tA) (gTup K 2 (gCons (gName i) (gCons (gName j) gNil))) tYes te vs) σ H ((List.range (min xs.length ys.length)).map v) := fun H0 e Q q => h H0 e _ fun H1 e1 => by
  refine ⟨a, b, _, _, rfl, ex_l (e.trans e1) hx, ex_l (e.trans e1) hy, fun Dl hD => ?_⟩
  refine ⟨fun n m H' => m = min xs.length ys.length - n ∧ n ≤ min xs.length ys.length ∧ Cw H1 (fun _ => true) v Dl n H', ⟨min xs.length ys.length, rfl, Nat.zero_le _, hD, Ex.new hD, upd_same⟩, fun n m H' hW => ?_⟩
  obtain ⟨rfl, hn, p⟩ := hW
  have ex := (e.trans e1).trans p.2.1
  by_cases hlt : n < min xs.length ys.length
  · have gx : (xs.map V.int)[n]? = some (.int (sq xs n)) := by
      rw [List.getElem?_map, sq_at (by omega)]
      rfl
    have gy : (ys.map V.int)[n]? = some (.int (sq ys n)) := by
      rw [List.getElem?_map, sq_at (by omega)]
      rfl
    refine .inr ⟨⟨_, _, _, _, ex_l ex hx, ex_l ex hy, gx, gy⟩, fun H3 => Cw H1 (fun _ => true) v Dl (n + 1) H3, fun H3 c => ⟨min xs.length ys.length - (n + 1), by omega, rfl, by omega, c⟩, fun z H3 hz3 => ?_⟩
    obtain ⟨T, x1, x2, rfl, hT, rfl, f1, f2⟩ := hz3
    have ex1 : x1 = .int (sq xs n) := Option.some.inj ((f1 _ (ex_l ex hx)).symm.trans gx)
    have ex2 : x2 = .int (sq ys n) := Option.some.inj ((f2 _ (ex_l ex hy)).symm.trans gy)
    subst ex1 ex2
    have p' : Cw H1 (fun _ => true) v Dl n (upd H' T (.tup [.int (sq xs n), .int (sq ys n)])) := ⟨p.1, p.2.1.trans (Ex.new hT), by
      rw [upd_ne (ne_of_none p.2.2 hT)]
      exact p.2.2⟩
    exact ⟨T, _, rfl, st_of upd_same, rfl, .int (sq xs n), _, rfl, .int (sq ys n), _, rfl, rfl, hw _ _, cw_turn p' (by omega) et_yes fun _ => he n H1 (e.trans e1) hlt⟩
  · have en : n = min xs.length ys.length := by omega
    refine .inl ⟨⟨_, _, ex_l ex hx, ex_l ex hy, ?_⟩, ?_⟩
    · rw [List.length_map, List.length_map]
      omega
    · rw [en] at p
      have p2 := p.2.2
      rw [given_all] at p2
      exact q Dl H' (fresh_back e1 p.1) (e1.trans p.2.1) p2
/-! ### slices -/
theorem cut_to (ns : List Int) (k : Nat) : cutV (ns.map V.int) none (some (k : Int)) = (ns.take k).map V.int := by
  unfold cutV
  rw [HT.sIx_none, HT.sIx_nat, List.drop_zero, Nat.sub_zero, List.map_take]
  by_cases h : k ≤ (ns.map V.int).length
  · rw [Nat.min_eq_left h]
  · rw [Nat.min_eq_right (by omega), List.take_of_length_le (Nat.le_refl _), List.take_of_length_le (by omega)]
theorem cut_from (ns : List Int) (k : Nat) : cutV (ns.map V.int) (some (k : Int)) none = (ns.drop k).map V.int := by
  unfold cutV
  rw [HT.sIx_none, HT.sIx_nat, List.map_drop]
  by_cases h : k ≤ (ns.map V.int).length
  · rw [Nat.min_eq_left h, List.take_of_length_le (by rw [List.length_drop]; omega)]
  · have h1 : List.drop (ns.map V.int).length (ns.map V.int) = [] := List.drop_eq_nil_of_le (Nat.le_refl _)
    have h2 : List.drop k (ns.map V.int) = [] := List.drop_eq_nil_of_le (by omega)
    rw [Nat.min_eq_right (by omega), h1, h2, List.take_nil]
/-- all but the last -/
theorem cut_last (ns : List Int) : cutV (ns.map V.int) none (some (-1)) = ns.dropLast.map V.int := by
  unfold cutV
  rw [HT.sIx_none, List.drop_zero, Nat.sub_zero, show HT.sIx (ns.map V.int).length (ns.map V.int).length (some (-1)) = (ns.map V.int).length - 1 from ?_, List.map_dropLast, List.dropLast_eq_take]
  unfold HT.sIx
  simp only [List.length_map]
  split <;> omega
end
end Pw
namespace Pw
open PySem PySem.Spec PyProof.Rows L2 Evl
section
variable {K : PySem.W.Frag} {σ : L2.St} {H H' : Hp} {ta tb tc te te2 : TE} {t u : TT} {x y z v : V} {r r' : R2} {D : Ends} {tz : TS}
/-- a, b = e, e2 -/
theorem q_par {i j : Nat} (h1 : Ev te σ H x) (h2 : Ev te2 σ H y) (k : ∀ H1, Ex H H1 → tz D ((σ.set i (some x)).set j (some y)) H1) : tSeq (tPar i j (tCons te (tCons te2 tNil))) tz D σ H :=
  h1 H (Ex.refl H) _ fun H1 e1 => h2 H1 e1 _ fun H2 e2 => ⟨x, y, rfl, k H2 (e1.trans e2)⟩
theorem q_parL {i j : Nat} {xs : List V} (h1 : Ev te σ H x) (h2 : EvL te2 σ H xs) (k : ∀ p H1, H p = none → Ex H H1 → H1 p = some (.lst xs) → tz D ((σ.set i (some x)).set j (some (.ref p))) H1) : tSeq (tPar i j (tCons te (tCons te2 tNil))) tz D σ H :=
  h1 H (Ex.refl H) _ fun H1 e1 => h2 H1 e1 _ fun p H2 n2 e2 hp => ⟨x, .ref p, rfl, k p H2 (fresh_back e1 n2) (e1.trans e2) hp⟩
theorem q_parLL {i j : Nat} {xs ys : List V} (h1 : EvL te σ H xs) (h2 : EvL te2 σ H ys) (k : ∀ p q H1, H p = none → H q = none → p ≠ q → Ex H H1 → H1 p = some (.lst xs) → H1 q = some (.lst ys) → tz D ((σ.set i (some (.ref p))).set j (some (.ref q))) H1) : tSeq (tPar i j (tCons te (tCons te2 tNil))) tz D σ H :=
  h1 H (Ex.refl H) _ fun p H1 n1 e1 hp => h2 H1 e1 _ fun q H2 n2 e2 hq => ⟨.ref p, .ref q, rfl, k p q H2 n1 (fresh_back e1 n2) (ne_of_none hp n2) (e1.trans e2) (e2 p _ hp) hq⟩
/-- a, b, c = list, list, int -/
theorem q_par3LL {i j l : Nat} {te3 : TE} {xs ys : List V} (h1 : EvL te σ H xs) (h2 : EvL te2 σ H ys) (h3 : Ev te3 σ H z) (k : ∀ p q H1, H p = none → H q = none → p ≠ q → Ex H H1 → H1 p = some (.lst xs) → H1 q = some (.lst ys) → tz D (((σ.set i (some (.ref p))).set j (some (.ref q))).set l (some z)) H1) : tSeq (tPar3 i j l (tCons te (tCons te2 (tCons te3 tNil)))) tz D σ H :=
  h1 H (Ex.refl H) _ fun p H1 n1 e1 hp => h2 H1 e1 _ fun q H2 n2 e2 hq => h3 H2 (e1.trans e2) _ fun H3 e3 => ⟨.ref p, .ref q, z, rfl, k p q H3 n1 (fresh_back e1 n2) (ne_of_none hp n2) ((e1.trans e2).trans e3) (e3 p _ (e2 p _ hp)) (e3 q _ hq)⟩
/-- the first operand a new tuple -/
theorem ev_opU1 {xs : List V} (ha : EvU ta σ H xs) (hb : Ev tb σ H y) (hr : ∀ p H1, H1 p = some (.tup xs) → Ex H H1 → RV r (.ref p) y H1 z) : Ev (tOp r ta tb) σ H z := fun H1 e Q q =>
  ha H1 e _ fun p H2 _ e2 hp => hb H2 (e.trans e2) _ fun H3 e3 => hr p H3 (e3 p _ hp) ((e.trans e2).trans e3) H3 (Ex.refl H3) Q fun H4 e4 => q H4 ((e2.trans e3).trans e4)
theorem el_if {b : Bool} {xs : List V} (h : EvT t σ H b) (h1 : b = true → EvL ta σ H xs) (h2 : b = false → EvL tb σ H xs) : EvL (tIf t ta tb) σ H xs := fun H1 e Q q => h H1 e _ fun H2 e2 => by
  cases b with
  | true =>
    show ta σ H2 Q
    exact h1 rfl H2 (e.trans e2) Q fun p H3 n3 e3 hp => q p H3 (fresh_back e2 n3) (e2.trans e3) hp
  | false =>
    show tb σ H2 Q
    exact h2 rfl H2 (e.trans e2) Q fun p H3 n3 e3 hp => q p H3 (fresh_back e2 n3) (e2.trans e3) hp
theorem el_cat {a b : Addr} {xs ys : List V} (ha : Ev ta σ H (.ref a)) (hb : Ev tb σ H (.ref b)) (h1 : H a = some (.lst xs)) (h2 : H b = some (.lst ys)) (hz : xs.length + ys.length ≤ 100000) : EvL (tOp rCat ta tb) σ H (xs ++ ys) := fun H1 e Q q =>
  ha H1 e _ fun H2 e2 => hb H2 (e.trans e2) _ fun H3 e3 => ⟨a, b, xs, ys, rfl, rfl, ((e.trans e2).trans e3) a _ h1, ((e.trans e2).trans e3) b _ h2, sz_of hz, fun p hp => q p _ (fresh_back (e2.trans e3) hp) ((e2.trans e3).trans (Ex.new hp)) upd_same⟩
/-- a new list and a known one, put behind one another -/
theorem el_catL {b : Addr} {xs ys : List V} (ha : EvL ta σ H xs) (hb : Ev tb σ H (.ref b)) (h2 : H b = some (.lst ys)) (hz : xs.length + ys.length ≤ 100000) : EvL (tOp rCat ta tb) σ H (xs ++ ys) := fun H1 e Q q =>
  ha H1 e _ fun a H2 n2 e2 h1 => hb H2 (e.trans e2) _ fun H3 e3 => ⟨a, b, xs, ys, rfl, rfl, e3 a _ h1, ((e.trans e2).trans e3) b _ h2, sz_of hz, fun p hp => q p _ (fresh_back (e2.trans e3) hp) ((e2.trans e3).trans (Ex.new hp)) upd_same⟩
theorem el_catLL {xs ys : List V} (ha : EvL ta σ H xs) (hb : EvL tb σ H ys) (hz : xs.length + ys.length ≤ 100000) : EvL (tOp rCat ta tb) σ H (xs ++ ys) := fun H1 e Q q =>
  ha H1 e _ fun a H2 n2 e2 h1 => hb H2 (e.trans e2) _ fun b H3 n3 e3 h2 => ⟨a, b, xs, ys, rfl, rfl, e3 a _ h1, h2, sz_of hz, fun p hp => q p _ (fresh_back (e2.trans e3) hp) ((e2.trans e3).trans (Ex.new hp)) upd_same⟩
/-- [x] * n -/
theorem el_rep {n : Int} {xs : List V} (ha : EvL ta σ H xs) (hb : Ev tb σ H (.int n)) (hn : -100000 ≤ n ∧ n ≤ 100000) (hz : xs.length = 1) : EvL (tOp rRep ta tb) σ H (List.replicate n.toNat xs).flatten := fun H1 e Q q =>
  ha H1 e _ fun a H2 n2 e2 h1 => hb H2 (e.trans e2) _ fun H3 e3 => ⟨a, n, xs, rfl, rfl, e3 a _ h1, by omega, by omega, sz_of (by rw [hz]; omega), fun p hp => q p _ (fresh_back (e2.trans e3) hp) ((e2.trans e3).trans (Ex.new hp)) upd_same⟩
theorem rep_one (n : Nat) (x : V) : (List.replicate n [x]).flatten = List.replicate n x := by
  induction n with
  | zero => rfl
  | succ n ih =>
    rw [List.replicate_succ, List.flatten_cons, ih]
    rfl
theorem rep_map (n : Nat) (x : Int) : List.replicate n (V.int x) = ((List.range n).map fun _ => x).map V.int := by
  rw [List.map_map]
  apply List.ext_getElem?
  intro i
  by_cases h : i < n
  · rw [List.getElem?_replicate, if_pos h, List.getElem?_map, List.getElem?_range h]
    rfl
  · rw [List.getElem?_eq_none (by simp; omega), List.getElem?_eq_none (by simp; omega)]
/-- an item of a tuple of ints -/
theorem rv_atU {a : Addr} {ns : List Int} {i : Int} {n : Nat} (h : SqT K H a (ns.map V.int)) (e : i = (n : Int)) (hn : n < ns.length) : RV (rIxT K) (.ref a) (.int i) H (.int (sq ns n)) := by
  refine rv_ixT h ?_
  rw [e]
  refine atI_nat ?_
  rw [List.getElem?_map, sq_at hn]
  rfl
/-! ### isinstance of the error that a suite holds -/
def rIsX (K : PySem.W.Frag) (a : Addr) (cls : Value) (d : Option Addr) : List V → Hp → VK → Prop := fun xs H Q => ∃ D, cls = .ref D ∧ d = none ∧ ExcC K D ∧ rIsE K D a xs H Q
theorem call_isX {X : Cx} {a : Addr} {oe : Obj} {pn : List (Addr × Obj)} {cls : Value} {d : Option Addr} (hz : Zc cls d oe) (hf : ∃ vs, oe.data = .fields vs) : CallR (X.suite a ((a, oe) :: pn)) (.builtin "isinstance") (rIsX X.K a cls d) := by
  intro pins s σ H xs us Q I r h
  obtain ⟨D, rfl, rfl, C, h⟩ := h
  exact call_isE C hz hf pins s σ H xs us Q I r h
theorem rc_isX {a D C : Addr} {b : Bool} (E : ExcC K D) (hb : PySem.W.kitOne K (.ref D) (.ref C) = some b) : RC (rIsX K a (.ref D) none) [.ref a, .ref C] H (.bl b) := fun H1 e _ q =>
  ⟨D, rfl, rfl, E, .ref C, .ref C, b, rfl, fun _ r => r, hb, q H1 (Ex.refl H1)⟩
theorem rc_isXT {a D : Addr} {c : String} {b : Bool} (E : ExcC K D) (hb : PySem.W.kitOne K (.ref D) (.type c) = some b) : RC (rIsX K a (.ref D) none) [.ref a, .ty c] H (.bl b) := fun H1 e _ q =>
  ⟨D, rfl, rfl, E, .ty c, .type c, b, rfl, fun _ r => r, hb, q H1 (Ex.refl H1)⟩
/-- an own class asked of an instance of another -/
theorem kit_own {D C : Addr} {b : Bool} (h1 : PySem.W.isClsIn K C = true) (h2 : PySem.W.typeIn K (.ref C) = some (.type "type")) (h3 : PySem.W.subIn K (.ref D) (.ref C) = some b) (h4 : D = C → b = true) : PySem.W.kitOne K (.ref D) (.ref C) = some b := by
  unfold PySem.W.kitOne
  by_cases e : D = C
  · subst e
    rw [if_pos (beq_self_eq_true _), h4 rfl]
  · have ne : ¬ ((Value.ref D == Value.ref C) = true) := fun z => e (Value.ref.inj (beq_iff_eq.mp z))
    rw [if_neg ne]
    show (if ((PySem.W.clsIn K C).isSome && PySem.W.typeIn K (.ref C) == some (.type "type")) = true then PySem.W.subIn K (.ref D) (.ref C) else none) = some b
    have h1' : (PySem.W.clsIn K C).isSome = true := h1
    rw [h1', h2, if_pos (by rfl)]
    exact h3
end
end Pw
namespace Pw
open PySem PySem.Spec PyProof.Rows L2 Evl
section
variable {K : PySem.W.Frag} {σ : L2.St} {H H' : Hp} {ta tb tc te te2 : TE} {t u : TT} {x y z v : V} {r r' : R2} {D : Ends} {tz : TS}
/-- arguments, new lists among them: what holds of them and the heap behind -/
def EvAP (tA : TA) (σ : L2.St) (H : Hp) (P : List V → Hp → Prop) : Prop := ∀ H1, Ex H H1 → ∀ Q : List V → Hp → Prop, (∀ vs H2, Ex H1 H2 → P vs H2 → Q vs H2) → tA σ H1 Q
theorem eap_nil : EvAP tNil σ H (fun vs _ => vs = []) := fun H1 _ _ q => q [] H1 (Ex.refl H1) rfl
theorem eap_cons {tr : TA} {P : List V → Hp → Prop} (h : Ev te σ H x) (hr : EvAP tr σ H P) : EvAP (tCons te tr) σ H (fun vs H2 => ∃ r, vs = x :: r ∧ P r H2) := fun H1 e Q q =>
  h H1 e _ fun H2 e2 => hr H2 (e.trans e2) _ fun vs H3 e3 hP => q _ H3 (e2.trans e3) ⟨vs, rfl, hP⟩
theorem eap_consL {tr : TA} {P : List V → Hp → Prop} {xs : List V} (h : EvL te σ H xs) (hr : EvAP tr σ H P) : EvAP (tCons te tr) σ H (fun vs H2 => ∃ p r, vs = .ref p :: r ∧ H2 p = some (.lst xs) ∧ H p = none ∧ P r H2) := fun H1 e Q q =>
  h H1 e _ fun p H2 n2 e2 hp => hr H2 (e.trans e2) _ fun vs H3 e3 hP => q _ H3 (e2.trans e3) ⟨p, vs, rfl, e3 p _ hp, fresh_back e n2, hP⟩
theorem el_callP {sp : Sp} {E : XK} {tA : TA} {P : List V → Hp → Prop} {zs : List V} (h : EvAP tA σ H P) (hs : ∀ vs H1, Ex H H1 → P vs H1 → SpL sp (vs ++ []) H1 zs) : EvL (tCall sp [] E tA) σ H zs := fun H1 e Q q =>
  h H1 e _ fun vs H2 e2 hP => hs vs H2 (e.trans e2) hP H2 (Ex.refl H2) Q (fun p H3 n3 e3 hp => q p H3 (fresh_back e2 n3) (e2.trans e3) hp) E
theorem ev_callP {sp : Sp} {E : XK} {tA : TA} {P : List V → Hp → Prop} (h : EvAP tA σ H P) (hs : ∀ vs H1, Ex H H1 → P vs H1 → SpV sp (vs ++ []) H1 z) : Ev (tCall sp [] E tA) σ H z := fun H1 e Q q =>
  h H1 e _ fun vs H2 e2 hP => hs vs H2 (e.trans e2) hP H2 (Ex.refl H2) Q (fun H3 e3 => q H3 (e2.trans e3)) E
/-- a, b = list, list, by a tuple -/
theorem q_asgTLL {i j : Nat} {xs ys : List V} (h1 : EvL te σ H xs) (h2 : EvL te2 σ H ys) (k : ∀ p q H1, H p = none → H q = none → p ≠ q → Ex H H1 → H1 p = some (.lst xs) → H1 q = some (.lst ys) → tz D ((σ.set i (some (.ref p))).set j (some (.ref q))) H1) :
    tSeq (tAsg (tTup (tCons te (tCons te2 tNil))) (gTup K 2 (gCons (gName i) (gCons (gName j) gNil)))) tz D σ H :=
  h1 H (Ex.refl H) _ fun p H1 n1 e1 hp => h2 H1 e1 _ fun q H2 n2 e2 hq => ⟨by show 2 ≤ sizeLine; decide, fun t ht => ⟨t, _, rfl, st_of upd_same, rfl, .ref p, _, rfl, .ref q, _, rfl, rfl,
    k p q _ n1 (fresh_back e1 n2) (ne_of_none hp n2) ((e1.trans e2).trans (Ex.new ht)) (by rw [upd_ne (ne_of_none (e2 p _ hp) ht)]; exact e2 p _ hp) (by rw [upd_ne (ne_of_none hq ht)]; exact hq)⟩⟩
end
end Pw

namespace Pw
open PySem PySem.Spec PyProof.Rows L2 HotX
section
variable {prog : Program} {w : World} {A : Around} {E : Value → Shared → Prop} {s : Shared}
theorem list_end_hot {it l x1 : Addr} {i : Nat} {items : Array Value} {Q : Option Value → Shared → Prop} (hot : HotAt A x1 s.heap) (hne : x1 ≠ it)
    (hit : s.heap.IsListIter it l i) (hl : s.heap.IsList l items) (hx : items[i]? = none)
    (hQ : ∀ h', (∀ b o, b ≠ it → s.heap.get? b = some o → h'.get? b = some o) → Q none { s with heap := h' }) : wpAny (model prog w) A (pyNext (.ref it)) Q E s := by
  obtain ⟨o, ho, hc, hd⟩ := id hit
  obtain ⟨ol, hol, _, nl, hdl⟩ := hl
  obtain ⟨hh, o1, vs1, h1, d1, c1⟩ := hot
  unfold pyNext
  refine wpAny_bind (wpAny_attempt (wpAny_callSpecial?_slot (name := Str.ofString "__next__") hit.typeIs slot_listiter_next
    (wpAny_call_entry slot_listiter_next hit.typeIs entry_listiter_next ?_ (args_listiter_next _))))
  show wpAny _ _ (field (.ref it) 0 >>= _) _ _ s
  refine wpAny_bind (wpAny_field ho hd (x := .ref l) rfl ?_)
  show wpAny _ _ (if (Value.ref l == Value.none) = true then _ else _) _ _ s
  rw [if_neg (show ¬ ((Value.ref l == Value.none) = true) from Bool.false_ne_true)]
  show wpAny _ _ (field (.ref it) 1 >>= _) _ _ s
  refine wpAny_bind (wpAny_field ho hd (x := .int i 0) rfl ?_)
  show wpAny _ _ (seqItems? (.ref l) >>= _) _ _ s
  refine wpAny_bind (wpAny_seqItems hol hdl ?_)
  simp only [Int.toNat_natCast, hx]
  refine wpAny_bind (wpAny_rule (wpAny_bind (wpAny_setField ho hd (by simp) ?_)))
  show wpAny _ _ (newExc (.type "StopIteration") [] >>= _) _ _ _
  refine wpAny_bind ?_
  simp only [newExc, newTuple]
  refine wpAny_bind (wpAny_newObj_type ?_ (by size_fits))
  refine wpAny_bind (m := firstArgMember _ _) (wpAny_of_eq (a := Value.none) (by first | rfl | (simp only [firstArgMember]; rfl)) ?_)
  refine wpAny_newObj_type ?_ (by size_fits)
  have hu : ∀ b ob, b ≠ it → s.heap.get? b = some ob → (s.heap.update it (Obj.mapFields (·.setIfInBounds 0 Value.none))).get? b = some ob := fun b ob hb e => by
    rw [Heap.get?_update_other _ _ hb.symm]
    exact e
  first
    | refine raiseNew_hot (x1 := x1) ⟨hh, o1, vs1, Heap.get?_push_of_some _ (Heap.get?_push_of_some _ (hu x1 o1 hne h1)), d1, c1⟩ (Nat.ne_of_lt (Heap.lt_size (Heap.get?_push_of_some _ (hu x1 o1 hne h1)))) (Heap.get?_push_size _ rfl) rfl (by first | (simp; done) | (simp; omega) | (simp only [Array.size_append]; simp; omega)) ?_
  refine wpAny_bind (wpAny_isInstance (T := "StopIteration") (b := true) ⟨_, Heap.get?_update_self _ (Heap.get?_push_size _ rfl) rfl, rfl⟩ isSubtype_stop ?_)
  refine wpAny_pure (hQ _ fun b ob hb e => ?_)
  rw [Heap.get?_update_other _ _ (Nat.ne_of_gt (Heap.lt_size (Heap.get?_push_of_some _ (hu b ob hb e))))]
  exact Heap.get?_push_of_some _ (Heap.get?_push_of_some _ (hu b ob hb e))
/-- a list walked while an exception is handled -/
theorem walks_listH {x1 I ax : Addr} (hne : ax ≠ I) (hx : x1 ≠ I) (items : Array Value) :
    Walks prog w A I [I, ax, x1] [I] items.size (fun i v => items[i]? = some v) (fun i h => h.IsListIter I ax i ∧ h.IsList ax items ∧ HotAt A x1 h) where
  sub := fun b hb => by simp at hb; simp [hb]
  frame := fun _ _ _ st hk => ⟨st.1.at fun o e => hk I (by simp) o e, st.2.1.at fun o e => hk ax (by simp) o e, by
    obtain ⟨hh, o1, vs1, h1, d1, c1⟩ := st.2.2
    exact ⟨hh, o1, vs1, hk x1 (by simp) _ h1, d1, c1⟩⟩
  item := fun i s Q E hi st hQ => by
    refine wpAny_pyNext_list_item st.1 st.2.1 (x := items[i]) (by simp [hi]) fun h' hit' hs' => ?_
    obtain ⟨hh, o1, vs1, h1, d1, c1⟩ := st.2.2
    exact hQ _ h' s.toks (by simp [hi]) ⟨hit', st.2.1.extBut hs'.extBut hne, hh, o1, vs1, hs'.extBut _ _ hx h1, d1, c1⟩ fun b o hb e => hs'.extBut b o (fun h => hb (by simp [h])) e
  done := fun s Q E st hQ => list_end_hot st.2.2 hx st.1 st.2.1 (by simp) fun h' he' => hQ h' s.toks fun b o hb e => he' b o (fun h => hb (by simp [h])) e
  self := fun _ _ _ _ st hQ => wpAny_pyIter_listiter st.1 hQ
end
/-- any(list) within an except suite -/
theorem cr_anyH {X : Cx} {a : Addr} {oe : Obj} {pn : List (Addr × Obj)} {cls : Value} {d : Option Addr} (hz : L2N.Zn cls d oe) (hf : ∃ vs, oe.data = .fields vs) : CallR (X.suite a ((a, oe) :: pn)) (.builtin "any") (rAny X.K) := by
  intro pins s σ H vs us Q I r h
  obtain ⟨l, bs, rfl, hs, q⟩ := h
  obtain ⟨its, rv, hl, _⟩ := I.list hs
  rw [Vals.ref1 r]
  have hb := rv.bls
  obtain ⟨hget, hfree⟩ := I.pin (a, oe) (List.mem_append.mpr (.inl List.mem_cons_self))
  obtain ⟨vs1, hv⟩ := hf
  refine call_any_walk (iter_any hl.isList fun s₂ e2 st hne => ?_)
  subst e2
  have hot : HotAt (X.suite a ((a, oe) :: pn)).A.in1 a (s.heap.push { cls := .type "list_iterator", data := .fields #[.ref l, .int 0 0] }) := ⟨rfl, oe, vs1, Heap.get?_push_of_some _ hget, hv, hz.2.2 vs1 hv⟩
  refine ⟨_, _, _, _, _, _, _, rfl, walks_listH (A := (X.suite a ((a, oe) :: pn)).A.in1) (x1 := a) hne (Nat.ne_of_lt (Heap.lt_size hget)) its.toArray, ⟨st.1, st.2, hot⟩, truth_bools hb, fun h' tk hk => ?_⟩
  refine ⟨.bl _, H, I.kept fun b o eo => hk b o (fun hmem => ?_) (Heap.get?_push_of_some _ eo), ?_, q⟩
  · rcases List.mem_cons.mp hmem with e1 | hmem
    · exact absurd (e1 ▸ Heap.lt_size eo) (Nat.lt_irrefl _)
    · cases hmem
  · show Value.bool _ = Value.bool _
    rw [← L2.any_range, hb, List.size_toArray, List.length_map]
theorem takes0N {X : Cx} : L2N.Takes X (fun _ _ _ _ => False) := fun _ _ x => by
  obtain ⟨_, _, _, _, _, _, _, _, _, _, _, _, _, _, _, _, z⟩ := x
  exact z.elim
section
variable {P : Program} {w : World} {K : PySem.W.Frag} {mg : Str → Option Value} {base : Heap}
/-- a def that may raise -/
theorem okN {x qual : Str} {st : Stmt} {f : Addr} {fd : FuncData} {N ps : List Str} {k : Nat} {sp : Sp} (F : Fun K x qual st f fd) (S : FnScope N ps (defScope st)) (len : ∀ vs H Q E, sp vs H Q E → vs.length = ps.length)
    (hbody : ∀ (cdv : Value) (A : Around) (outer : List Env) (s : Shared) (H : Hp) (vs : List V) (Q : VK) (E : XK), Room k (A.deeper (envOfC qual (defScope st) s.heap.objs.size f cdv)) → sp vs H Q E →
      ∃ t, PSs (cxOf (L2N.CX P w) P w K mg base N qual (defScope st) f cdv A outer s H E) (defBody st) t ∧ t { nx := fun _ H' => Q .non H', rt := Q } (start N vs) H) : FnOk P w K mg base (L2N.CX P w) (k + 1) f fd ps sp := by
  obtain ⟨oc, od, kV, doc, pm, an, cdv, ct, osl, rfl, lk, hcd⟩ := F.ex
  exact fn_of lk hcd S len fun A outer s H vs Q E hr hsp => hbody cdv A outer s H vs Q E hr hsp
end
section
variable {X : Cx} {x : Str} {p pos : Pos} {e : Expr} {es : List Expr} {t : TA} {sp : Sp} {k : Nat} {ps : List Str}
/-- a call of such a def in a try -/
theorem pe_cS {E : L2.St → XK} (C : Cal X.prog X.w X.K X.mg X.base (L2N.CX X.prog X.w) x k ps sp) (hr : Room k X.A) (hx : ∀ σ, PassesAt (L2N.CX X.prog X.w) X σ (E σ)) (ha : PA X (e :: es) t) (hg : Gl X x := by rfl) (hdb : (x == ("__debug__" : Str)) = false := by decide)
    (he : starEach (e :: es) X.env = (false, eval e X.env) :: starEach es X.env := by rfl) (hpl : (backTo pos (starEach es X.env)).any (·.1) = false := by rfl) :
    PE X (.Call (.Name x p) (e :: es) [] pos) (tCallS sp E t) := by
  obtain ⟨f, fd, F, g, kp, b⟩ := C.ex
  exact pe_callS F hr hg g kp b hx ha hdb he hpl
end
/-- what the top's own exception classes are -/
structure ExcF (K : PySem.W.Frag) (a : Addr) : Prop where
  exc : PySem.W.excIn K a [.type "ValueError", .type "Exception", .type "BaseException", .type "object"] "ValueError.__new__" = true
  sb : PySem.W.subIn K (.ref a) (.type "BaseException") = some true
  ty : PySem.W.typeIn K (.ref a) = some (.type "type")
  ic : PySem.W.isClsIn K a = true
end Pw
namespace Pw
open PySem PySem.Spec PyProof.Rows L2 Evl
/-- try: f(..), the call lets an exception out or comes back -/
theorem q_tryc {σ : L2.St} {H : Hp} {D : Ends} {tz : TS} {sp : Sp} {tA : TA} {vs : List V} {W : Ends → WX} (h : EvA tA σ H vs) (k : ∀ H1, Ex H H1 → sp vs H1 (fun _ H2 => tz D σ H2) (WE (W { D with nx := tz D }) σ)) :
    tSeq (fun D σ H => tDrop (tCallS sp (WE (W D)) tA) D σ H) tz D σ H := h H (Ex.refl H) _ fun H1 e1 => k H1 e1
end Pw
namespace Pw
open PySem PySem.Spec PyProof.Rows L2 Evl
theorem vals_abs {ns : List Int} : ∀ {its : List Value}, its.map absV = (ns.map fun i => some (V.int i)) → Vals (ns.map V.int) its := by
  induction ns with
  | nil =>
    intro its h
    cases its with
    | nil => exact .nil
    | cons u r => cases h
  | cons n r ih =>
    intro its h
    cases its with
    | nil => cases h
    | cons u t =>
      have h1 : absV u = some (V.int n) := (List.cons.inj h).1
      have h2 : t.map absV = r.map fun i => some (V.int i) := (List.cons.inj h).2
      refine .cons ?_ (ih h2)
      cases u <;> cases h1
      exact ⟨_, rfl⟩
/-- a tuple of ints of the written part -/
theorem sqt_ints {K : PySem.W.Frag} {a : Addr} {dd : Option Addr} {its : Array Value} {n : Nat} {sl : Array (Option Value)} {ns : List Int} (h : K.lookup a = some ⟨.type "tuple", dd, .seq its n, sl⟩) (hz : its.size ≤ sizeLine) (e : its.toList.map absV = ns.map fun i => some (V.int i)) (H : Hp) :
    SqT K H a (ns.map V.int) := .inr ⟨_, its, n, h, rfl, rfl, hz, vals_abs e⟩
/-- isinstance of an error: another class -/
theorem kit_other {K : PySem.W.Frag} {D C : Addr} (h1 : PySem.W.isClsIn K C = true) (h2 : PySem.W.typeIn K (.ref C) = some (.type "type")) (h3 : PySem.W.subIn K (.ref D) (.ref C) = some false) (h0 : PySem.W.subIn K (.ref D) (.ref D) = some true) : PySem.W.kitOne K (.ref D) (.ref C) = some false :=
  kit_own h1 h2 h3 fun e => by
    subst e
    rw [h0] at h3
    cases h3
theorem kit_self {K : PySem.W.Frag} {D : Addr} (h1 : PySem.W.isClsIn K D = true) (h2 : PySem.W.typeIn K (.ref D) = some (.type "type")) (h3 : PySem.W.subIn K (.ref D) (.ref D) = some true) : PySem.W.kitOne K (.ref D) (.ref D) = some true := kit_own h1 h2 h3 fun _ => rfl
end Pw

namespace Pw
open PySem PySem.Spec PyProof.Rows L2 Evl
section
variable {K : PySem.W.Frag} {σ : L2.St} {H H' : Hp} {ta tb tc te te2 : TE} {t u : TT} {x y z v : V} {r r' : R2} {D : Ends} {tz tu : TS}
/-- x = f(..), by the promise itself -/
theorem q_asgC {i : Nat} {sp : Sp} {E : XK} {tA : TA} {vs : List V} (h : EvA tA σ H vs) (k : ∀ H1, Ex H H1 → sp (vs ++ []) H1 (fun v H2 => tz D (σ.set i (some v)) H2) E) : tSeq (tAsg (tCall sp [] E tA) (gName i)) tz D σ H := h H (Ex.refl H) _ fun H1 e1 => k H1 e1
/-- a new list of what isn't known ahead -/
def EvLP (te : TE) (σ : L2.St) (H : Hp) (R : List V → Hp → Prop) : Prop := ∀ H1, Ex H H1 → ∀ Q : VK, (∀ xs p H2, H1 p = none → Ex H1 H2 → H2 p = some (.lst xs) → R xs H2 → Q (.ref p) H2) → te σ H1 Q
theorem elp_lst {tA : TA} {P : List V → Hp → Prop} (h : EvAP tA σ H P) (hl : ∀ vs H1, P vs H1 → vs.length ≤ 100000) : EvLP (tLst tA) σ H (fun xs H3 => ∃ H2, Ex H2 H3 ∧ P xs H2) := fun H1 e Q q =>
  h H1 e _ fun vs H2 e2 hP => ⟨sz_of (hl vs H2 hP), fun p hp => q vs p _ (fresh_back e2 hp) (e2.trans (Ex.new hp)) upd_same ⟨H2, Ex.new hp, hP⟩⟩
theorem q_forLP {tl : TE} {R : List V → Hp → Prop} {j : Nat} (h : EvLP tl σ H R) (Pv : List V → Addr → Nat → L2.St → Hp → Prop) (h0 : ∀ xs p H1, H p = none → Ex H H1 → H1 p = some (.lst xs) → R xs H1 → Pv xs p 0 σ H1) (hl : ∀ xs p i σ' H', i ≤ xs.length → Pv xs p i σ' H' → SqL K H' p xs)
    (hs : ∀ xs p i x σ' H', xs[i]? = some x → Pv xs p i σ' H' → tu { D with nx := Pv xs p (i + 1), ct := Pv xs p (i + 1), bk := tz D } (σ'.set j (some x)) H') (hd : ∀ xs p σ' H', Pv xs p xs.length σ' H' → tz D σ' H') : tSeq (tFor (iList K tl) (gName j) tu) tz D σ H :=
  h H (Ex.refl H) _ fun xs p H1 hp e h1 hR => ⟨p, rfl, ⟨xs, sq_of h1⟩, for_list (D := { D with nx := tz D }) (Pv xs p) (h0 xs p H1 hp e h1 hR) (hl xs p) (hs xs p) (hd xs p)⟩
/-- a new list as an argument, its address unknown to the rest -/
theorem eap_consP {tr : TA} {P : List V → Hp → Prop} {R : List V → Hp → Prop} (h : EvLP te σ H R) (hr : EvAP tr σ H P) : EvAP (tCons te tr) σ H (fun vs H2 => ∃ p xs r H3, vs = .ref p :: r ∧ H2 p = some (.lst xs) ∧ H p = none ∧ Ex H3 H2 ∧ R xs H3 ∧ P r H2) := fun H1 e Q q =>
  h H1 e _ fun xs p H2 n2 e2 hp hR => hr H2 (e.trans e2) _ fun vs H3 e3 hP => q _ H3 (e2.trans e3) ⟨p, xs, vs, H2, rfl, e3 p _ hp, fresh_back e n2, e3, hR, hP⟩
/-- [e for x in range(lo, n)] -/
theorem el_mapR2 {tA : TA} {j : Nat} {vs : List Nat} {lo n : Int} (v : Nat → V) (h : EvA tA σ H [.int lo, .int n]) (hn : 0 ≤ lo ∧ lo ≤ 40000 ∧ -40000 ≤ n ∧ n ≤ 40000) (hw : ∀ x, wipe ((wipe σ vs).set j (some x)) vs = wipe σ vs)
    (he : ∀ (i : Nat) H1, Ex H H1 → lo + (i : Int) < n → Ev te ((wipe σ vs).set j (some (.int (lo + (i : Int))))) H1 (v i)) : EvL (tLc (iRng2 tA) (gName j) tYes te vs) σ H ((List.range (n - lo).toNat).map v) := by
  refine el_is (xs := given (n - lo).toNat (fun _ => true) v) (fun H0 e Q q => h H0 e _ fun H1 e1 => ⟨lo, n, rfl, ⟨by omega, by omega, by omega, by omega⟩, fun Dl hD => ?_⟩) given_all
  exact lc_range (lo := lo) (n := (n - lo).toNat) (Cw H1 (fun _ => true) v Dl) ⟨hD, Ex.new hD, upd_same⟩ (fun i H' hi p => ⟨hw _, cw_turn p (by omega) et_yes fun _ => he i H1 (e.trans e1) (by omega)⟩) (fun H' p => q Dl H' (fresh_back e1 p.1) (e1.trans p.2.1) p.2.2)
/-- any(list) behind a comprehension; a call upon an argument that is a call -/
theorem ev_cbP {r : List V → Hp → VK → Prop} {tA : TA} {P : List V → Hp → Prop} (h : EvAP tA σ H P) (hr : ∀ vs H1, Ex H H1 → P vs H1 → RC r vs H1 z) : Ev (tCB r tA) σ H z := fun H1 e Q q =>
  h H1 e _ fun vs H2 e2 hP => hr vs H2 (e.trans e2) hP H2 (Ex.refl H2) Q fun H3 e3 => q H3 (e2.trans e3)
end
end Pw
namespace Pw
open PySem PySem.Spec PyProof.Rows L2 Evl
section
variable {K : PySem.W.Frag} {σ : L2.St} {H H' : Hp} {ta tb tc te te2 : TE} {x y z v : V}
theorem el_catR {a : Addr} {xs ys : List V} (ha : Ev ta σ H (.ref a)) (h1 : H a = some (.lst xs)) (hb : EvL tb σ H ys) (hz : xs.length + ys.length ≤ 100000) : EvL (tOp rCat ta tb) σ H (xs ++ ys) := fun H1 e Q q =>
  ha H1 e _ fun H2 e2 => hb H2 (e.trans e2) _ fun b H3 n3 e3 h2 => ⟨a, b, xs, ys, rfl, rfl, ((e.trans e2).trans e3) a _ h1, h2, sz_of hz, fun p hp => q p _ (fresh_back (e2.trans e3) hp) ((e2.trans e3).trans (Ex.new hp)) upd_same⟩
theorem in_ints {x : Int} {xs : List Int} : inV (.int x) (xs.map V.int) = decide (x ∈ xs) := by
  unfold inV
  rw [List.any_map, Bool.eq_iff_iff, List.any_eq_true, decide_eq_true_eq]
  constructor
  · rintro ⟨y, hy, e⟩
    have e : (y == x) = true := e
    rw [beq_iff_eq.mp e] at hy
    exact hy
  · exact fun h => ⟨x, h, show (x == x) = true from beq_self_eq_true x⟩
theorem flat_ints (xs : List Int) : (xs.map V.int).all flatV = true := by
  rw [List.all_map, List.all_eq_true]
  exact fun _ _ => rfl
end
end Pw
namespace Pw
open PySem PySem.Spec PyProof.Rows L2 Evl
theorem sum_bits {m : Nat} : ∀ l : List Int, (∀ z ∈ l, Builtin.Int.intBits z ≤ m) → Builtin.Int.intBits l.sum ≤ m + l.length
  | [], _ => by
    rw [show ([] : List Int).sum = 0 from rfl, show Builtin.Int.intBits 0 = 0 by decide +kernel]
    exact Nat.zero_le _
  | x :: r, h => by
    have h1 := h x List.mem_cons_self
    have h2 := sum_bits r fun z hz => h z (List.mem_cons_of_mem _ hz)
    have h3 := intBits_add_le h1 h2
    rw [List.sum_cons, List.length_cons]
    omega
theorem abs_bits {x : Int} {m : Nat} (h : Builtin.Int.intBits x ≤ m) : Builtin.Int.intBits (absI x) ≤ m := by
  unfold absI
  split
  · exact intBits_neg_le h
  · exact h
theorem lwhole_bits {ns : List Int} (h : ∀ z ∈ ns, Builtin.Int.intBits z ≤ 1048576) : Builtin.Int.intBits (lwhole ns) ≤ 1048640 := by
  refine abs_bits (Nat.le_trans (sum_bits (ns.take 63) fun z hz => h z (List.mem_of_mem_take hz)) ?_)
  rw [List.length_take]
  omega
end Pw
namespace Pw
open PySem PySem.Spec PyProof.Rows L2 Evl
section
variable {K : PySem.W.Frag} {σ : L2.St} {H H' : Hp} {ta tb tc te te2 : TE} {x y z v : V} {D : Ends} {tz tu : TS}
/-- for i in reversed(range(n)) -/
theorem q_forRev {j : Nat} {n : Nat} (h : Ev te σ H (.int (n : Int))) (hn : n ≤ 100000) (Pv : Nat → L2.St → Hp → Prop) (h0 : ∀ H1, Ex H H1 → Pv 0 σ H1)
    (hs : ∀ (i : Nat) σ' H', i < n → Pv i σ' H' → tu { D with nx := Pv (i + 1), ct := Pv (i + 1), bk := tz D } (σ'.set j (some (.int ((n - 1 - i : Nat) : Int)))) H') (hd : ∀ σ' H', Pv n σ' H' → tz D σ' H') : tSeq (tFor (iRevR (tRg1 te)) (gName j) tu) tz D σ H :=
  h H (Ex.refl H) _ fun H1 e => ⟨(n : Int), rfl, by omega, by omega, by omega, by omega, by
    have e1 : ((n : Int) - 0).toNat = n := by omega
    rw [e1]
    refine for_rangeC (D := { D with nx := tz D }) (lo := 0 + (n : Int) - 1) (c := -1) (n := n) Pv (h0 H1 e) (fun i σ' H' hi p => ?_) hd
    have e2 : 0 + (n : Int) - 1 + ((i : Nat) : Int) * -1 = ((n - 1 - i : Nat) : Int) := by omega
    rw [e2]
    exact hs i σ' H' hi p⟩
/-- x[i] = e, x a name; what follows -/
theorem call_min3 {X : Cx} (hc : X.calm = true) : CallR X (.builtin "min") (fun xs H Q => ∃ i j k : Int, xs = [.int i, .int j, .int k] ∧ Q (.int (if j < i then (if k < j then k else j) else (if k < i then k else i))) H) := by
  intro pins s σ H xs us Q I r h
  obtain ⟨i, j, k, rfl, q⟩ := h
  cases r with
  | cons r1 r =>
    cases r with
    | cons r2 r =>
      cases r with
      | cons r3 r =>
        cases r
        obtain ⟨t1, rfl⟩ := r1
        obtain ⟨t2, rfl⟩ := r2
        obtain ⟨t3, rfl⟩ := r3
        refine min_three_ints (I.ok.hd hc) fun h' tk kk => ⟨_, H, I.kept kk, ?_, q⟩
        by_cases h1 : j < i
        · rw [if_pos h1, if_pos h1]
          by_cases h2 : k < j
          · rw [if_pos h2, if_pos h2]; exact ⟨_, rfl⟩
          · rw [if_neg h2, if_neg h2]; exact ⟨_, rfl⟩
        · rw [if_neg h1, if_neg h1]
          by_cases h2 : k < i
          · rw [if_pos h2, if_pos h2]; exact ⟨_, rfl⟩
          · rw [if_neg h2, if_neg h2]; exact ⟨_, rfl⟩
theorem min3_if {a b c : Nat} : (if (b : Int) < (a : Int) then (if (c : Int) < (b : Int) then (c : Int) else (b : Int)) else (if (c : Int) < (a : Int) then (c : Int) else (a : Int))) = ((min a (min b c) : Nat) : Int) := by
  split <;> split <;> omega
theorem rc_min3 {a b c : Nat} : RC (fun vs H Q => ∃ i j k : Int, vs = [V.int i, V.int j, V.int k] ∧ Q (.int (if j < i then (if k < j then k else j) else (if k < i then k else i))) H) [.int (a : Int), .int (b : Int), .int (c : Int)] H (.int ((min a (min b c) : Nat) : Int)) := fun H1 _ _ q => ⟨_, _, _, rfl, by
  rw [min3_if]
  exact q H1 (Ex.refl H1)⟩
end
end Pw

namespace Pw
open PySem PySem.Spec PyProof.Rows L2 Evl
section
variable {K : PySem.W.Frag} {σ : L2.St} {H H' : Hp} {ta tb tc te te2 : TE} {t u : TT} {x y z v : V} {r r' : R2} {D : Ends} {tz tu : TS} {wi : TI} {g : TG} {n : Nat} {Y : Nat → Hp → V → Hp → Prop}
/-! ### what is walked, of any kind -/
def EvI (wi : TI) (σ : L2.St) (H : Hp) (n : Nat) (Y : Nat → Hp → V → Hp → Prop) : Prop := ∀ H1, Ex H H1 → ∀ R : It → Hp → Prop, (∀ J G H2, Walk J n G Y → (∀ H3, Ex H2 H3 → G H3) → Ex H1 H2 → R J H2) → wi σ H1 R
/-- the same, what it leans on being told -/
def EvG (wi : TI) (σ : L2.St) (H : Hp) (n : Nat) (G : Hp → Prop) (Y : Nat → Hp → V → Hp → Prop) : Prop := ∀ H1, Ex H H1 → ∀ R : It → Hp → Prop, (∀ J H2, Walk J n G Y → Ex H1 H2 → R J H2) → wi σ H1 R
/-- over a new list of xs -/
def EvN (wi : TI) (σ : L2.St) (H : Hp) (xs : List V) (n : Nat) (Y : Nat → Hp → V → Hp → Prop) : Prop := ∀ H1, Ex H H1 → ∀ R : It → Hp → Prop, (∀ p J H2, H1 p = none → H2 p = some (.lst xs) → Walk J n (fun H => SqL K H p xs) Y → Ex H1 H2 → R J H2) → wi σ H1 R
theorem EvG.i {G : Hp → Prop} (h : EvG wi σ H n G Y) (hG : ∀ H1, Ex H H1 → G H1) : EvI wi σ H n Y := fun H1 e R q => h H1 e R fun J H2 w e2 => q J G H2 w (fun H3 e3 => hG H3 ((e.trans e2).trans e3)) e2
theorem EvN.i {xs : List V} (h : EvN (K := K) wi σ H xs n Y) : EvI wi σ H n Y := fun H1 e R q => h H1 e R fun p J H2 np hp w e2 => q J _ H2 w (fun H3 e3 => sq_of (e3 p _ hp)) e2
theorem eg_list {a : Addr} {xs : List V} (h : Ev te σ H (.ref a)) (hx : SqL K H a xs) : EvG (iList K te) σ H xs.length (fun H => SqL K H a xs) (YAt xs) := fun H1 e R q => h H1 e _ fun H2 e2 => ⟨a, rfl, ⟨xs, ex_l (e.trans e2) hx⟩, q _ H2 walk_list e2⟩
theorem en_list {xs : List V} (h : EvL te σ H xs) : EvN (K := K) (iList K te) σ H xs xs.length (YAt xs) := fun H1 e R q => h H1 e _ fun p H2 np e2 hp => ⟨p, rfl, ⟨xs, sq_of hp⟩, q p _ H2 np hp walk_list e2⟩
theorem eg_tup {a : Addr} {xs : List V} (h : Ev te σ H (.ref a)) (hx : SqT K H a xs) : EvG (iTup K te) σ H xs.length (fun H => SqT K H a xs) (YAt xs) := fun H1 e R q => h H1 e _ fun H2 e2 => ⟨a, rfl, ⟨xs, ex_t (e.trans e2) hx⟩, q _ H2 walk_tup e2⟩
theorem eg_enum {a : Addr} {xs : List V} {tA : TA} (h : EvA tA σ H [.ref a]) (hx : SqL K H a xs) : EvG (iEnum K tA) σ H xs.length (fun H => SqL K H a xs) (YPair (fun i => some (.int (i : Nat))) (fun i => xs[i]?)) := fun H1 e R q => h H1 e _ fun H2 e2 => ⟨a, xs, rfl, ex_l (e.trans e2) hx, q _ H2 walk_enum e2⟩
theorem en_enum {xs : List V} (h : EvL te σ H xs) : EvN (K := K) (iEnum K (tCons te tNil)) σ H xs xs.length (YPair (fun i => some (.int (i : Nat))) (fun i => xs[i]?)) := fun H1 e R q => h H1 e _ fun p H2 np e2 hp => ⟨p, xs, rfl, sq_of hp, q p _ H2 np hp walk_enum e2⟩
theorem eg_zip {a b : Addr} {xs ys : List V} {tA : TA} (h : EvA tA σ H [.ref a, .ref b]) (hx : SqL K H a xs) (hy : SqL K H b ys) : EvG (iZip K tA) σ H (min xs.length ys.length) (fun H => SqL K H a xs ∧ SqL K H b ys) (YPair (fun i => xs[i]?) (fun i => ys[i]?)) :=
  fun H1 e R q => h H1 e _ fun H2 e2 => ⟨a, b, xs, ys, rfl, ex_l (e.trans e2) hx, ex_l (e.trans e2) hy, q _ H2 (walk_zip rfl) e2⟩
theorem ei_zip {a b : Addr} {xs ys : List V} {tA : TA} (h : EvA tA σ H [.ref a, .ref b]) (hx : SqL K H a xs) (hy : SqL K H b ys) : EvI (iZip K tA) σ H (min xs.length ys.length) (YPair (fun i => xs[i]?) (fun i => ys[i]?)) :=
  (eg_zip h hx hy).i fun H1 e => ⟨ex_l e hx, ex_l e hy⟩
/-- zip of what may be new -/
theorem ei_zipP {xs ys : List V} {tA : TA} {P : List V → Hp → Prop} (h : EvAP tA σ H P) (hP : ∀ vs H1, Ex H H1 → P vs H1 → ∃ a b, vs = [.ref a, .ref b] ∧ ∀ H2, Ex H1 H2 → SqL K H2 a xs ∧ SqL K H2 b ys) : EvI (iZip K tA) σ H (min xs.length ys.length) (YPair (fun i => xs[i]?) (fun i => ys[i]?)) := fun H1 e R q => h H1 e _ fun vs H2 e2 hp => by
  obtain ⟨a, b, rfl, h1⟩ := hP vs H2 (e.trans e2) hp
  exact ⟨a, b, xs, ys, rfl, (h1 H2 (Ex.refl _)).1, (h1 H2 (Ex.refl _)).2, q _ _ H2 (walk_zip rfl) h1 e2⟩
/-! ### comprehensions over it -/
theorem el_comp {vs : List Nat} (f : Nat → Bool) (v : Nat → V) (h : EvI wi σ H n Y) (hn : n ≤ 40000)
    (ht : ∀ i x H1 H2, Ex H H1 → i < n → Y i H1 x H2 → g x (wipe σ vs) H2 fun σ2 H3 => Ex H1 H3 ∧ wipe σ2 vs = wipe σ vs ∧ EvT t σ2 H (f i) ∧ (f i = true → Ev te σ2 H (v i)))
    (gm : ∀ x σ H Q Q', (∀ σ2 H2, Q σ2 H2 → Q' σ2 H2) → g x σ H Q → g x σ H Q') : EvL (tLc wi g t te vs) σ H (given n f v) := fun H0 e Q q => h H0 e _ fun J G H1 w hG e1 Dl hD =>
  lc_it w (Cw H1 f v Dl) ⟨hD, Ex.new hD, upd_same⟩ (fun i H' _ p => hG H' p.2.1) (fun i x H2 H3 hi p y => by
    refine gm _ _ _ _ _ (fun σ2 H4 z => ?_) (ht i x H2 H3 ((e.trans e1).trans p.2.1) hi y)
    obtain ⟨e4, z1, z2, z3⟩ := z
    have p' : Cw H1 f v Dl i H4 := ⟨p.1, p.2.1.trans e4, e4 _ _ p.2.2⟩
    exact ⟨z1, cw_turn p' (by omega) (z2.mono (e.trans e1)) fun hf => (z3 hf).mono (e.trans e1)⟩) (fun H' p => q Dl H' (fresh_back e1 p.1) (e1.trans p.2.1) p.2.2)
theorem gm_name {i : Nat} : ∀ x σ H (Q Q' : L2.St → Hp → Prop), (∀ σ2 H2, Q σ2 H2 → Q' σ2 H2) → gName i x σ H Q → gName i x σ H Q' := fun _ _ _ _ _ q h => q _ _ h
theorem gm_tup2 {i j : Nat} : ∀ x σ H (Q Q' : L2.St → Hp → Prop), (∀ σ2 H2, Q σ2 H2 → Q' σ2 H2) → gTup K 2 (gCons (gName i) (gCons (gName j) gNil)) x σ H Q → gTup K 2 (gCons (gName i) (gCons (gName j) gNil)) x σ H Q' := fun _ _ _ _ _ q h => by
  obtain ⟨a, xs, e, h1, h2, v, r, h3, v2, r2, h4, h5, h6⟩ := h
  exact ⟨a, xs, e, h1, h2, v, r, h3, v2, r2, h4, h5, q _ _ h6⟩
theorem gm_tup3 {i j l : Nat} : ∀ x σ H (Q Q' : L2.St → Hp → Prop), (∀ σ2 H2, Q σ2 H2 → Q' σ2 H2) → gTup K 3 (gCons (gName i) (gCons (gName j) (gCons (gName l) gNil))) x σ H Q → gTup K 3 (gCons (gName i) (gCons (gName j) (gCons (gName l) gNil))) x σ H Q' := fun _ _ _ _ _ q h => by
  obtain ⟨a, xs, e, h1, h2, v, r, h3, v2, r2, h4, v3, r3, h5, h6, h7⟩ := h
  exact ⟨a, xs, e, h1, h2, v, r, h3, v2, r2, h4, v3, r3, h5, h6, q _ _ h7⟩
/-! ### tuples taken apart -/
theorem g_tup2 {a : Addr} {i j : Nat} {Q : L2.St → Hp → Prop} (h : SqT K H a [x, y]) (k : Q ((σ.set i (some x)).set j (some y)) H) : gTup K 2 (gCons (gName i) (gCons (gName j) gNil)) (.ref a) σ H Q := ⟨a, _, rfl, h, rfl, x, _, rfl, y, _, rfl, rfl, k⟩
theorem g_tup3 {a : Addr} {i j l : Nat} {Q : L2.St → Hp → Prop} (h : SqT K H a [x, y, z]) (k : Q (((σ.set i (some x)).set j (some y)).set l (some z)) H) : gTup K 3 (gCons (gName i) (gCons (gName j) (gCons (gName l) gNil))) (.ref a) σ H Q :=
  ⟨a, _, rfl, h, rfl, x, _, rfl, y, _, rfl, z, _, rfl, rfl, k⟩
theorem q_unp2 {a : Addr} {i j : Nat} (h : Ev te σ H (.ref a)) (hx : SqT K H a [x, y]) (k : ∀ H1, Ex H H1 → tz D ((σ.set i (some x)).set j (some y)) H1) : tSeq (tAsg te (gTup K 2 (gCons (gName i) (gCons (gName j) gNil)))) tz D σ H := h H (Ex.refl H) _ fun H1 e => g_tup2 (ex_t e hx) (k H1 e)
theorem q_unp3 {a : Addr} {i j l : Nat} (h : Ev te σ H (.ref a)) (hx : SqT K H a [x, y, z]) (k : ∀ H1, Ex H H1 → tz D (((σ.set i (some x)).set j (some y)).set l (some z)) H1) : tSeq (tAsg te (gTup K 3 (gCons (gName i) (gCons (gName j) (gCons (gName l) gNil))))) tz D σ H :=
  h H (Ex.refl H) _ fun H1 e => g_tup3 (ex_t e hx) (k H1 e)
/-- [e for i, x in enumerate(xs) if ..] -/
theorem el_pair {vs : List Nat} {i j : Nat} {f1 f2 : Nat → Option V} (f : Nat → Bool) (v : Nat → V) (h : EvI wi σ H n (YPair f1 f2)) (hn : n ≤ 40000) (hw : ∀ x y, wipe (((wipe σ vs).set i (some x)).set j (some y)) vs = wipe σ vs)
    (ht : ∀ m x y, m < n → f1 m = some x → f2 m = some y → EvT t (((wipe σ vs).set i (some x)).set j (some y)) H (f m) ∧ (f m = true → Ev te (((wipe σ vs).set i (some x)).set j (some y)) H (v m))) :
    EvL (tLc wi (gTup K 2 (gCons (gName i) (gCons (gName j) gNil))) t te vs) σ H (given n f v) :=
  el_comp f v h hn (fun m x H1 H2 e hm y => by
    obtain ⟨T, x1, x2, rfl, nT, rfl, h1, h2⟩ := y
    have z := ht m x1 x2 hm h1 h2
    exact g_tup2 (st_of upd_same) ⟨Ex.new nT, hw _ _, z.1, z.2⟩) gm_tup2
/-- over a list or tuple, by a name -/
theorem el_one {vs : List Nat} {j : Nat} {xs : List V} (f : Nat → Bool) (v : Nat → V) (h : EvI wi σ H xs.length (YAt xs)) (hn : xs.length ≤ 40000) (hw : ∀ x, wipe ((wipe σ vs).set j (some x)) vs = wipe σ vs)
    (ht : ∀ m x, xs[m]? = some x → EvT t ((wipe σ vs).set j (some x)) H (f m) ∧ (f m = true → Ev te ((wipe σ vs).set j (some x)) H (v m))) :
    EvL (tLc wi (gName j) t te vs) σ H (given xs.length f v) :=
  el_comp f v h hn (fun m x H1 H2 e hm y => by
    obtain ⟨rfl, h1⟩ := y
    have z := ht m x h1
    exact ⟨Ex.refl _, hw _, z.1, z.2⟩) gm_name
/-- over a list of tuples of three -/
theorem el_trip {vs : List Nat} {i j l : Nat} {xs : List V} (f : Nat → Bool) (v : Nat → V) (h : EvI wi σ H xs.length (YAt xs)) (hn : xs.length ≤ 40000) (hw : ∀ x y z, wipe ((((wipe σ vs).set i (some x)).set j (some y)).set l (some z)) vs = wipe σ vs)
    (ht : ∀ m w, xs[m]? = some w → ∃ a x y z, w = .ref a ∧ SqT K H a [x, y, z] ∧ EvT t ((((wipe σ vs).set i (some x)).set j (some y)).set l (some z)) H (f m) ∧ (f m = true → Ev te ((((wipe σ vs).set i (some x)).set j (some y)).set l (some z)) H (v m))) :
    EvL (tLc wi (gTup K 3 (gCons (gName i) (gCons (gName j) (gCons (gName l) gNil)))) t te vs) σ H (given xs.length f v) :=
  el_comp f v h hn (fun m x H1 H2 e hm y => by
    obtain ⟨rfl, h1⟩ := y
    obtain ⟨a, x, y, z, rfl, ha, z1, z2⟩ := ht m x h1
    exact g_tup3 (ex_t e ha) ⟨Ex.refl _, hw _ _ _, z1, z2⟩) gm_tup3
/-! ### for, over it -/
theorem s_forG {G : Hp → Prop} (h : EvG wi σ H n G Y) (Pv : Nat → L2.St → Hp → Prop) (h0 : ∀ H1, Ex H H1 → Pv 0 σ H1) (hG : ∀ i σ' H', i ≤ n → Pv i σ' H' → G H')
    (hs : ∀ i x σ' H' H2, i < n → Pv i σ' H' → Y i H' x H2 → g x σ' H2 fun σ2 H2 => tu { D with nx := Pv (i + 1), ct := Pv (i + 1), bk := D.nx } σ2 H2) (hd : ∀ σ' H', Pv n σ' H' → D.nx σ' H') : tFor wi g tu D σ H :=
  h H (Ex.refl H) _ fun J H1 w e => for_it w Pv (h0 H1 e) hG hs hd
theorem q_forG {G : Hp → Prop} (h : EvG wi σ H n G Y) (Pv : Nat → L2.St → Hp → Prop) (h0 : ∀ H1, Ex H H1 → Pv 0 σ H1) (hG : ∀ i σ' H', i ≤ n → Pv i σ' H' → G H')
    (hs : ∀ i x σ' H' H2, i < n → Pv i σ' H' → Y i H' x H2 → g x σ' H2 fun σ2 H2 => tu { D with nx := Pv (i + 1), ct := Pv (i + 1), bk := tz D } σ2 H2) (hd : ∀ σ' H', Pv n σ' H' → tz D σ' H') : tSeq (tFor wi g tu) tz D σ H := s_forG (D := { D with nx := tz D }) h Pv h0 hG hs hd
theorem s_forN {xs : List V} (h : EvN (K := K) wi σ H xs n Y) (Pv : Addr → Nat → L2.St → Hp → Prop) (h0 : ∀ p H1, H p = none → Ex H H1 → H1 p = some (.lst xs) → Pv p 0 σ H1) (hG : ∀ p i σ' H', i ≤ n → Pv p i σ' H' → SqL K H' p xs)
    (hs : ∀ p i x σ' H' H2, i < n → Pv p i σ' H' → Y i H' x H2 → g x σ' H2 fun σ2 H2 => tu { D with nx := Pv p (i + 1), ct := Pv p (i + 1), bk := D.nx } σ2 H2) (hd : ∀ p σ' H', Pv p n σ' H' → D.nx σ' H') : tFor wi g tu D σ H :=
  h H (Ex.refl H) _ fun p J H1 np hp w e => for_it w (Pv p) (h0 p H1 np e hp) (hG p) (hs p) (hd p)
theorem q_forN {xs : List V} (h : EvN (K := K) wi σ H xs n Y) (Pv : Addr → Nat → L2.St → Hp → Prop) (h0 : ∀ p H1, H p = none → Ex H H1 → H1 p = some (.lst xs) → Pv p 0 σ H1) (hG : ∀ p i σ' H', i ≤ n → Pv p i σ' H' → SqL K H' p xs)
    (hs : ∀ p i x σ' H' H2, i < n → Pv p i σ' H' → Y i H' x H2 → g x σ' H2 fun σ2 H2 => tu { D with nx := Pv p (i + 1), ct := Pv p (i + 1), bk := tz D } σ2 H2) (hd : ∀ p σ' H', Pv p n σ' H' → tz D σ' H') : tSeq (tFor wi g tu) tz D σ H := s_forN (D := { D with nx := tz D }) h Pv h0 hG hs hd
/-- the turn over pairs: a, b named -/
theorem g_pair {i j m : Nat} {f1 f2 : Nat → Option V} {Q : L2.St → Hp → Prop} {H2 : Hp} (h : YPair f1 f2 m H x H2) (k : ∀ y z H3, f1 m = some y → f2 m = some z → Ex H H3 → Q ((σ.set i (some y)).set j (some z)) H3) : gTup K 2 (gCons (gName i) (gCons (gName j) gNil)) x σ H2 Q := by
  obtain ⟨T, x1, x2, rfl, nT, rfl, h1, h2⟩ := h
  exact g_tup2 (st_of upd_same) (k x1 x2 _ h1 h2 (Ex.new nT))
/-! ### items by whole numbers -/
theorem rv_atN {a : Addr} {ns : List Int} {i : Int} (h : SqL K H a (ns.map V.int)) (h0 : 0 ≤ i) (h1 : i < ns.length) : RV (rIxL K) (.ref a) (.int i) H (.int (sq ns i.toNat)) := rv_at h (by omega) (by omega)
theorem atI_last {α : Type} {xs : List α} {v : α} (h : xs[xs.length - 1]? = some v) (h0 : 0 < xs.length) : atI xs (-1) = some v := by
  unfold atI ixN
  rw [if_neg (by decide), if_pos (by omega)]
  show xs[_]? = some v
  rw [← h]
  congr 1
  omega
/-! ### data, compared -/
mutual
theorem dp_ex (e : Ex H H') : ∀ {v : V} {d : PyData}, Dp K H v d → Dp K H' v d
  | _, _, .non => .non
  | _, _, .bl b => .bl b
  | _, _, .int i => .int i
  | _, _, .str s => .str s
  | _, _, .lst h k => .lst (ex_l e h) (dpa_ex e k)
  | _, _, .tup h k => .tup (ex_t e h) (dpa_ex e k)
theorem dpa_ex (e : Ex H H') : ∀ {vs : List V} {ds : List PyData}, DpAll K H vs ds → DpAll K H' vs ds
  | _, _, .nil => .nil
  | _, _, .cons h k => .cons (dp_ex e h) (dpa_ex e k)
end
theorem eqv_self {d : PyData} (h : SeqAt.shaped d = true) : PyData.eqv d d = true := SeqAt.eqv_refl d (SeqAt.canLay_of_shaped h)
theorem rv_eqSame {d : PyData} (hx : Dp K H x d) (hy : Dp K H y d) (h : SeqAt.shaped d = true) : RV (rEqD K) x y H (.bl true) := fun H1 e Q q =>
  ⟨d, d, dp_ex e hx, dp_ex e hy, h, h, by rw [eqv_self h]; exact q H1 (Ex.refl H1)⟩
theorem rv_neSame {d : PyData} (hx : Dp K H x d) (hy : Dp K H y d) (h : SeqAt.shaped d = true) : RV (rNeD K) x y H (.bl false) := fun H1 e Q q =>
  ⟨d, d, dp_ex e hx, dp_ex e hy, h, h, by rw [eqv_self h]; exact q H1 (Ex.refl H1)⟩
theorem rv_eqDat {d e : PyData} (hx : Dp K H x d) (hy : Dp K H y e) (h : SeqAt.shaped d = true) (h2 : SeqAt.shaped e = true) : RV (rEqD K) x y H (.bl (PyData.eqv d e)) := fun H1 e Q q =>
  ⟨_, _, dp_ex e hx, dp_ex e hy, h, h2, q H1 (Ex.refl H1)⟩
theorem rv_neDat {d e : PyData} (hx : Dp K H x d) (hy : Dp K H y e) (h : SeqAt.shaped d = true) (h2 : SeqAt.shaped e = true) : RV (rNeD K) x y H (.bl (!PyData.eqv d e)) := fun H1 e Q q =>
  ⟨_, _, dp_ex e hx, dp_ex e hy, h, h2, q H1 (Ex.refl H1)⟩
theorem dp_intsL {a : Addr} {ns : List Int} (h : SqL K H a (ns.map V.int)) : Dp K H (.ref a) (.list (ns.map PyData.int)) := .lst h (dp_ints ns)
theorem dp_intsT {a : Addr} {ns : List Int} (h : SqT K H a (ns.map V.int)) : Dp K H (.ref a) (.tuple (ns.map PyData.int)) := .tup h (dp_ints ns)
/-! ### what is a tuple -/
theorem rc_isi_tup {a : Addr} {xs : List V} {c : String} {b : Bool} (ha : H a = some (.tup xs)) (hb : kitB "tuple" c = some b) : RC (rIsi K) [.ref a, .ty c] H (.bl b) := rc_isi (.base (.tup ha)) (fun _ e => .base (.tup (e a _ ha))) hb
theorem rc_lenT {a : Addr} {xs : List V} (h : SqT K H a xs) : RC (rLenS K) [.ref a] H (.int (xs.length : Int)) := fun H1 e _ q => ⟨a, xs, rfl, .inr (ex_t e h), q H1 (Ex.refl H1)⟩
end
end Pw
namespace Pw
open PySem PySem.Spec PyProof.Rows L2 Evl
section
variable {K : PySem.W.Frag} {σ : L2.St} {H H' : Hp} {t1 t2 t3 t4 : TE} {D : Ends} {tz : TS}
/-- x = [list, list, list, list] -/
theorem q_asg4L {i : Nat} {xs1 xs2 xs3 xs4 : List V} (g1 : EvL t1 σ H xs1) (g2 : EvL t2 σ H xs2) (g3 : EvL t3 σ H xs3) (g4 : EvL t4 σ H xs4)
    (k : ∀ l q0 q1 q2 q3 H1, Ex H H1 → H1 l = some (.lst [.ref q0, .ref q1, .ref q2, .ref q3]) → H1 q0 = some (.lst xs1) → H1 q1 = some (.lst xs2) → H1 q2 = some (.lst xs3) → H1 q3 = some (.lst xs4) →
      (q0 ≠ q1 ∧ q0 ≠ q2 ∧ q0 ≠ q3 ∧ q1 ≠ q2 ∧ q1 ≠ q3 ∧ q2 ≠ q3 ∧ l ≠ q0 ∧ l ≠ q1 ∧ l ≠ q2 ∧ l ≠ q3) → H q0 = none → H q1 = none → H q2 = none → H q3 = none → H l = none → tz D (σ.set i (some (.ref l))) H1) :
    tSeq (tAsg (tLst (tCons t1 (tCons t2 (tCons t3 (tCons t4 tNil))))) (gName i)) tz D σ H :=
  g1 H (Ex.refl H) _ fun q0 H1 n0 e1 h0 => g2 H1 e1 _ fun q1 H2 n1 e2 h1 => g3 H2 (e1.trans e2) _ fun q2 H3 n2 e3 h2 => g4 H3 ((e1.trans e2).trans e3) _ fun q3 H4 n3 e4 h3 => ⟨by show 4 ≤ sizeLine; decide, fun l nl => by
    have a0 := e4 _ _ (e3 _ _ (e2 _ _ h0))
    have a1 := e4 _ _ (e3 _ _ h1)
    have a2 := e4 _ _ h2
    have E := ((e1.trans e2).trans e3).trans e4
    exact k l q0 q1 q2 q3 _ (E.trans (Ex.new nl)) upd_same (by rw [upd_ne (ne_of_none a0 nl)]; exact a0) (by rw [upd_ne (ne_of_none a1 nl)]; exact a1) (by rw [upd_ne (ne_of_none a2 nl)]; exact a2) (by rw [upd_ne (ne_of_none h3 nl)]; exact h3)
      ⟨ne_of_none h0 n1, ne_of_none (e2 _ _ h0) n2, ne_of_none (e3 _ _ (e2 _ _ h0)) n3, ne_of_none h1 n2, ne_of_none (e3 _ _ h1) n3, ne_of_none h2 n3, Ne.symm (ne_of_none a0 nl), Ne.symm (ne_of_none a1 nl), Ne.symm (ne_of_none a2 nl), Ne.symm (ne_of_none h3 nl)⟩
      n0 (fresh_back e1 n1) (fresh_back (e1.trans e2) n2) (fresh_back ((e1.trans e2).trans e3) n3) (fresh_back E nl)⟩
end
end Pw
namespace Pw
open PySem PySem.Spec PyProof.Rows L2 Evl
section
variable {K : PySem.W.Frag} {σ : L2.St} {H H' : Hp} {ta tb tc te te2 : TE} {x y z v : V} {D : Ends} {tz tu : TS} {xs : List V}
theorem el_slL {tl th : TO} {lo hi : Option Int} (h : EvL te σ H xs) (h1 : EvO tl σ H lo) (h2 : EvO th σ H hi) : EvL (tSl (rSlL K) te tl th) σ H (cutV xs lo hi) := fun H1 e _ q =>
  h H1 e _ fun a H2 n2 e2 ha => h1 H2 (e.trans e2) _ fun H3 e3 => h2 H3 ((e.trans e2).trans e3) _ fun H4 e4 =>
    ⟨a, xs, rfl, sq_of (e4 _ _ (e3 _ _ ha)), fun p hp => q p _ (fresh_back ((e2.trans e3).trans e4) hp) (((e2.trans e3).trans e4).trans (Ex.new hp)) upd_same⟩
/-- a, b = e, e2 by a tuple -/
theorem q_asgTII {i j : Nat} (h1 : Ev te σ H x) (h2 : Ev te2 σ H y) (k : ∀ H1, Ex H H1 → tz D ((σ.set i (some x)).set j (some y)) H1) :
    tSeq (tAsg (tTup (tCons te (tCons te2 tNil))) (gTup K 2 (gCons (gName i) (gCons (gName j) gNil)))) tz D σ H :=
  h1 H (Ex.refl H) _ fun H1 e1 => h2 H1 e1 _ fun H2 e2 => ⟨by show 2 ≤ sizeLine; decide, fun t ht => ⟨t, _, rfl, st_of upd_same, rfl, x, _, rfl, y, _, rfl, rfl, k _ ((e1.trans e2).trans (Ex.new ht))⟩⟩
end
theorem any_falses {n : Nat} : ((List.range n).map fun _ => false).any id = false := by
  rw [List.any_eq_false]
  intro x hx
  obtain ⟨_, _, rfl⟩ := List.mem_map.mp hx
  exact Bool.false_ne_true
/-! ### shapes of data -/
structure Fit (n : Nat) (d : PyData) : Prop where
  lay : d.canLay0 = true
  dep : d.depth ≤ n
theorem fit_all {n : Nat} : ∀ {ds : List PyData}, (∀ d ∈ ds, Fit n d) → PyData.canLayAll0 ds = true ∧ PyData.depthAll ds ≤ n
  | [], _ => ⟨rfl, Nat.zero_le _⟩
  | d :: r, h => by
    have h1 := h d List.mem_cons_self
    have h2 := fit_all fun x hx => h x (List.mem_cons_of_mem _ hx)
    refine ⟨?_, ?_⟩
    · rw [PyData.canLayAll0, h1.lay, h2.1]
      rfl
    · have := h1.dep
      simp only [PyData.depthAll]
      omega
theorem fit_list {n : Nat} {ds : List PyData} (h : ∀ d ∈ ds, Fit n d) : Fit (n + 1) (.list ds) := ⟨by rw [PyData.canLay0]; exact (fit_all h).1, by simp only [PyData.depth]; have := (fit_all h).2; omega⟩
theorem fit_tuple {n : Nat} {ds : List PyData} (h : ∀ d ∈ ds, Fit n d) : Fit (n + 1) (.tuple ds) := ⟨by rw [PyData.canLay0]; exact (fit_all h).1, by simp only [PyData.depth]; have := (fit_all h).2; omega⟩
theorem fit_int {n : Nat} (i : Int) : Fit n (.int i) := ⟨rfl, Nat.zero_le _⟩
theorem Fit.le {n m : Nat} {d : PyData} (h : Fit n d) (e : n ≤ m) : Fit m d := ⟨h.lay, Nat.le_trans h.dep e⟩
theorem fit_ints {n : Nat} (ns : List Int) : Fit (n + 1) (.list (ns.map PyData.int)) := fit_list fun d hd => by
  obtain ⟨i, _, rfl⟩ := List.mem_map.mp hd
  exact fit_int i
theorem Fit.shaped {n : Nat} {d : PyData} (h : Fit n d) (e : n ≤ 64) : SeqAt.shaped d = true := by
  have := h.dep
  unfold SeqAt.shaped
  rw [h.lay, decide_eq_true (by omega)]
  rfl
end Pw
namespace Pw
open PySem PySem.Spec PyProof.Rows L2 Evl
theorem rc_max {H : Hp} {i j : Int} : RC (fun vs H Q => ∃ i j, vs = [V.int i, V.int j] ∧ Q (.int (if j > i then j else i)) H) [.int i, .int j] H (.int (if j > i then j else i)) := fun H1 _ _ q => ⟨i, j, rfl, q H1 (Ex.refl H1)⟩
end Pw
namespace Pw
open PySem PySem.Spec PyProof.Rows L2 Evl
section
variable {K : PySem.W.Frag} {σ : L2.St} {H H' : Hp} {ta tb te : TE} {a b : Addr} {xs : List Int}
/-! ### lists of ints that are the same -/
theorem rv_neI (h1 : SqL K H a (xs.map V.int)) (h2 : SqL K H b (xs.map V.int)) : RV (rNeD K) (.ref a) (.ref b) H (.bl false) := by
  have g := rv_neL (ns := xs) (ms := xs) h1 h2
  rw [decide_eq_true rfl] at g
  exact g
theorem rv_eqI (h1 : SqL K H a (xs.map V.int)) (h2 : SqL K H b (xs.map V.int)) : RV (rEqD K) (.ref a) (.ref b) H (.bl true) := by
  have g := rv_eqL (ns := xs) (ms := xs) h1 h2
  rw [decide_eq_true rfl] at g
  exact g
theorem et_neV (ha : Ev ta σ H (.ref a)) (hb : Ev tb σ H (.ref b)) (h1 : SqL K H a (xs.map V.int)) (h2 : SqL K H b (xs.map V.int)) : EvT (tTest (tOp (rNeD K) ta tb)) σ H false := et_test (ev_op ha hb (rv_neI h1 h2))
theorem et_neVL (ha : Ev ta σ H (.ref a)) (hb : EvL tb σ H (xs.map V.int)) (h1 : SqL K H a (xs.map V.int)) : EvT (tTest (tOp (rNeD K) ta tb)) σ H false := et_test (ev_opL ha hb fun _ _ h e => rv_neI (ex_l e h1) (sq_of h))
theorem et_neLV (ha : EvL ta σ H (xs.map V.int)) (hb : Ev tb σ H (.ref b)) (h2 : SqL K H b (xs.map V.int)) : EvT (tTest (tOp (rNeD K) ta tb)) σ H false := et_test (ev_opL1 ha (fun H1 e => hb.mono e) fun _ _ h e => rv_neI (sq_of h) (ex_l e h2))
theorem et_neLL (ha : EvL ta σ H (xs.map V.int)) (hb : EvL tb σ H (xs.map V.int)) : EvT (tTest (tOp (rNeD K) ta tb)) σ H false := et_test (ev_opLL ha hb fun _ _ _ h1 h2 e => rv_neI (sq_of h1) (sq_of h2))
theorem ev_eqLL (ha : EvL ta σ H (xs.map V.int)) (hb : EvL tb σ H (xs.map V.int)) : Ev (tOp (rEqD K) ta tb) σ H (.bl true) := ev_opLL ha hb fun _ _ _ h1 h2 e => rv_eqI (sq_of h1) (sq_of h2)
theorem ev_eqVL (ha : Ev ta σ H (.ref a)) (hb : EvL tb σ H (xs.map V.int)) (h1 : SqL K H a (xs.map V.int)) : Ev (tOp (rEqD K) ta tb) σ H (.bl true) := ev_opL ha hb fun _ _ h e => rv_eqI (ex_l e h1) (sq_of h)
theorem ev_eqLV (ha : EvL ta σ H (xs.map V.int)) (hb : Ev tb σ H (.ref b)) (h2 : SqL K H b (xs.map V.int)) : Ev (tOp (rEqD K) ta tb) σ H (.bl true) := ev_opL1 ha (fun H1 e => hb.mono e) fun _ _ h e => rv_eqI (sq_of h) (ex_l e h2)
theorem ev_eqV (ha : Ev ta σ H (.ref a)) (hb : Ev tb σ H (.ref b)) (h1 : SqL K H a (xs.map V.int)) (h2 : SqL K H b (xs.map V.int)) : Ev (tOp (rEqD K) ta tb) σ H (.bl true) := ev_op ha hb (rv_eqI h1 h2)
/-- ints that are the same -/
theorem et_neN {i : Int} (ha : Ev ta σ H (.int i)) (hb : Ev tb σ H (.int i)) : EvT (tTest (tOp rNe ta tb)) σ H false := et_test (ev_is (ev_op ha hb (rv_ne rfl)) (by rw [decide_eq_true rfl]; rfl))
theorem et_eqN {i j : Int} (ha : Ev ta σ H (.int i)) (hb : Ev tb σ H (.int j)) : EvT (tTest (tOp rEq ta tb)) σ H (decide (i = j)) := et_test (ev_is (ev_op ha hb (rv_eq rfl)) (by congr 1; exact decide_eq_decide.mpr ⟨fun z => V.int.inj z, fun z => by rw [z]⟩))
theorem et_neN' {i j : Int} (ha : Ev ta σ H (.int i)) (hb : Ev tb σ H (.int j)) : EvT (tTest (tOp rNe ta tb)) σ H (!decide (i = j)) := et_test (ev_is (ev_op ha hb (rv_ne rfl)) (by congr 2; exact decide_eq_decide.mpr ⟨fun z => V.int.inj z, fun z => by rw [z]⟩))
theorem ev_eqN {i j : Int} (ha : Ev ta σ H (.int i)) (hb : Ev tb σ H (.int j)) : Ev (tOp rEq ta tb) σ H (.bl (decide (i = j))) := ev_is (ev_op ha hb (rv_eq rfl)) (by congr 1; exact decide_eq_decide.mpr ⟨fun z => V.int.inj z, fun z => by rw [z]⟩)
theorem ev_neN {i j : Int} (ha : Ev ta σ H (.int i)) (hb : Ev tb σ H (.int j)) : Ev (tOp rNe ta tb) σ H (.bl (!decide (i = j))) := ev_is (ev_op ha hb (rv_ne rfl)) (by congr 2; exact decide_eq_decide.mpr ⟨fun z => V.int.inj z, fun z => by rw [z]⟩)
/-- arguments, new tuples among them -/
theorem eap_consU {tr : TA} {P : List V → Hp → Prop} {us : List V} (h : EvU te σ H us) (hr : EvAP tr σ H P) : EvAP (tCons te tr) σ H (fun vs H2 => ∃ p r, vs = .ref p :: r ∧ H2 p = some (.tup us) ∧ H p = none ∧ P r H2) := fun H1 e Q q =>
  h H1 e _ fun p H2 n2 e2 hp => hr H2 (e.trans e2) _ fun vs H3 e3 hP => q _ H3 (e2.trans e3) ⟨p, vs, rfl, e3 p _ hp, fresh_back e n2, hP⟩
/-- rows of rests, looked at place by place -/
theorem all_ok {te2 : TE} {tl : TE} {j : Nat} {vs : List Nat} (h : Ev tl σ H (.ref a)) (hx : SqL K H a (xs.map V.int)) (hz : xs.length ≤ 40000) (hw : ∀ x, wipe ((wipe σ vs).set j (some x)) vs = wipe σ vs)
    (he : ∀ (i : Nat) H1, Ex H H1 → i < xs.length → Ev te2 ((wipe σ vs).set j (some (.int (sq xs i)))) H1 (.bl true)) : Ev (tCB (rAll K) (tCons (tLc (iList K tl) (gName j) tYes te2 vs) tNil)) σ H (.bl true) :=
  ev_cbL (el_mapL (ns := xs) (fun _ => V.bl true) h hx hz hw he) fun p2 H2 h2 e2 => by
    rw [map_map_bl (f := fun _ => true)] at h2
    have g := rc_all (K := K) (sq_of h2)
    rw [all_true] at g
    exact g
theorem any_no {te2 : TE} {tl : TE} {j : Nat} {vs : List Nat} (h : Ev tl σ H (.ref a)) (hx : SqL K H a (xs.map V.int)) (hz : xs.length ≤ 40000) (hw : ∀ x, wipe ((wipe σ vs).set j (some x)) vs = wipe σ vs)
    (he : ∀ (i : Nat) H1, Ex H H1 → i < xs.length → Ev te2 ((wipe σ vs).set j (some (.int (sq xs i)))) H1 (.bl false)) : Ev (tCB (rAny K) (tCons (tLc (iList K tl) (gName j) tYes te2 vs) tNil)) σ H (.bl false) :=
  ev_cbL (el_mapL (ns := xs) (fun _ => V.bl false) h hx hz hw he) fun p2 H2 h2 e2 => by
    rw [map_map_bl (f := fun _ => false)] at h2
    have g := rc_any (K := K) (sq_of h2)
    rw [any_falses] at g
    exact g
end
end Pw
namespace Pw
open PySem PySem.Spec PyProof.Rows L2 Evl
local macro_rules | `(tactic| walk_at "sq") => `(tactic| first | assumption | exact sq_of (by assumption) | exact ex_l (by assumption) (by assumption) | exact ex_l (by assumption) (sq_of (by assumption)) | exact st_of (by assumption))
local macro_rules | `(tactic| walk_at "cond") => `(tactic| first | assumption | decide | (show (0 : Int) < _; omega) | (show (0 : Int) < _ ∧ _ < (1073741824 : Int); constructor <;> omega) | exact mul_l (by constructor <;> omega) | exact mul_r (by constructor <;> omega))
local macro_rules | `(tactic| walk_at "rv") => `(tactic| first | exact rv_I0 | exact rv_I (by walk_at "cond") | exact rv_eq rfl | exact rv_ne rfl | exact rv_eqL (by walk_at "sq") (by walk_at "sq") | exact rv_neL (by walk_at "sq") (by walk_at "sq") | exact rv_at (by walk_at "sq") (by omega) (by omega))
local macro_rules | `(tactic| walk_at "rc") => `(tactic| first | exact rc_lenI (by walk_at "sq") | exact rc_len (by walk_at "sq") | exact rc_minN | exact rc_min | exact rc_abs | exact rc_isi_int (by decide +kernel) | exact rc_isi_bl (by decide +kernel) | exact rc_isi_lst (by assumption) (by decide +kernel) | exact rc_sum (by walk_at "sq") | exact rc_all (by walk_at "sq") | exact rc_any (by walk_at "sq"))
local macro_rules | `(tactic| walk_at "ev") => `(tactic| first
  | exact ev_var rfl | exact ev_c | assumption | exact ea_nil
  | (refine' ea_cons ?a ?b; (case a => walk_at "ev"); (case b => walk_at "ev"))
  | (refine' ev_op ?a ?b ?c; (case a => walk_at "ev"); (case b => walk_at "ev"); (case c => walk_at "rv"))
  | (refine' ev_un ?a ?b; (case a => walk_at "ev"); (case b => exact ru_neg))
  | (refine' ev_cb ?a ?b; (case a => walk_at "ev"); (case b => walk_at "rc"))
  | (refine' ev_call ?a ?b; (case a => walk_at "ev"); (case b => walk_at "spv")))
local macro_rules | `(tactic| walk_at "et") => `(tactic| first
  | (refine' et_test ?a; (case a => walk_at "ev"))
  | (refine' et_B ?a; (case a => walk_at "ev"))
  | (refine' et_not ?a; (case a => walk_at "et")))
def topS (i : Nat) : Stmt := PySem.Challenge.pw_powerrows_k08_whole_grown.main.body.getD i (.Pass ⟨0, 0, 0, 0⟩)
abbrev s_is_number : Stmt := topS 8
abbrev nm_is_number : List Str := ["thing"]
theorem sc_is_number : FnScope nm_is_number ["thing"] (defScope s_is_number) := ⟨rfl, rfl, rfl, by decide +kernel, rfl, by decide +kernel, by decide +kernel⟩
abbrev s_is_within : Stmt := topS 9
abbrev nm_is_within : List Str := ["thing", "least", "most"]
theorem sc_is_within : FnScope nm_is_within ["thing", "least", "most"] (defScope s_is_within) := ⟨rfl, rfl, rfl, by decide +kernel, rfl, by decide +kernel, by decide +kernel⟩
abbrev s_is_rest : Stmt := topS 10
abbrev nm_is_rest : List Str := ["prime", "thing"]
theorem sc_is_rest : FnScope nm_is_rest ["prime", "thing"] (defScope s_is_rest) := ⟨rfl, rfl, rfl, by decide +kernel, rfl, by decide +kernel, by decide +kernel⟩
abbrev s_is_term : Stmt := topS 11
abbrev nm_is_term : List Str := ["prime", "thing", "rest", "shift", "power"]
theorem sc_is_term : FnScope nm_is_term ["prime", "thing"] (defScope s_is_term) := ⟨rfl, rfl, rfl, by decide +kernel, rfl, by decide +kernel, by decide +kernel⟩
abbrev s_are_terms : Stmt := topS 12
abbrev nm_are_terms : List Str := ["prime", "thing", "term"]
theorem sc_are_terms : FnScope nm_are_terms ["prime", "thing"] (defScope s_are_terms) := ⟨rfl, rfl, rfl, by decide +kernel, rfl, by decide +kernel, by decide +kernel⟩
abbrev s_need_prime : Stmt := topS 13
abbrev nm_need_prime : List Str := ["prime"]
theorem sc_need_prime : FnScope nm_need_prime ["prime"] (defScope s_need_prime) := ⟨rfl, rfl, rfl, by decide +kernel, rfl, by decide +kernel, by decide +kernel⟩
abbrev s_need_terms : Stmt := topS 14
abbrev nm_need_terms : List Str := ["prime", "terms"]
theorem sc_need_terms : FnScope nm_need_terms ["prime", "terms"] (defScope s_need_terms) := ⟨rfl, rfl, rfl, by decide +kernel, rfl, by decide +kernel, by decide +kernel⟩
abbrev s_need_count_within : Stmt := topS 15
abbrev nm_need_count_within : List Str := ["many", "least", "most"]
theorem sc_need_count_within : FnScope nm_need_count_within ["many", "least", "most"] (defScope s_need_count_within) := ⟨rfl, rfl, rfl, by decide +kernel, rfl, by decide +kernel, by decide +kernel⟩
abbrev s_product_place : Stmt := topS 17
abbrev nm_product_place : List Str := ["one", "other", "place", "first"]
theorem sc_product_place : FnScope nm_product_place ["one", "other", "place"] (defScope s_product_place) := ⟨rfl, rfl, rfl, by decide +kernel, rfl, by decide +kernel, by decide +kernel⟩
abbrev s_grown : Stmt := topS 19
abbrev nm_grown : List Str := ["prime", "terms", "many", "powers", "place"]
theorem sc_grown : FnScope nm_grown ["prime", "terms", "many"] (defScope s_grown) := ⟨rfl, rfl, rfl, by decide +kernel, rfl, by decide +kernel, by decide +kernel⟩
abbrev s_term_sum : Stmt := topS 20
abbrev nm_term_sum : List Str := ["terms", "powers", "place", "rest", "shift", "power"]
theorem sc_term_sum : FnScope nm_term_sum ["terms", "powers", "place"] (defScope s_term_sum) := ⟨rfl, rfl, rfl, by decide +kernel, rfl, by decide +kernel, by decide +kernel⟩
abbrev s_law_number : Stmt := topS 22
abbrev nm_law_number : List Str := ["_law_cell", "_law_at", "_law_whole", "_law_blend", "_law_more"]
theorem sc_law_number : FnScope nm_law_number ["_law_cell", "_law_at", "_law_whole"] (defScope s_law_number) := ⟨rfl, rfl, rfl, by decide +kernel, rfl, by decide +kernel, by decide +kernel⟩
abbrev s_law_prime : Stmt := topS 23
abbrev nm_law_prime : List Str := ["_law_script", "_law_by", "_law_primes", "_law_whole"]
theorem sc_law_prime : FnScope nm_law_prime ["_law_script", "_law_by"] (defScope s_law_prime) := ⟨rfl, rfl, rfl, by decide +kernel, rfl, by decide +kernel, by decide +kernel⟩
abbrev s_law_row : Stmt := topS 24
abbrev nm_law_row : List Str := ["_law_script", "_law_by", "_law_prime_here", "_law_most", "_law_cells", "_law_whole", "_law_found", "_law_at", "_law_number_here", "_law_rest"]
theorem sc_law_row : FnScope nm_law_row ["_law_script", "_law_by", "_law_prime_here", "_law_most"] (defScope s_law_row) := ⟨rfl, rfl, rfl, by decide +kernel, rfl, by decide +kernel, by decide +kernel⟩
abbrev s_law_times : Stmt := topS 25
abbrev nm_law_times : List Str := ["_law_prime_here", "_law_one", "_law_other", "_law_many", "_law_found", "_law_at", "_law_far", "_law_here"]
theorem sc_law_times : FnScope nm_law_times ["_law_prime_here", "_law_one", "_law_other"] (defScope s_law_times) := ⟨rfl, rfl, rfl, by decide +kernel, rfl, by decide +kernel, by decide +kernel⟩
abbrev s_law_terms : Stmt := topS 26
abbrev nm_law_terms : List Str := ["_law_script", "_law_by", "_law_prime_here", "_law_cells", "_law_whole", "_law_found", "_law_at", "_law_number_here", "_law_low", "_law_power", "_law_free"]
theorem sc_law_terms : FnScope nm_law_terms ["_law_script", "_law_by", "_law_prime_here"] (defScope s_law_terms) := ⟨rfl, rfl, rfl, by decide +kernel, rfl, by decide +kernel, by decide +kernel⟩
abbrev s_law_kept : Stmt := topS 27
abbrev nm_law_kept : List Str := ["_law_prime_here", "_law_terms_here", "_law_row_here", "_law_found", "_law_number_here", "_law_low", "_law_power", "_law_here", "_law_turn", "_law_at", "_law_one", "_law_told"]
theorem sc_law_kept : FnScope nm_law_kept ["_law_prime_here", "_law_terms_here", "_law_row_here"] (defScope s_law_kept) := ⟨rfl, rfl, rfl, by decide +kernel, rfl, by decide +kernel, by decide +kernel⟩
abbrev s_law : Stmt := topS 28
abbrev nm_law : List Str := ["_law_script", "_law_whole", "_law_by", "_law_prime_here", "_law_many", "_law_terms_here", "_law_handed", "_law_again", "_law_found", "_law_one", "_law_half", "_law_twigs"]
theorem sc_law : FnScope nm_law ["_law_script"] (defScope s_law) := ⟨rfl, rfl, rfl, by decide +kernel, rfl, by decide +kernel, by decide +kernel⟩
structure Blt (K : PySem.W.Frag) (mg : Str → Option Value) (a_PRIMES : Addr) (t_MOST_TERMS : Tok) (a_PowerError : Addr) (a_BadPrime : Addr) (a_BadCount : Addr) (a_BadTerms : Addr) : Prop where
  abs : mg "abs" = none
  all : mg "all" = none
  bool : mg "bool" = none
  enumerate : mg "enumerate" = none
  int : mg "int" = none
  isinstance : mg "isinstance" = none
  len : mg "len" = none
  list : mg "list" = none
  max : mg "max" = none
  min : mg "min" = none
  range : mg "range" = none
  sum : mg "sum" = none
  tuple : mg "tuple" = none
  PRIMES : mg "PRIMES" = some (.ref a_PRIMES)
  PRIMES_T : ∀ H : Hp, SqT K H a_PRIMES [V.int 2, V.int 3, V.int 5, V.int 7, V.int 11, V.int 13, V.int 17, V.int 19, V.int 23, V.int 29, V.int 31, V.int 37, V.int 41, V.int 43, V.int 47, V.int 53, V.int 59, V.int 61, V.int 67, V.int 71, V.int 73, V.int 79, V.int 83, V.int 89, V.int 97]
  MOST_TERMS : mg "MOST_TERMS" = some (.int 6 t_MOST_TERMS)
  PowerError : mg "PowerError" = some (.ref a_PowerError)
  PowerError_k : PySem.W.keepIn K (.ref a_PowerError) = true
  BadPrime : mg "BadPrime" = some (.ref a_BadPrime)
  BadPrime_k : PySem.W.keepIn K (.ref a_BadPrime) = true
  BadCount : mg "BadCount" = some (.ref a_BadCount)
  BadCount_k : PySem.W.keepIn K (.ref a_BadCount) = true
  BadTerms : mg "BadTerms" = some (.ref a_BadTerms)
  BadTerms_k : PySem.W.keepIn K (.ref a_BadTerms) = true
section
variable {P : Program} {w : World} {K : PySem.W.Frag} {mg : Str → Option Value} {base : Heap}
/-! ### is_number -/
def spIsNumber : Sp := fun vs H Q _ => ∃ i : Int, vs = [.int i] ∧ RetV (.bl true) H Q
theorem ok_is_number {f : Addr} {fd : FuncData} (D : Dat K mg "is_number" s_is_number ["thing"] f fd) {a_PRIMES : Addr} {t_MOST_TERMS : Tok} {a_PowerError : Addr} {a_BadPrime : Addr} {a_BadCount : Addr} {a_BadTerms : Addr} (B : Blt K mg a_PRIMES t_MOST_TERMS a_PowerError a_BadPrime a_BadCount a_BadTerms) : Cal P w K mg base CX0 "is_number" 1 ["thing"] spIsNumber := by
  refine D.cal (D.F.ok sc_is_number (fun vs H Q E h => ?_) (fun cdv A outer s H vs Q E hr h => ?_))
  · obtain ⟨i, rfl, _⟩ := h
    rfl
  · obtain ⟨i, rfl, q⟩ := h
    refine ⟨_, (pss_one (ps_ret (pe_and (pe_callB (r := rIsi K) call_isi (by rfl) B.isinstance (by decide +kernel) (pa_cons (pv 0) (pa_cons (pe_bltn (v := .ty "int") (by rfl) B.int (by decide +kernel) rfl) pa_nil))) (pe_one (pe_not (pe_callB (r := rIsi K) call_isi (by rfl) B.isinstance (by decide +kernel) (pa_cons (pv 0) (pa_cons (pe_bltn (v := .ty "bool") (by rfl) B.bool (by decide +kernel) rfl) pa_nil)))))))), ?_⟩
    exact s_ret (ev_andV (a := true) (b := true) (ev_cb (ea_cons (ev_var rfl) (ea_cons ev_c ea_nil)) (rc_isi_int (by decide +kernel))) fun _ => ev_notV (a := false) (ev_cb (ea_cons (ev_var rfl) (ea_cons ev_c ea_nil)) (rc_isi_int (by decide +kernel)))) fun H1 e => q H1 e

/-! ### is_within -/
def spIsWithin : Sp := fun vs H Q _ => ∃ i lo hi : Int, vs = [.int i, .int lo, .int hi] ∧ RetV (.bl (decide (lo ≤ i) && decide (i ≤ hi))) H Q
theorem spv_is_number {H : Hp} {i : Int} : SpV spIsNumber [.int i] H (.bl true) := fun H1 e Q q E => ⟨i, rfl, q⟩
theorem ok_is_within {f : Addr} {fd : FuncData} (D : Dat K mg "is_within" s_is_within ["thing", "least", "most"] f fd) {a_PRIMES : Addr} {t_MOST_TERMS : Tok} {a_PowerError : Addr} {a_BadPrime : Addr} {a_BadCount : Addr} {a_BadTerms : Addr} (B : Blt K mg a_PRIMES t_MOST_TERMS a_PowerError a_BadPrime a_BadCount a_BadTerms) (C_is_number : Cal P w K mg base CX0 "is_number" 1 ["thing"] spIsNumber) : Cal P w K mg base CX0 "is_within" 2 ["thing", "least", "most"] spIsWithin := by
  refine D.cal (D.F.ok sc_is_within (fun vs H Q E h => ?_) (fun cdv A outer s H vs Q E hr h => ?_))
  · obtain ⟨p, i, j, rfl, _⟩ := h
    rfl
  · obtain ⟨i, lo, hi, rfl, q⟩ := h
    refine ⟨_, (pss_one (ps_ret (pe_and (pe_c0 C_is_number (hr.mono (by decide)) (pa_cons (pv 0) pa_nil)) (pe_one (pe_chain op_le op_le (pv 1) (pv 0) (pv 2)))))), ?_⟩
    exact s_ret (ev_andV (a := true) (ev_call (ea_cons (ev_var rfl) ea_nil) spv_is_number) fun _ => ev_chain (ev_var rfl) (ev_var rfl) rv_I0 (fun _ => ev_var rfl) (fun _ => rv_I0)) fun H1 e => q H1 e
theorem spv_is_within {H : Hp} {i lo hi : Int} : SpV spIsWithin [.int i, .int lo, .int hi] H (.bl (decide (lo ≤ i) && decide (i ≤ hi))) := fun H1 e Q q E => ⟨i, lo, hi, rfl, q⟩

/-! ### is_rest -/
def spIsRest : Sp := fun vs H Q _ => ∃ p i : Int, vs = [.int p, .int i] ∧ RetV (.bl (decide (0 ≤ i) && decide (i < p))) H Q
theorem ok_is_rest {f : Addr} {fd : FuncData} (D : Dat K mg "is_rest" s_is_rest ["prime", "thing"] f fd) {a_PRIMES : Addr} {t_MOST_TERMS : Tok} {a_PowerError : Addr} {a_BadPrime : Addr} {a_BadCount : Addr} {a_BadTerms : Addr} (B : Blt K mg a_PRIMES t_MOST_TERMS a_PowerError a_BadPrime a_BadCount a_BadTerms) (C_is_within : Cal P w K mg base CX0 "is_within" 2 ["thing", "least", "most"] spIsWithin) : Cal P w K mg base CX0 "is_rest" 3 ["prime", "thing"] spIsRest := by
  refine D.cal (D.F.ok sc_is_rest (fun vs H Q E h => ?_) (fun cdv A outer s H vs Q E hr h => ?_))
  · obtain ⟨p, i, rfl, _⟩ := h
    rfl
  · obtain ⟨p, i, rfl, q⟩ := h
    refine ⟨_, (pss_one (ps_ret (pe_c0 C_is_within (hr.mono (by decide)) (pa_cons (pv 1) (pa_cons pe_int (pa_cons (pe_op op_sub (pv 0) pe_int) pa_nil)))))), ?_⟩
    refine s_ret (ev_is (ev_call (ea_cons (ev_var rfl) (ea_cons ev_c (ea_cons (ev_op (ev_var rfl) ev_c rv_I0) ea_nil))) spv_is_within) ?_) fun H1 e => q H1 e
    rw [show decide (i ≤ p - 1) = decide (i < p) from decide_eq_decide.mpr (by omega)]
theorem spv_is_rest {H : Hp} {p i : Int} : SpV spIsRest [.int p, .int i] H (.bl (decide (0 ≤ i) && decide (i < p))) := fun H1 e Q q E => ⟨p, i, rfl, q⟩

/-! ### is_term, are_terms, need_terms, of terms -/
/-- terms, told by the tuples at rs -/
def TmsR (H : Hp) (rs : List Addr) (ts : List Tm) : Prop := rs.length = ts.length ∧ ∀ (i : Nat) (t : Tm), ts[i]? = some t → ∃ r : Addr, rs[i]? = some r ∧ H r = some (.tup [.int t.r, .int (t.s : Int), .int (t.k : Int)])
theorem TmsR.ex {H H' : Hp} {rs : List Addr} {ts : List Tm} (e : Ex H H') (h : TmsR H rs ts) : TmsR H' rs ts := ⟨h.1, fun i t hi => by
  obtain ⟨r, h1, h2⟩ := h.2 i t hi
  exact ⟨r, h1, e _ _ h2⟩⟩
theorem TmsR.item {H : Hp} {rs : List Addr} {ts : List Tm} (h : TmsR H rs ts) {i : Nat} {x : V} (hx : (rs.map V.ref)[i]? = some x) : ∃ (r : Addr) (t : Tm), ts[i]? = some t ∧ x = .ref r ∧ H r = some (.tup [.int t.r, .int (t.s : Int), .int (t.k : Int)]) := by
  rw [List.getElem?_map] at hx
  have hi : i < ts.length := by
    rw [← h.1]
    by_cases c : i < rs.length
    · exact c
    · rw [List.getElem?_eq_none (by omega)] at hx
      cases hx
  obtain ⟨r, h1, h2⟩ := h.2 i ts[i] (List.getElem?_eq_getElem hi)
  rw [h1] at hx
  exact ⟨r, ts[i], List.getElem?_eq_getElem hi, (Option.some.inj hx).symm, h2⟩
def spIsTerm : Sp := fun vs H Q _ => ∃ (p : Int) (a : Addr) (t : Tm), vs = [.int p, .ref a] ∧ H a = some (.tup [.int t.r, .int (t.s : Int), .int (t.k : Int)]) ∧ TmOk p t ∧ RetV (.bl true) H Q
theorem ok_is_term {f : Addr} {fd : FuncData} (D : Dat K mg "is_term" s_is_term ["prime", "thing"] f fd) {a_PRIMES : Addr} {t_MOST_TERMS : Tok} {a_PowerError : Addr} {a_BadPrime : Addr} {a_BadCount : Addr} {a_BadTerms : Addr} (B : Blt K mg a_PRIMES t_MOST_TERMS a_PowerError a_BadPrime a_BadCount a_BadTerms) (C_is_within : Cal P w K mg base CX0 "is_within" 2 ["thing", "least", "most"] spIsWithin) (C_is_rest : Cal P w K mg base CX0 "is_rest" 3 ["prime", "thing"] spIsRest) : Cal P w K mg base CX0 "is_term" 4 ["prime", "thing"] spIsTerm := by
  refine D.cal (D.F.ok sc_is_term (fun vs H Q E h => ?_) (fun cdv A outer s H vs Q E hr h => ?_))
  · obtain ⟨p, a, t, rfl, _⟩ := h
    rfl
  · obtain ⟨p, a, t, rfl, ha, O, q⟩ := h
    have o1 := O.r
    have o2 := O.s
    have o3 := O.k
    refine ⟨_, (pss_cons (ps_if (PW.pt (pw_or (pt_not (pt_val (pe_callB (r := rIsi K) call_isi (by rfl) B.isinstance (by decide +kernel) (pa_cons (pv 1) (pa_cons (pe_bltn (v := .ty "tuple") (by rfl) B.tuple (by decide +kernel) rfl) pa_nil))))) (pw_or1 (pt_cmpR op_ne (pe_callB (r := rLenS K) call_len_seq (by rfl) B.len PySem.boot_len (pa_cons (pv 1) pa_nil)) pe_int (nomark _))))) (pss_one (ps_ret pe_bl)) pss_nil)
    (pss_cons (ps_asg (pv 1) (pg_tup rfl (pgs_cons (pg_name (i := 2) sc_is_term.nd rfl (Or.inl rfl)) (pgs_cons (pg_name (i := 3) sc_is_term.nd rfl (Or.inl rfl)) (pgs_cons (pg_name (i := 4) sc_is_term.nd rfl (Or.inl rfl)) pgs_nil)))))
    (pss_one (ps_ret (pe_and (pe_c0 C_is_rest (hr.mono (by decide)) (pa_cons (pv 0) (pa_cons (pv 2) pa_nil))) (pe_and (pe_c0 C_is_within (hr.mono (by decide)) (pa_cons (pv 3) (pa_cons pe_int (pa_cons pe_int pa_nil)))) (pe_one (pe_c0 C_is_within (hr.mono (by decide)) (pa_cons (pv 4) (pa_cons pe_int (pa_cons pe_int pa_nil))))))))))), ?_⟩
    refine q_when (b := false) (et_or (a := false) (b := false) (et_not (a := true) (et_B (ev_cb (by walk_at "ev") (rc_isi_tup ha (by decide +kernel))))) fun _ => et_test (ev_is (ev_op (ev_cb (by walk_at "ev") (rc_lenT (st_of ha))) ev_c (rv_ne rfl)) ?_)) (fun z => Bool.noConfusion z) fun _ H1 e1 => ?_
    · rw [decide_eq_true]
      · rfl
      · rfl
    · refine q_unp3 (ev_var rfl) (st_of (e1 a _ ha)) fun H2 e2 => ?_
      refine s_ret (v := .bl true) (ev_is (ev_andV (a := true) (ev_is (ev_call (by walk_at "ev") spv_is_rest) ?_) fun _ => ev_andV (a := true) (b := true) (ev_is (ev_call (by walk_at "ev") spv_is_within) ?_) fun _ => ev_is (ev_call (by walk_at "ev") spv_is_within) ?_) rfl) fun H3 e3 => q H3 ((e1.trans e2).trans e3)
      · rw [decide_eq_true o1.1, decide_eq_true o1.2]
        rfl
      · rw [decide_eq_true (by omega), decide_eq_true (by omega)]
        rfl
      · rw [decide_eq_true (by omega), decide_eq_true (by omega)]
        rfl
theorem spv_is_term {H : Hp} {p : Int} {a : Addr} {t : Tm} (ha : H a = some (.tup [.int t.r, .int (t.s : Int), .int (t.k : Int)])) (O : TmOk p t) : SpV spIsTerm [.int p, .ref a] H (.bl true) := fun H1 e Q q E => ⟨p, a, t, rfl, e _ _ ha, O, q⟩
def spAreTerms : Sp := fun vs H Q _ => ∃ (p : Int) (a : Addr) (rs : List Addr) (ts : List Tm), vs = [.int p, .ref a] ∧ H a = some (.lst (rs.map V.ref)) ∧ TmsR H rs ts ∧ (∀ t ∈ ts, TmOk p t) ∧ 1 ≤ ts.length ∧ ts.length ≤ 6 ∧ RetV (.bl true) H Q
theorem ok_are_terms {f : Addr} {fd : FuncData} (D : Dat K mg "are_terms" s_are_terms ["prime", "thing"] f fd) {a_PRIMES : Addr} {t_MOST_TERMS : Tok} {a_PowerError : Addr} {a_BadPrime : Addr} {a_BadCount : Addr} {a_BadTerms : Addr} (B : Blt K mg a_PRIMES t_MOST_TERMS a_PowerError a_BadPrime a_BadCount a_BadTerms) (C_is_term : Cal P w K mg base CX0 "is_term" 4 ["prime", "thing"] spIsTerm) : Cal P w K mg base CX0 "are_terms" 5 ["prime", "thing"] spAreTerms := by
  refine D.cal (D.F.ok sc_are_terms (fun vs H Q E h => ?_) (fun cdv A outer s H vs Q E hr h => ?_))
  · obtain ⟨p, a, rs, ts, rfl, _⟩ := h
    rfl
  · obtain ⟨p, a, rs, ts, rfl, ha, hT, hO, l1, l6, q⟩ := h
    have lr := hT.1
    refine ⟨_, (pss_cons (ps_if (PW.pt (pw_or (pt_not (pt_val (pe_callB (r := rIsi K) call_isi (by rfl) B.isinstance (by decide +kernel) (pa_cons (pv 1) (pa_cons (pe_bltn (v := .ty "list") (by rfl) B.list (by decide +kernel) rfl) pa_nil))))) (pw_or1 (pt_not (pt_chain op_le op_le pe_int (pe_callB (r := rLenS K) call_len_seq (by rfl) B.len PySem.boot_len (pa_cons (pv 1) pa_nil)) (pe_glob (v := .int 6) rfl B.MOST_TERMS ⟨_, rfl⟩)))))) (pss_one (ps_ret pe_bl)) pss_nil)
    (pss_one (ps_ret (pe_callB (r := rAll K) (cr_all rfl) (by rfl) B.all (by decide +kernel) (pa_cons (pe_lc (own := [("term", 2)]) (g := gName 2) (tt := tYes) (by rfl) sc_are_terms.nd (pi_list (pv 1)) (blkOk_by (N := nm_are_terms) (sc := defScope s_are_terms) (by decide +kernel)) (fun _ _ _ _ _ => pg_name (i := 2) sc_are_terms.nd rfl (Or.inl rfl)) (fun _ _ _ _ _ => pts_nil) (fun _ _ _ _ _ => (pe_c0 C_is_term (hr.mono (by decide)) (pa_cons (pv 0) (pa_cons (pv 2) pa_nil))))) pa_nil))))), ?_⟩
    refine q_when (b := false) (et_or (a := false) (b := false) (et_not (a := true) (et_B (ev_cb (by walk_at "ev") (rc_isi_lst ha (by decide +kernel))))) fun _ => et_not (a := true) (et_test (ev_is (ev_chain ev_c (ev_cb (by walk_at "ev") (rc_len (sq_of ha))) rv_I0 (fun _ => ev_c) (fun _ => rv_I0)) ?_))) (fun z => Bool.noConfusion z) fun _ H1 e1 => ?_
    · rw [List.length_map, decide_eq_true (by omega), decide_eq_true (by omega)]
      rfl
    · refine s_ret (ev_cbL (el_is (el_one (xs := rs.map V.ref) (fun _ => true) (fun _ => V.bl true) ((eg_list (ev_var rfl) (sq_of (e1 a _ ha))).i fun H2 e2 => sq_of (e2 _ _ (e1 a _ ha))) (by rw [List.length_map]; omega) (fun _ => rfl) fun m x hx => ?_) given_all) fun p2 H2 h2 e2 => ?_) fun H3 e3 => q H3 (e1.trans e3)
      · obtain ⟨r, t, ht, rfl, hr1⟩ := hT.item hx
        exact ⟨et_yes, fun _ => ev_call (by walk_at "ev") (spv_is_term (e1 _ _ hr1) (hO t (List.mem_of_getElem? ht)))⟩
      · rw [map_map_bl (f := fun _ => true)] at h2
        have g := rc_all (K := K) (sq_of h2)
        rw [all_true] at g
        exact g
theorem spv_are_terms {H : Hp} {p : Int} {a : Addr} {rs : List Addr} {ts : List Tm} (ha : H a = some (.lst (rs.map V.ref))) (hT : TmsR H rs ts) (hO : ∀ t ∈ ts, TmOk p t) (l1 : 1 ≤ ts.length) (l6 : ts.length ≤ 6) : SpV spAreTerms [.int p, .ref a] H (.bl true) := fun H1 e Q q E => ⟨p, a, rs, ts, rfl, e _ _ ha, hT.ex e, hO, l1, l6, q⟩
def spNeedTerms : Sp := fun vs H Q _ => ∃ (p : Int) (a : Addr) (rs : List Addr) (ts : List Tm), vs = [.int p, .ref a] ∧ H a = some (.lst (rs.map V.ref)) ∧ TmsR H rs ts ∧ (∀ t ∈ ts, TmOk p t) ∧ 1 ≤ ts.length ∧ ts.length ≤ 6 ∧ RetV .non H Q
theorem ok_need_terms {f : Addr} {fd : FuncData} (D : Dat K mg "need_terms" s_need_terms ["prime", "terms"] f fd) {a_PRIMES : Addr} {t_MOST_TERMS : Tok} {a_PowerError : Addr} {a_BadPrime : Addr} {a_BadCount : Addr} {a_BadTerms : Addr} (B : Blt K mg a_PRIMES t_MOST_TERMS a_PowerError a_BadPrime a_BadCount a_BadTerms) (C_are_terms : Cal P w K mg base CX0 "are_terms" 5 ["prime", "thing"] spAreTerms) : Cal P w K mg base CX0 "need_terms" 6 ["prime", "terms"] spNeedTerms := by
  refine D.cal (D.F.ok sc_need_terms (fun vs H Q E h => ?_) (fun cdv A outer s H vs Q E hr h => ?_))
  · obtain ⟨p, a, rs, ts, rfl, _⟩ := h
    rfl
  · obtain ⟨p, a, rs, ts, rfl, ha, hT, hO, l1, l6, q⟩ := h
    refine ⟨_, (pss_one (ps_if (pt_not (pt_val (pe_c0 C_are_terms (hr.mono (by decide)) (pa_cons (pv 0) (pa_cons (pv 1) pa_nil))))) (pss_one ps_never) pss_nil)), ?_⟩
    exact s_when (b := false) (et_not (a := true) (et_B (ev_call (by walk_at "ev") (spv_are_terms ha hT hO l1 l6)))) (fun z => Bool.noConfusion z) fun _ H1 e1 => q H1 e1
theorem spv_need_terms {H : Hp} {p : Int} {a : Addr} {rs : List Addr} {ts : List Tm} (ha : H a = some (.lst (rs.map V.ref))) (hT : TmsR H rs ts) (hO : ∀ t ∈ ts, TmOk p t) (l1 : 1 ≤ ts.length) (l6 : ts.length ≤ 6) : SpV spNeedTerms [.int p, .ref a] H .non := fun H1 e Q q E => ⟨p, a, rs, ts, rfl, e _ _ ha, hT.ex e, hO, l1, l6, q⟩

/-! ### need_prime, of a prime -/
def spNeedPrime : Sp := fun vs H Q _ => ∃ p : Int, vs = [.int p] ∧ Prm p ∧ RetV .non H Q
theorem prm_in {p : Int} (h : Prm p) : inV (.int p) (primes.map V.int) = true := by
  unfold inV
  rw [List.any_eq_true]
  refine ⟨.int p, List.mem_map.mpr ⟨p, h, rfl⟩, ?_⟩
  show (p == p) = true
  exact beq_self_eq_true p
theorem ok_need_prime {f : Addr} {fd : FuncData} (D : Dat K mg "need_prime" s_need_prime ["prime"] f fd) {a_PRIMES : Addr} {t_MOST_TERMS : Tok} {a_PowerError : Addr} {a_BadPrime : Addr} {a_BadCount : Addr} {a_BadTerms : Addr} (B : Blt K mg a_PRIMES t_MOST_TERMS a_PowerError a_BadPrime a_BadCount a_BadTerms) (C_is_number : Cal P w K mg base CX0 "is_number" 1 ["thing"] spIsNumber) : Cal P w K mg base CX0 "need_prime" 2 ["prime"] spNeedPrime := by
  refine D.cal (D.F.ok sc_need_prime (fun vs H Q E h => ?_) (fun cdv A outer s H vs Q E hr h => ?_))
  · obtain ⟨p, rfl, _⟩ := h
    rfl
  · obtain ⟨p, rfl, hp, q⟩ := h
    refine ⟨_, (pss_one (ps_if (PW.pt (pw_or (pt_not (pt_val (pe_c0 C_is_number (hr.mono (by decide)) (pa_cons (pv 0) pa_nil)))) (pw_or1 (pt_cmpR (r := rIn K true) op_notIn_seq (pv 0) (pe_glob (v := .ref a_PRIMES) rfl B.PRIMES rfl) rfl)))) (pss_one ps_never) pss_nil)), ?_⟩
    refine s_when (b := false) (et_or (a := false) (b := false) (et_not (a := true) (et_B (ev_call (by walk_at "ev") spv_is_number))) fun _ => et_test (ev_is (ev_op (ev_var rfl) ev_c (rv_niT (B.PRIMES_T H) rfl rfl)) ?_)) (fun z => Bool.noConfusion z) fun _ H1 e1 => q H1 e1
    show V.bl (!inV (.int p) (primes.map V.int)) = V.bl false
    rw [prm_in hp]
    rfl
theorem spv_need_prime {H : Hp} {p : Int} (hp : Prm p) : SpV spNeedPrime [.int p] H .non := fun H1 e Q q E => ⟨p, rfl, hp, q⟩

/-! ### need_count_within, of a count -/
def spNeedCountW : Sp := fun vs H Q _ => ∃ m lo hi : Int, vs = [.int m, .int lo, .int hi] ∧ lo ≤ m ∧ m ≤ hi ∧ RetV .non H Q
theorem ok_need_count_within {f : Addr} {fd : FuncData} (D : Dat K mg "need_count_within" s_need_count_within ["many", "least", "most"] f fd) {a_PRIMES : Addr} {t_MOST_TERMS : Tok} {a_PowerError : Addr} {a_BadPrime : Addr} {a_BadCount : Addr} {a_BadTerms : Addr} (B : Blt K mg a_PRIMES t_MOST_TERMS a_PowerError a_BadPrime a_BadCount a_BadTerms) (C_is_within : Cal P w K mg base CX0 "is_within" 2 ["thing", "least", "most"] spIsWithin) : Cal P w K mg base CX0 "need_count_within" 3 ["many", "least", "most"] spNeedCountW := by
  refine D.cal (D.F.ok sc_need_count_within (fun vs H Q E h => ?_) (fun cdv A outer s H vs Q E hr h => ?_))
  · obtain ⟨m, lo, hi, rfl, _⟩ := h
    rfl
  · obtain ⟨m, lo, hi, rfl, h0, h1, q⟩ := h
    refine ⟨_, (pss_one (ps_if (pt_not (pt_val (pe_c0 C_is_within (hr.mono (by decide)) (pa_cons (pv 0) (pa_cons (pv 1) (pa_cons (pv 2) pa_nil)))))) (pss_one ps_never) pss_nil)), ?_⟩
    refine s_when (b := false) (et_not (a := true) (et_B (ev_is (ev_call (by walk_at "ev") spv_is_within) ?_))) (fun z => Bool.noConfusion z) fun _ H1 e1 => q H1 e1
    rw [decide_eq_true h0, decide_eq_true h1]
    rfl
theorem spv_need_count_within {H : Hp} {m lo hi : Int} (h0 : lo ≤ m) (h1 : m ≤ hi) : SpV spNeedCountW [.int m, .int lo, .int hi] H .non := fun H1 e Q q E => ⟨m, lo, hi, rfl, h0, h1, q⟩

/-! ### product_place, product -/
def spPlace (K : PySem.W.Frag) : Sp := fun vs H Q _ => ∃ (a b : Addr) (xs ys : List Int) (n : Nat), vs = [.ref a, .ref b, .int (n : Int)] ∧ SqL K H a (xs.map V.int) ∧ SqL K H b (ys.map V.int) ∧ Sml xs ∧ n < xs.length ∧ n < ys.length ∧ n ≤ 1000 ∧ RetV (.int (cv (sq xs) (sq ys) n)) H Q
theorem ok_product_place {f : Addr} {fd : FuncData} (D : Dat K mg "product_place" s_product_place ["one", "other", "place"] f fd) {a_PRIMES : Addr} {t_MOST_TERMS : Tok} {a_PowerError : Addr} {a_BadPrime : Addr} {a_BadCount : Addr} {a_BadTerms : Addr} (B : Blt K mg a_PRIMES t_MOST_TERMS a_PowerError a_BadPrime a_BadCount a_BadTerms) : Cal P w K mg base CX0 "product_place" 1 ["one", "other", "place"] (spPlace K) := by
  refine D.cal (D.F.ok sc_product_place (fun vs H Q E h => ?_) (fun cdv A outer s H vs Q E hr h => ?_))
  · obtain ⟨a, b, xs, ys, n, rfl, _⟩ := h
    rfl
  · obtain ⟨a, b, xs, ys, n, rfl, ha, hb, hs, hx, hy, hn, q⟩ := h
    refine ⟨_, (pss_one (ps_ret (pe_callB (r := rSum K) (cr_sum rfl) (by rfl) B.sum (by decide +kernel) (pa_cons (pe_lc (own := [("first", 3)]) (g := gName 3) (tt := tYes) (by rfl) sc_product_place.nd (pi_range1 rfl B.range (pa_cons (pe_op op_add (pv 2) pe_int) pa_nil)) (blkOk_by (N := nm_product_place) (sc := defScope s_product_place) (by decide +kernel)) (fun _ _ _ _ _ => pg_name (i := 3) sc_product_place.nd rfl (Or.inl rfl)) (fun _ _ _ _ _ => pts_nil) (fun _ _ _ _ _ => (pe_op op_mulV (pe_ix (r := rIxL K) ix_list (pv 0) (pv 3) (fun _ _ => rfl)) (pe_ix (r := rIxL K) ix_list (pv 1) (pe_op op_sub (pv 2) (pv 3)) (fun _ _ => rfl))))) pa_nil)))), ?_⟩
    refine s_ret (ev_cbL (el_int (el_mapR (n := ((n + 1 : Nat) : Int)) (fun i => V.int (sq xs i * sq ys (n - i))) (by walk_at "ev") (by omega) (fun _ => rfl) fun i H1 e1 hi => ?_)) fun p H2 h2 e2 => ?_) fun H3 e3 => q H3 e3
    · have ha1 := ex_l e1 ha
      have hb1 := ex_l e1 hb
      have hs1 := hs.at i
      exact ev_op (ev_op (ev_var rfl) (ev_var rfl) (rv_at ha1 rfl (by omega))) (ev_op (ev_var rfl) (by walk_at "ev") (rv_at hb1 (n := n - i) (by omega) (by omega))) (rv_I (by walk_at "cond"))
    · have g := rc_sum (K := K) (sq_of h2)
      rw [show ((n + 1 : Nat) : Int).toNat = n + 1 by omega, sum_cv] at g
      exact g
theorem spv_place {H : Hp} {a b : Addr} {xs ys : List Int} {n : Nat} (ha : SqL K H a (xs.map V.int)) (hb : SqL K H b (ys.map V.int)) (hs : Sml xs) (hx : n < xs.length) (hy : n < ys.length) (hn : n ≤ 1000) : SpV (spPlace K) [.ref a, .ref b, .int (n : Int)] H (.int (cv (sq xs) (sq ys) n)) :=
  fun H1 e Q q E => ⟨a, b, xs, ys, n, rfl, ex_l e ha, ex_l e hb, hs, hx, hy, hn, q⟩

/-! ### term_sum -/
def spTermSum (K : PySem.W.Frag) : Sp := fun vs H Q _ => ∃ (a l q0 q1 q2 q3 : Addr) (rs : List Addr) (ts : List Tm) (p : Int) (x0 xa xb xc : List Int) (n : Nat), vs = [.ref a, .ref l, .int (n : Int)] ∧ H a = some (.lst (rs.map V.ref)) ∧ TmsR H rs ts ∧ (∀ t ∈ ts, TmOk p t) ∧ p ≤ 1000 ∧ ts.length ≤ 6 ∧
  H l = some (.lst [.ref q0, .ref q1, .ref q2, .ref q3]) ∧ H q0 = some (.lst (x0.map V.int)) ∧ H q1 = some (.lst (xa.map V.int)) ∧ H q2 = some (.lst (xb.map V.int)) ∧ H q3 = some (.lst (xc.map V.int)) ∧
  n ≤ x0.length ∧ n ≤ xa.length ∧ n ≤ xb.length ∧ n ≤ xc.length ∧ (∀ i, i < n → sq x0 i = one i) ∧ n ≤ 1000 ∧ RetV (.int (tmSum (pick xa xb xc) ts n)) H Q
theorem ok_term_sum {f : Addr} {fd : FuncData} (D : Dat K mg "term_sum" s_term_sum ["terms", "powers", "place"] f fd) {a_PRIMES : Addr} {t_MOST_TERMS : Tok} {a_PowerError : Addr} {a_BadPrime : Addr} {a_BadCount : Addr} {a_BadTerms : Addr} (B : Blt K mg a_PRIMES t_MOST_TERMS a_PowerError a_BadPrime a_BadCount a_BadTerms) : Cal P w K mg base CX0 "term_sum" 1 ["terms", "powers", "place"] (spTermSum K) := by
  refine D.cal (D.F.ok sc_term_sum (fun vs H Q E h => ?_) (fun cdv A outer s H vs Q E hr h => ?_))
  · obtain ⟨a, l, q0, q1, q2, q3, rs, ts, p, x0, xa, xb, xc, n, rfl, _⟩ := h
    rfl
  · obtain ⟨a, l, q0, q1, q2, q3, rs, ts, p, x0, xa, xb, xc, n, rfl, ha, hT, hO, hp, hl6, hl, h0, h1, h2, h3, n0, na, nb, nc, h1s, hn, q⟩ := h
    have lr := hT.1
    refine ⟨_, (pss_one (ps_ret (pe_callB (r := rSum K) (cr_sum rfl) (by rfl) B.sum (by decide +kernel) (pa_cons (pe_lc (own := [("rest", 3), ("shift", 4), ("power", 5)]) (g := gTup K 3 (gCons (gName 3) (gCons (gName 4) (gCons (gName 5) (gNil))))) (tt := _) (by rfl) sc_term_sum.nd (pi_list (pv 0)) (blkOk_by (N := nm_term_sum) (sc := defScope s_term_sum) (by decide +kernel)) (fun _ _ _ _ _ => (by exact pg_tup rfl (pgs_cons (pg_name (i := 3) sc_term_sum.nd rfl (Or.inl rfl)) (pgs_cons (pg_name (i := 4) sc_term_sum.nd rfl (Or.inl rfl)) (pgs_cons (pg_name (i := 5) sc_term_sum.nd rfl (Or.inl rfl)) pgs_nil))))) (fun _ _ _ _ _ => (pts_one (pt_cmpR op_le (pv 4) (pv 2) (nomark _)))) (fun _ _ _ _ _ => (pe_op op_mulV (pv 3) (pe_ix (r := rIxL K) ix_list (pe_ix (r := rIxL K) ix_list (pv 1) (pv 5) (fun _ _ => rfl)) (pe_op op_sub (pv 2) (pv 4)) (fun _ _ => rfl))))) pa_nil)))), ?_⟩
    refine s_ret (v := .int (tmSum (pick xa xb xc) ts n)) (ev_cbL (el_trip (xs := rs.map V.ref) (fun i => decide ((ts[i]?.getD ⟨0, 0, 0⟩).s ≤ n)) (fun i => V.int ((ts[i]?.getD ⟨0, 0, 0⟩).r * pick xa xb xc (ts[i]?.getD ⟨0, 0, 0⟩).k (n - (ts[i]?.getD ⟨0, 0, 0⟩).s)))
      ((eg_list (ev_var rfl) (sq_of ha)).i fun H2 e2 => sq_of (e2 _ _ ha)) (by rw [List.length_map]; omega) (fun _ _ _ => rfl) fun m x hx => ?_) fun p2 H2 g2 e2 => ?_) fun H3 e3 => q H3 e3
    · obtain ⟨r, t, ht, rfl, hr1⟩ := hT.item hx
      rw [ht]
      have O := hO t (List.mem_of_getElem? ht)
      have o1 := O.r
      have o2 := O.s
      have o3 := O.k
      refine ⟨r, _, _, _, rfl, st_of hr1, et_test (ev_is (ev_op (ev_var rfl) (ev_var rfl) rv_I0) ?_), fun hs => ?_⟩
      · show V.bl (decide ((t.s : Int) ≤ (n : Int))) = V.bl (decide (t.s ≤ n))
        congr 1
        exact decide_eq_decide.mpr (by omega)
      · have hs : t.s ≤ n := of_decide_eq_true hs
        have pk : ∃ (qk : Addr) (xk : List Int), [V.ref q0, .ref q1, .ref q2, .ref q3][t.k]? = some (.ref qk) ∧ H qk = some (.lst (xk.map V.int)) ∧ n ≤ xk.length ∧ sq xk (n - t.s) = pick xa xb xc t.k (n - t.s) := by
          match t.k, o3 with
          | 0, _ => exact ⟨q0, x0, rfl, h0, n0, h1s _ (by omega)⟩
          | 1, _ => exact ⟨q1, xa, rfl, h1, na, rfl⟩
          | 2, _ => exact ⟨q2, xb, rfl, h2, nb, rfl⟩
          | 3, _ => exact ⟨q3, xc, rfl, h3, nc, rfl⟩
        obtain ⟨qk, xk, k1, k2, k3, k4⟩ := pk
        refine ev_is (ev_op (ev_var rfl) (ev_op (ev_op (ev_var rfl) (ev_var rfl) (rv_ixL (sq_of hl) (atI_nat k1))) (ev_op (ev_var rfl) (ev_var rfl) rv_I0) (rv_at (sq_of k2) (n := n - t.s) (by omega) (by omega))) (rv_I (mul_l (by omega)))) ?_
        rw [k4]
        rfl
    · have e : given (rs.map V.ref).length (fun i => decide ((ts[i]?.getD ⟨0, 0, 0⟩).s ≤ n)) (fun i => V.int ((ts[i]?.getD ⟨0, 0, 0⟩).r * pick xa xb xc (ts[i]?.getD ⟨0, 0, 0⟩).k (n - (ts[i]?.getD ⟨0, 0, 0⟩).s))) =
        (((List.range ts.length).filter fun i => decide ((ts[i]?.getD ⟨0, 0, 0⟩).s ≤ n)).map fun i => (ts[i]?.getD ⟨0, 0, 0⟩).r * pick xa xb xc (ts[i]?.getD ⟨0, 0, 0⟩).k (n - (ts[i]?.getD ⟨0, 0, 0⟩).s)).map V.int := by
        unfold given
        rw [List.map_map, List.length_map, lr]
        rfl
      rw [e] at g2
      have g := rc_sum (K := K) (sq_of g2)
      rw [sum_given] at g
      have e2 : ((List.range ts.length).map fun i => if decide ((ts[i]?.getD ⟨0, 0, 0⟩).s ≤ n) = true then (ts[i]?.getD ⟨0, 0, 0⟩).r * pick xa xb xc (ts[i]?.getD ⟨0, 0, 0⟩).k (n - (ts[i]?.getD ⟨0, 0, 0⟩).s) else 0) = ts.map fun t => tmAt (pick xa xb xc) t n := by
        apply List.ext_getElem?
        intro i
        rw [List.getElem?_map, List.getElem?_map]
        by_cases h : i < ts.length
        · rw [List.getElem?_range h, List.getElem?_eq_getElem h]
          simp only [Option.map_some, List.getElem?_eq_getElem h, Option.getD_some]
          unfold tmAt
          by_cases h2 : (ts[i]).s ≤ n
          · rw [if_pos (decide_eq_true h2), if_pos h2]
          · rw [if_neg (by rw [decide_eq_false h2]; decide), if_neg h2]
        · rw [List.getElem?_eq_none (by rw [List.length_range]; omega), List.getElem?_eq_none (by omega)]
          rfl
      rw [e2] at g
      exact g
/-! ### grown -/
def spGrown : Sp := fun vs H Q _ => ∃ (p : Int) (a : Addr) (rs : List Addr) (ts : List Tm) (n : Nat), vs = [.int p, .ref a, .int (n : Int)] ∧ Prm p ∧ H a = some (.lst (rs.map V.ref)) ∧ TmsR H rs ts ∧ (∀ t ∈ ts, TmOk p t) ∧ 1 ≤ ts.length ∧ ts.length ≤ 6 ∧ 1 ≤ n ∧ n ≤ 20 ∧ RetL ((grA p ts n).map V.int) H Q
theorem ok_grown {f : Addr} {fd : FuncData} (D : Dat K mg "grown" s_grown ["prime", "terms", "many"] f fd) {a_PRIMES : Addr} {t_MOST_TERMS : Tok} {a_PowerError : Addr} {a_BadPrime : Addr} {a_BadCount : Addr} {a_BadTerms : Addr} (B : Blt K mg a_PRIMES t_MOST_TERMS a_PowerError a_BadPrime a_BadCount a_BadTerms) (C_need_prime : Cal P w K mg base CX0 "need_prime" 2 ["prime"] spNeedPrime) (C_need_terms : Cal P w K mg base CX0 "need_terms" 6 ["prime", "terms"] spNeedTerms) (C_need_count_within : Cal P w K mg base CX0 "need_count_within" 3 ["many", "least", "most"] spNeedCountW)
    (C_term_sum : Cal P w K mg base CX0 "term_sum" 1 ["terms", "powers", "place"] (spTermSum K)) (C_product_place : Cal P w K mg base CX0 "product_place" 1 ["one", "other", "place"] (spPlace K)) : Cal P w K mg base CX0 "grown" 10 ["prime", "terms", "many"] spGrown := by
  refine D.cal (D.F.ok sc_grown (fun vs H Q E h => ?_) (fun cdv A outer s H vs Q E hr h => ?_))
  · obtain ⟨p, a, rs, ts, n, rfl, _⟩ := h
    rfl
  · obtain ⟨p, a, rs, ts, n, rfl, hp, ha, hT, hO, l1, l6, n1, n20, q⟩ := h
    have p2 := hp.pos
    refine ⟨_, (pss_cons (ps_expr (pe_c0 C_need_prime (hr.mono (by decide)) (pa_cons (pv 0) pa_nil)))
    (pss_cons (ps_expr (pe_c0 C_need_terms (hr.mono (by decide)) (pa_cons (pv 0) (pa_cons (pv 1) pa_nil))))
    (pss_cons (ps_expr (pe_c0 C_need_count_within (hr.mono (by decide)) (pa_cons (pv 2) (pa_cons pe_int (pa_cons pe_int pa_nil)))))
    (pss_cons (ps_set (i := 3) sc_grown.nd rfl (Or.inl rfl) (pe_lst (pa_cons (pe_lst pa_nil) (pa_cons (pe_lst pa_nil) (pa_cons (pe_lst pa_nil) (pa_cons (pe_lst pa_nil) pa_nil))))))
    (pss_cons (ps_for PassesOwn.never rfl (pi_range1 rfl B.range (pa_cons (pv 2) pa_nil)) (pg_name (i := 4) sc_grown.nd rfl (Or.inl rfl)) (pss_cons (ps_expr (pe_bm PySem.F.plainAttrs_list PySem.F.slot_list_append PySem.F.type_list_append mt_append (pe_ix (r := rIxL K) ix_list (pv 3) pe_int (fun _ _ => rfl)) (pa_cons (pe_ifExp (pt_cmpR op_eq (pv 4) pe_int (nomark _)) pe_int pe_int) pa_nil)))
    (pss_cons (ps_expr (pe_bm PySem.F.plainAttrs_list PySem.F.slot_list_append PySem.F.type_list_append mt_append (pe_ix (r := rIxL K) ix_list (pv 3) pe_int (fun _ _ => rfl)) (pa_cons (pe_op op_mod (pe_c0 C_term_sum (hr.mono (by decide)) (pa_cons (pv 1) (pa_cons (pv 3) (pa_cons (pv 4) pa_nil)))) (pv 0)) pa_nil)))
    (pss_cons (ps_expr (pe_bm PySem.F.plainAttrs_list PySem.F.slot_list_append PySem.F.type_list_append mt_append (pe_ix (r := rIxL K) ix_list (pv 3) pe_int (fun _ _ => rfl)) (pa_cons (pe_op op_mod (pe_c0 C_product_place (hr.mono (by decide)) (pa_cons (pe_ix (r := rIxL K) ix_list (pv 3) pe_int (fun _ _ => rfl)) (pa_cons (pe_ix (r := rIxL K) ix_list (pv 3) pe_int (fun _ _ => rfl)) (pa_cons (pv 4) pa_nil)))) (pv 0)) pa_nil)))
    (pss_one (ps_expr (pe_bm PySem.F.plainAttrs_list PySem.F.slot_list_append PySem.F.type_list_append mt_append (pe_ix (r := rIxL K) ix_list (pv 3) pe_int (fun _ _ => rfl)) (pa_cons (pe_op op_mod (pe_c0 C_product_place (hr.mono (by decide)) (pa_cons (pe_ix (r := rIxL K) ix_list (pv 3) pe_int (fun _ _ => rfl)) (pa_cons (pe_ix (r := rIxL K) ix_list (pv 3) pe_int (fun _ _ => rfl)) (pa_cons (pv 4) pa_nil)))) (pv 0)) pa_nil))))))))
    (pss_one (ps_ret (pe_ix (r := rIxL K) ix_list (pv 3) pe_int (fun _ _ => rfl))))))))), ?_⟩
    refine q_drop (ev_call (by walk_at "ev") (spv_need_prime hp)) fun H1 e1 => q_drop (ev_call (by walk_at "ev") (spv_need_terms (e1 _ _ ha) (hT.ex e1) hO l1 l6)) fun H2 e2 => q_drop (ev_call (by walk_at "ev") (spv_need_count_within (m := (n : Int)) (lo := 1) (hi := 20) (by omega) (by omega))) fun H3 e3 => ?_
    have e13 := (e1.trans e2).trans e3
    refine q_asg4L (xs1 := []) (xs2 := []) (xs3 := []) (xs4 := []) (el_lst ea_nil (by decide)) (el_lst ea_nil (by decide)) (el_lst ea_nil (by decide)) (el_lst ea_nil (by decide)) fun l q0 q1 q2 q3 H4 e4 hl h0 h1 h2 h3 ne n0 n1 n2 n3 nl => ?_
    obtain ⟨d01, d02, d03, d12, d13, d23, dl0, dl1, dl2, dl3⟩ := ne
    have nn0 := fresh_back e13 n0
    have nn1 := fresh_back e13 n1
    have nn2 := fresh_back e13 n2
    have nn3 := fresh_back e13 n3
    have nnl := fresh_back e13 nl
    refine q_forR1 (n := (n : Int)) (by walk_at "ev") (by omega) (fun i σ' H' => ∃ (z : Option V) (x0 : List Int), σ' = [some (.int p), some (.ref a), some (.int (n : Int)), some (.ref l), z] ∧ Ex H H' ∧ H' l = some (.lst [.ref q0, .ref q1, .ref q2, .ref q3]) ∧ H' q0 = some (.lst (x0.map V.int)) ∧ x0.length = i ∧ (∀ j, j < i → sq x0 j = one j) ∧
        H' q1 = some (.lst ((grA p ts i).map V.int)) ∧ H' q2 = some (.lst ((grB p ts i).map V.int)) ∧ H' q3 = some (.lst ((grC p ts i).map V.int)))
      (fun H5 e5 => ⟨none, [], rfl, (e13.trans e4).trans e5, e5 _ _ hl, e5 _ _ h0, rfl, fun j hj => absurd hj (Nat.not_lt_zero j), e5 _ _ h1, e5 _ _ h2, e5 _ _ h3⟩) (fun i σ' H' hi hP => ?_) fun σ' H' hP => ?_
    · obtain ⟨z, x0, rfl, e, hl, h0, hx0, hone, h1, h2, h3⟩ := hP
      have i20 : i < 20 := by omega
      have LA := grA_len p ts i
      have LB := grB_len p ts i
      have LC := grC_len p ts i
      -- the ones
      refine q_app h0 (ev_op (ev_var rfl) ev_c (rv_ixL (sq_of hl) rfl)) (v := .int (one i)) (ev_is (ev_if (v := .int (one i)) (b := decide (i = 0)) (et_test (ev_is (ev_op (ev_var rfl) ev_c (rv_eq rfl)) ?_)) (fun hb => ?_) fun hb => ?_) rfl) (by rw [List.length_map, hx0]; omega) fun H5 e5 => ?_
      · rw [dec_int]
        congr 1
        by_cases c : i = 0
        · rw [c]
          rfl
        · rw [decide_eq_false c, beq_eq_false_iff_ne]
          omega
      · have hb := of_decide_eq_true hb
        subst hb
        exact ev_c
      · have hb := of_decide_eq_false hb
        rw [show one i = 0 from if_neg hb]
        exact ev_c
      have m5 : Ex H (upd H5 q0 (.lst (x0.map V.int ++ [.int (one i)]))) := Ex.mut (e.trans e5) nn0
      have h05 : (upd H5 q0 (.lst (x0.map V.int ++ [.int (one i)]))) q0 = some (.lst ((x0 ++ [one i]).map V.int)) := by
        rw [upd_same, List.map_append]
        rfl
      have k5 : ∀ b o, b ≠ q0 → H' b = some o → (upd H5 q0 (.lst (x0.map V.int ++ [.int (one i)]))) b = some o := fun b o nb hb => by
        rw [upd_ne nb]
        exact e5 _ _ hb
      generalize upd H5 q0 (.lst (x0.map V.int ++ [.int (one i)])) = G5 at m5 h05 k5 ⊢
      have l5 := k5 l _ dl0 hl
      have h15 := k5 q1 _ (Ne.symm d01) h1
      have h25 := k5 q2 _ (Ne.symm d02) h2
      have h35 := k5 q3 _ (Ne.symm d03) h3
      -- the row's own place
      refine q_app h15 (ev_op (ev_var rfl) ev_c (rv_ixL (sq_of l5) rfl)) (v := .int (tmSum (pick (grA p ts i) (grB p ts i) (grC p ts i)) ts i % p)) (ev_op (ev_call (by walk_at "ev") fun H6 e6 Q6 k6 E6 => ⟨a, l, q0, q1, q2, q3, rs, ts, p, x0 ++ [one i], grA p ts i, grB p ts i, grC p ts i, i, rfl, e6 _ _ (m5 _ _ ha), hT.ex (m5.trans e6), hO, by omega, l6, e6 _ _ l5, e6 _ _ h05, e6 _ _ h15, e6 _ _ h25, e6 _ _ h35, ?_, by omega, by omega, by omega, ?_, by omega, k6⟩) (ev_var rfl) (rv_I (by walk_at "cond"))) (by rw [List.length_map, LA]; omega) fun H6 e6 => ?_
      · rw [List.length_append, hx0]
        omega
      · intro j hj
        rw [sq_append_left (by omega)]
        exact hone j hj
      have E6 : upd H6 q1 (.lst ((grA p ts i).map V.int ++ [.int (tmSum (pick (grA p ts i) (grB p ts i) (grC p ts i)) ts i % p)])) = upd H6 q1 (.lst ((grA p ts (i + 1)).map V.int)) := by
        rw [grA_succ, List.map_append]
        rfl
      rw [E6]
      have m6 : Ex H (upd H6 q1 (.lst ((grA p ts (i + 1)).map V.int))) := Ex.mut (m5.trans e6) nn1
      have h16 : (upd H6 q1 (.lst ((grA p ts (i + 1)).map V.int))) q1 = some (.lst ((grA p ts (i + 1)).map V.int)) := upd_same
      have k6 : ∀ b o, b ≠ q1 → G5 b = some o → (upd H6 q1 (.lst ((grA p ts (i + 1)).map V.int))) b = some o := fun b o nb hb => by
        rw [upd_ne nb]
        exact e6 _ _ hb
      generalize upd H6 q1 (.lst ((grA p ts (i + 1)).map V.int)) = G6 at m6 h16 k6 ⊢
      have l6' := k6 l _ dl1 l5
      have h06 := k6 q0 _ d01 h05
      have h26 := k6 q2 _ (Ne.symm d12) h25
      have h36 := k6 q3 _ (Ne.symm d13) h35
      have LA1 := grA_len p ts (i + 1)
      have LB1 := grB_len p ts (i + 1)
      have SA : Sml (grA p ts (i + 1)) := (grA_rowp (p := p) (by omega) ts (by omega) (by omega)).sml (by omega)
      -- its square's
      refine q_app h26 (ev_op (ev_var rfl) ev_c (rv_ixL (sq_of l6') rfl)) (v := .int (cv (sq (grA p ts (i + 1))) (sq (grA p ts (i + 1))) i % p)) (ev_op (ev_call (ea_cons (ev_op (ev_var rfl) ev_c (rv_ixL (v := .ref q1) (sq_of l6') rfl)) (ea_cons (ev_op (ev_var rfl) ev_c (rv_ixL (v := .ref q1) (sq_of l6') rfl)) (ea_cons (ev_var rfl) ea_nil))) (spv_place (n := i) (sq_of h16) (sq_of h16) SA (by omega) (by omega) (by omega))) (ev_var rfl) (rv_I (by walk_at "cond"))) (by rw [List.length_map, LB]; omega) fun H7 e7 => ?_
      have E7 : upd H7 q2 (.lst ((grB p ts i).map V.int ++ [.int (cv (sq (grA p ts (i + 1))) (sq (grA p ts (i + 1))) i % p)])) = upd H7 q2 (.lst ((grB p ts (i + 1)).map V.int)) := by
        rw [grB_succ, List.map_append]
        rfl
      rw [E7]
      have m7 : Ex H (upd H7 q2 (.lst ((grB p ts (i + 1)).map V.int))) := Ex.mut (m6.trans e7) nn2
      have h27 : (upd H7 q2 (.lst ((grB p ts (i + 1)).map V.int))) q2 = some (.lst ((grB p ts (i + 1)).map V.int)) := upd_same
      have k7 : ∀ b o, b ≠ q2 → G6 b = some o → (upd H7 q2 (.lst ((grB p ts (i + 1)).map V.int))) b = some o := fun b o nb hb => by
        rw [upd_ne nb]
        exact e7 _ _ hb
      generalize upd H7 q2 (.lst ((grB p ts (i + 1)).map V.int)) = G7 at m7 h27 k7 ⊢
      have l7 := k7 l _ dl2 l6'
      have h07 := k7 q0 _ d02 h06
      have h17 := k7 q1 _ d12 h16
      have h37 := k7 q3 _ (Ne.symm d23) h36
      have SB : Sml (grB p ts (i + 1)) := fun x hx => by
        have := grB_rest (p := p) (by omega) ts (i + 1) x hx
        omega
      -- its cube's
      refine s_app h37 (ev_op (ev_var rfl) ev_c (rv_ixL (sq_of l7) rfl)) (v := .int (cv (sq (grB p ts (i + 1))) (sq (grA p ts (i + 1))) i % p)) (ev_op (ev_call (ea_cons (ev_op (ev_var rfl) ev_c (rv_ixL (v := .ref q2) (sq_of l7) rfl)) (ea_cons (ev_op (ev_var rfl) ev_c (rv_ixL (v := .ref q1) (sq_of l7) rfl)) (ea_cons (ev_var rfl) ea_nil))) (spv_place (n := i) (sq_of h27) (sq_of h17) SB (by omega) (by omega) (by omega))) (ev_var rfl) (rv_I (by walk_at "cond"))) (by rw [List.length_map, LC]; omega) fun H8 e8 => ?_
      refine ⟨_, x0 ++ [one i], rfl, Ex.mut (m7.trans e8) nn3, ?_, ?_, by rw [List.length_append, hx0]; rfl, fun j hj => ?_, ?_, ?_, ?_⟩
      · rw [upd_ne dl3]
        exact e8 _ _ l7
      · rw [upd_ne d03]
        exact e8 _ _ h07
      · by_cases c : j = i
        · subst c
          have := sq_append_at (xs := x0) (y := one j)
          rw [hx0] at this
          exact this
        · rw [sq_append_left (by omega)]
          exact hone j (by omega)
      · rw [upd_ne d13]
        exact e8 _ _ h17
      · rw [upd_ne d23]
        exact e8 _ _ h27
      · rw [upd_same, grC_succ, List.map_append]
        rfl
    · obtain ⟨z, x0, rfl, e, hl, h0, hx0, hone, h1, h2, h3⟩ := hP
      rw [Int.toNat_natCast] at h1
      exact s_ret (ev_op (ev_var rfl) ev_c (rv_ixL (v := .ref q1) (sq_of hl) rfl)) fun H5 e5 => q q1 H5 nn1 (e.trans e5) (e5 _ _ h1)
theorem spl_grown {H : Hp} {p : Int} {a : Addr} {rs : List Addr} {ts : List Tm} {n : Nat} (hp : Prm p) (ha : H a = some (.lst (rs.map V.ref))) (hT : TmsR H rs ts) (hO : ∀ t ∈ ts, TmOk p t) (l1 : 1 ≤ ts.length) (l6 : ts.length ≤ 6) (n1 : 1 ≤ n) (n2 : n ≤ 20) : SpL spGrown [.int p, .ref a, .int (n : Int)] H ((grA p ts n).map V.int) :=
  fun H1 e Q q E => ⟨p, a, rs, ts, n, rfl, hp, e _ _ ha, hT.ex e, hO, l1, l6, n1, n2, q⟩

/-! ### the law's number -/
def spLNumber : Sp := fun vs H Q _ => ∃ (c a wh : Int), vs = [.int c, .int a, .int wh] ∧ Builtin.Int.intBits c ≤ 1048576 ∧ 0 ≤ a ∧ a ≤ 100000 ∧ RetV (.int (lnum c a wh)) H Q
theorem intBits_small {x : Int} (h : -18446744073709551616 < x ∧ x < 18446744073709551616) : Builtin.Int.intBits x ≤ 64 := intBits_le_64 h.1 h.2
theorem ok_law_number {f : Addr} {fd : FuncData} (D : Dat K mg "_law_number" s_law_number ["_law_cell", "_law_at", "_law_whole"] f fd) {a_PRIMES : Addr} {t_MOST_TERMS : Tok} {a_PowerError : Addr} {a_BadPrime : Addr} {a_BadCount : Addr} {a_BadTerms : Addr} (B : Blt K mg a_PRIMES t_MOST_TERMS a_PowerError a_BadPrime a_BadCount a_BadTerms) : Cal P w K mg base CX0 "_law_number" 1 ["_law_cell", "_law_at", "_law_whole"] spLNumber := by
  refine D.cal (D.F.ok sc_law_number (fun vs H Q E h => ?_) (fun cdv A outer s H vs Q E hr h => ?_))
  · obtain ⟨c, a, wh, rfl, _⟩ := h
    rfl
  · obtain ⟨c, a, wh, rfl, hc, h0, h1, q⟩ := h
    refine ⟨_, (pss_cons (ps_if (pt_cmpR op_ge (pv 0) (pe_op op_pow pe_int pe_int) (nomark _)) (pss_one (ps_ret (pe_op op_fdiv (pv 0) (pe_op op_add pe_int (pe_op op_mod (pv 1) pe_int))))) pss_nil)
    (pss_cons (ps_set (i := 3) sc_law_number.nd rfl (Or.inl rfl) (pe_op op_mod (pe_op op_add (pe_op op_mulV (pe_op op_add (pv 0) (pe_op op_mulV pe_int (pv 1))) pe_int) (pv 2)) pe_int))
    (pss_cons (ps_set (i := 4) sc_law_number.nd rfl (Or.inl rfl) (pe_op op_mulV (pv 3) (pe_op op_add (pe_op op_add (pv 0) (pe_op op_mulV pe_int (pv 1))) pe_int)))
    (pss_one (ps_ret (pe_op op_fdiv (pe_op op_mulV (pe_op op_mulV (pv 4) (pe_op op_add (pe_op op_add (pv 3) (pv 0)) pe_int)) (pe_op op_add (pe_op op_mulV (pv 3) (pv 3)) pe_int)) (pe_op op_add pe_int (pv 1)))))))), ?_⟩
    refine q_when (b := decide ((10 : Int) ^ 18 ≤ c)) (et_test (ev_op (ev_var rfl) (ev_op ev_c ev_c (rv_I (by exact ⟨by decide, by decide, by decide⟩))) rv_I0)) (fun hb H1 e1 => ?_) fun hb H1 e1 => ?_
    · have hb' := of_decide_eq_true hb
      refine s_ret (v := .int (lnum c a wh)) (ev_is (ev_op (ev_var rfl) (ev_op ev_c (ev_op (ev_var rfl) ev_c (rv_I (by decide))) rv_I0) (rv_I ?_)) ?_) fun H2 e2 => q H2 (e1.trans e2)
      · exact ⟨by omega, by omega⟩
      · show V.int _ = V.int (if (10 : Int) ^ 18 ≤ c then c / (1 + a % 7) else _)
        rw [if_pos hb']
    · have hb' := of_decide_eq_false hb
      have bl : 0 ≤ blend c a wh ∧ blend c a wh < 2147483647 := ⟨Int.emod_nonneg _ (by decide), Int.emod_lt_of_pos _ (by decide)⟩
      have bb : 0 ≤ blend c a wh * blend c a wh ∧ blend c a wh * blend c a wh < 4611686018427387904 := by
        refine ⟨Int.mul_nonneg bl.1 bl.1, ?_⟩
        have h := Int.mul_le_mul (show blend c a wh ≤ 2147483647 by omega) (show blend c a wh ≤ 2147483647 by omega) bl.1 (by decide)
        omega
      refine q_asg (v := .int (blend c a wh)) (ev_op (ev_op (ev_op (ev_op (ev_var rfl) (ev_op ev_c (ev_var rfl) (rv_I (mul_l (by decide)))) rv_I0) ev_c (rv_I (mul_r (by decide)))) (ev_var rfl) rv_I0) ev_c (rv_I (by decide))) fun H2 e2 => ?_
      refine q_asg (v := .int (blend c a wh * (c + 31 * a + 7))) (ev_op (ev_var rfl) (ev_op (ev_op (ev_var rfl) (ev_op ev_c (ev_var rfl) (rv_I (mul_l (by decide)))) rv_I0) ev_c rv_I0) (rv_I (mul_l (by omega)))) fun H3 e3 => ?_
      have k1 : Builtin.Int.intBits (c + 31 * a + 7) ≤ 1048578 := intBits_add_le (n := 64) (intBits_add_le (n := 64) hc (intBits_small (by omega))) (intBits_small (by decide))
      have k2 : Builtin.Int.intBits (blend c a wh * (c + 31 * a + 7)) ≤ 64 + 1048578 := intBits_mul_le (intBits_small (by omega)) k1
      have k3 : Builtin.Int.intBits (blend c a wh + c + 5) ≤ 1048578 := intBits_add_le (n := 64) (intBits_add_le (m := 64) (intBits_small (by omega)) hc) (intBits_small (by decide))
      refine s_ret (v := .int (lnum c a wh)) (ev_is (ev_op (ev_op (ev_op (ev_var rfl) (ev_op (ev_op (ev_var rfl) (ev_var rfl) rv_I0) ev_c rv_I0) (rv_I (IntMulOk.of_le k2 k3 (by decide)))) (ev_op (ev_op (ev_var rfl) (ev_var rfl) (rv_I (mul_l (by omega)))) ev_c rv_I0) (rv_I (mul_r (by omega)))) (ev_op ev_c (ev_var rfl) rv_I0) (rv_I ?_)) ?_) fun H4 e4 => q H4 (((e1.trans e2).trans e3).trans e4)
      · exact ⟨by omega, by omega⟩
      · show V.int _ = V.int (if (10 : Int) ^ 18 ≤ c then _ else _)
        rw [if_neg hb']
theorem spv_l_number {H : Hp} {c a wh : Int} (hc : Builtin.Int.intBits c ≤ 1048576) (h0 : 0 ≤ a) (h1 : a ≤ 100000) : SpV spLNumber [.int c, .int a, .int wh] H (.int (lnum c a wh)) := fun H1 e Q q E => ⟨c, a, wh, rfl, hc, h0, h1, q⟩

/-! ### the law's prime -/
def spLPrime (K : PySem.W.Frag) : Sp := fun vs H Q _ => ∃ (a : Addr) (ns : List Int) (b : Int), vs = [.ref a, .int b] ∧ SqL K H a (ns.map V.int) ∧ 0 ≤ b ∧ RetV (.int (lprime ns b)) H Q
theorem ok_law_prime {f : Addr} {fd : FuncData} (D : Dat K mg "_law_prime" s_law_prime ["_law_script", "_law_by"] f fd) {a_PRIMES : Addr} {t_MOST_TERMS : Tok} {a_PowerError : Addr} {a_BadPrime : Addr} {a_BadCount : Addr} {a_BadTerms : Addr} (B : Blt K mg a_PRIMES t_MOST_TERMS a_PowerError a_BadPrime a_BadCount a_BadTerms) : Cal P w K mg base CX0 "_law_prime" 1 ["_law_script", "_law_by"] (spLPrime K) := by
  refine D.cal (D.F.ok sc_law_prime (fun vs H Q E h => ?_) (fun cdv A outer s H vs Q E hr h => ?_))
  · obtain ⟨a, ns, b, rfl, _⟩ := h
    rfl
  · obtain ⟨a, ns, b, rfl, ha, h0, q⟩ := h
    have wn : 0 ≤ lwhole ns := absI_nonneg _
    refine ⟨_, (pss_cons (ps_set (i := 2) sc_law_prime.nd rfl (Or.inl rfl) (pe_tup (pa_cons pe_int (pa_cons pe_int (pa_cons pe_int (pa_cons pe_int (pa_cons pe_int (pa_cons pe_int (pa_cons pe_int (pa_cons pe_int (pa_cons pe_int (pa_cons pe_int (pa_cons pe_int (pa_cons pe_int (pa_cons pe_int (pa_cons pe_int (pa_cons pe_int (pa_cons pe_int (pa_cons pe_int (pa_cons pe_int (pa_cons pe_int (pa_cons pe_int (pa_cons pe_int (pa_cons pe_int (pa_cons pe_int (pa_cons pe_int (pa_cons pe_int pa_nil)))))))))))))))))))))))))))
    (pss_cons (ps_set (i := 3) sc_law_prime.nd rfl (Or.inl rfl) (pe_op op_add (pe_callB call_abs (by rfl) B.abs (by decide +kernel) (pa_cons (pe_callB (r := rSum K) (cr_sum rfl) (by rfl) B.sum (by decide +kernel) (pa_cons (pe_slice (r := rSlL K) sl_list (pv 0) po_none (po_some pe_int)) pa_nil)) pa_nil)) (pv 1)))
    (pss_one (ps_ret (pe_ifExp (pt_cmpR op_eq (pe_op op_mod (pe_op op_fdiv (pv 3) pe_int) pe_int) pe_int (nomark _)) (pe_ix (r := rIxT K) ix_tup (pv 2) (pe_op op_mod (pe_op op_fdiv (pv 3) pe_int) pe_int) (fun _ _ => rfl)) (pe_ix (r := rIxT K) ix_tup (pv 2) (pe_op op_mod (pe_op op_fdiv (pv 3) pe_int) pe_int) (fun _ _ => rfl))))))), ?_⟩
    refine q_asgU (xs := primes.map V.int) (eu_tup (by walk_at "ev") (by decide)) fun t H1 n1 e1 ht => ?_
    refine q_asg (v := .int (lwhole ns + b)) (ev_op (ev_cb (ea_cons (ev_cbL (el_is (el_sl (ev_var rfl) eo_none (eo_some ev_c) (ex_l e1 ha)) (cut_to ns 63)) fun p H2 h2 e2 => rc_sum (sq_of h2)) ea_nil) rc_abs) (ev_var rfl) rv_I0) fun H2 e2 => ?_
    have ht2 : SqT K H2 t (primes.map V.int) := st_of (e2 t _ ht)
    have l : primes.length = 25 := rfl
    generalize hw : lwhole ns + b = W
    have W0 : 0 ≤ W := by omega
    refine s_ret (v := .int (lprime ns b)) (ev_is (ev_if (v := .int (if W / 60 % 2 = 0 then sq primes (W / 120 % 25).toNat else sq primes (W / 120 % 5).toNat)) (b := decide (W / 60 % 2 = 0)) (et_test (ev_is (ev_op (x := .int (W / 60 % 2)) (ev_op (ev_op (ev_var rfl) ev_c (rv_I (by walk_at "cond"))) ev_c (rv_I (by walk_at "cond"))) ev_c (rv_eq rfl)) ?_)) (fun hb => ?_) fun hb => ?_) ?_) fun H3 e3 => q H3 ((e1.trans e2).trans e3)
    · rw [dec_int]
      rfl
    · rw [if_pos (of_decide_eq_true hb)]
      exact ev_op (y := .int (W / 120 % 25)) (ev_var rfl) (ev_op (ev_op (ev_var rfl) ev_c (rv_I (by walk_at "cond"))) ev_c (rv_I (by walk_at "cond"))) (rv_atU ht2 (by omega) (by omega))
    · rw [if_neg (of_decide_eq_false hb)]
      exact ev_op (y := .int (W / 120 % 5)) (ev_var rfl) (ev_op (ev_op (ev_var rfl) ev_c (rv_I (by walk_at "cond"))) ev_c (rv_I (by walk_at "cond"))) (rv_atU ht2 (by omega) (by omega))
    · unfold lprime
      rw [hw]
theorem spv_l_prime {H : Hp} {a : Addr} {ns : List Int} {b : Int} (ha : SqL K H a (ns.map V.int)) (h0 : 0 ≤ b) : SpV (spLPrime K) [.ref a, .int b] H (.int (lprime ns b)) := fun H1 e Q q E => ⟨a, ns, b, rfl, ex_l e ha, h0, q⟩

/-! ### the law's product -/
def spLTimes (K : PySem.W.Frag) : Sp := fun vs H Q _ => ∃ (p : Int) (a b : Addr) (xs ys : List Int), vs = [.int p, .ref a, .ref b] ∧ 0 < p ∧ SqL K H a (xs.map V.int) ∧ SqL K H b (ys.map V.int) ∧ Sml xs ∧ xs.length ≤ 1000 ∧ RetL ((prodL p xs ys).map V.int) H Q
theorem ok_law_times {f : Addr} {fd : FuncData} (D : Dat K mg "_law_times" s_law_times ["_law_prime_here", "_law_one", "_law_other"] f fd) {a_PRIMES : Addr} {t_MOST_TERMS : Tok} {a_PowerError : Addr} {a_BadPrime : Addr} {a_BadCount : Addr} {a_BadTerms : Addr} (B : Blt K mg a_PRIMES t_MOST_TERMS a_PowerError a_BadPrime a_BadCount a_BadTerms) : Cal P w K mg base CX0 "_law_times" 1 ["_law_prime_here", "_law_one", "_law_other"] (spLTimes K) := by
  refine D.cal (D.F.ok sc_law_times (fun vs H Q E h => ?_) (fun cdv A outer s H vs Q E hr h => ?_))
  · obtain ⟨p, a, b, xs, ys, rfl, _⟩ := h
    rfl
  · obtain ⟨p, a, b, xs, ys, rfl, hp, ha, hb, hs, hx, q⟩ := h
    refine ⟨_, (pss_cons (ps_set (i := 3) sc_law_times.nd rfl (Or.inl rfl) (pe_callB (call_min2 rfl) (by rfl) B.min (by decide +kernel) (pa_cons (pe_callB (r := rLenS K) call_len_seq (by rfl) B.len PySem.boot_len (pa_cons (pv 1) pa_nil)) (pa_cons (pe_callB (r := rLenS K) call_len_seq (by rfl) B.len PySem.boot_len (pa_cons (pv 2) pa_nil)) pa_nil))))
    (pss_cons (ps_set (i := 4) sc_law_times.nd rfl (Or.inl rfl) (pe_op op_rep (pe_lst (pa_cons pe_int pa_nil)) (pv 3)))
    (pss_cons (ps_for PassesOwn.never rfl (pi_range1 rfl B.range (pa_cons (pv 3) pa_nil)) (pg_name (i := 5) sc_law_times.nd rfl (Or.inl rfl)) (pss_one (ps_for PassesOwn.never rfl (pi_range1 rfl B.range (pa_cons (pe_op op_sub (pv 3) (pv 5)) pa_nil)) (pg_name (i := 6) sc_law_times.nd rfl (Or.inl rfl)) (pss_cons (ps_set (i := 7) sc_law_times.nd rfl (Or.inl rfl) (pe_op op_add (pe_ix (r := rIxL K) ix_list (pv 4) (pe_op op_add (pv 5) (pv 6)) (fun _ _ => rfl)) (pe_op op_mulV (pe_ix (r := rIxL K) ix_list (pv 1) (pv 5) (fun _ _ => rfl)) (pe_ix (r := rIxL K) ix_list (pv 2) (pv 6) (fun _ _ => rfl)))))
    (pss_one (ps_asg (pe_op op_mod (pv 7) (pv 0)) (pg_sub (pv 4) (pe_op op_add (pv 5) (pv 6)) set_list)))))))
    (pss_one (ps_ret (pv 4)))))), ?_⟩
    generalize hm : min xs.length ys.length = m
    have mx : m ≤ xs.length := by omega
    have my : m ≤ ys.length := by omega
    refine q_asg (v := .int (m : Int)) (by rw [← hm]; walk_at "ev") fun H1 e1 => ?_
    refine q_asgL (xs := ((List.range m).map fun k => pc (sq xs) (sq ys) 0 k % p).map V.int) (el_is (el_rep (n := (m : Int)) (el_lst (ea_cons ev_c ea_nil) (by decide)) (ev_var rfl) (by omega) rfl) ?_) fun l H2 nl e2 hl => ?_
    · rw [Int.toNat_natCast, rep_one, rep_map]
      congr 1
    have nl0 : H l = none := fresh_back e1 nl
    refine q_forR1 (n := (m : Int)) (by walk_at "ev") (by omega) (fun i σ' H' => ∃ z1 z2 z3, σ' = [some (.int p), some (.ref a), some (.ref b), some (.int (m : Int)), some (.ref l), z1, z2, z3] ∧ Ex H H' ∧ H' l = some (.lst (((List.range m).map fun k => pc (sq xs) (sq ys) i k % p).map V.int)))
      (fun H3 e3 => ⟨none, none, none, rfl, (e1.trans e2).trans e3, e3 l _ hl⟩) (fun i σ' H' hi hP => ?_) fun σ' H' hP => ?_
    · obtain ⟨z1, z2, z3, rfl, e, hl'⟩ := hP
      refine s_forR1 (n := ((m - i : Nat) : Int)) (ea_cons (ev_is (ev_op (ev_var rfl) (ev_var rfl) rv_I0) (by show V.int _ = V.int _; congr 1; omega)) ea_nil) (by omega) (fun j σ' H' => ∃ z2 z3, σ' = [some (.int p), some (.ref a), some (.ref b), some (.int (m : Int)), some (.ref l), some (.int (i : Int)), z2, z3] ∧ Ex H H' ∧ H' l = some (.lst (((List.range m).map fun k => pcx (sq xs) (sq ys) i j k % p).map V.int)))
        (fun H3 e3 => ⟨_, _, rfl, e.trans e3, ?_⟩) (fun j σ' H' hj hP => ?_) fun σ' H' hP => ?_
      · rw [e3 l _ hl']
        congr 3
        apply List.map_congr_left
        intro k _
        rw [pcx_zero]
      · obtain ⟨z2, z3, rfl, e, hl'⟩ := hP
        have g1 : SqL K H' l (((List.range m).map fun k => pcx (sq xs) (sq ys) i j k % p).map V.int) := sq_of hl'
        have sx := hs.at i
        have nn : i + j < m := by omega
        refine q_asg (v := .int (pcx (sq xs) (sq ys) i j (i + j) % p + sq xs i * sq ys j)) (ev_is (ev_op (ev_op (ev_var rfl) (ev_op (ev_var rfl) (ev_var rfl) rv_I0) (rv_at g1 (n := i + j) (by omega) (by rw [List.length_map, List.length_range]; exact nn))) (ev_op (ev_op (ev_var rfl) (ev_var rfl) (rv_at (ex_l e ha) (n := i) rfl (by omega))) (ev_op (ev_var rfl) (ev_var rfl) (rv_at (ex_l e hb) (n := j) rfl (by omega))) (rv_I (mul_l (by omega)))) rv_I0) ?_) fun H3 e3 => ?_
        · rw [sq_map_range nn]
        · refine s_setL (j := i + j) (v := .int (pcx (sq xs) (sq ys) i (j + 1) (i + j) % p)) (e3 l _ hl') (ev_is (ev_op (ev_var rfl) (ev_var rfl) (rv_I (by walk_at "cond"))) ?_) (ev_var rfl) (ev_is (ev_op (ev_var rfl) (ev_var rfl) rv_I0) (by show V.int _ = V.int _; congr 1)) (by rw [List.length_map, List.length_map, List.length_range]; exact nn) fun H4 e4 => ?_
          · show V.int _ = V.int _
            rw [pcx_at]
            congr 1
            exact em_add (em_em _) rfl
          · refine ⟨_, _, rfl, Ex.mut ((e.trans e3).trans e4) nl0, ?_⟩
            rw [upd_same, List.map_map, List.map_map, set_map_range]
            congr 2
            apply List.map_congr_left
            intro k _
            show (if k = i + j then _ else V.int (pcx (sq xs) (sq ys) i j k % p)) = V.int (pcx (sq xs) (sq ys) i (j + 1) k % p)
            by_cases c : k = i + j
            · rw [if_pos c, c]
            · rw [if_neg c, pcx_else _ _ c]
      · obtain ⟨z2, z3, rfl, e, hl'⟩ := hP
        refine ⟨_, _, _, rfl, e, ?_⟩
        rw [hl']
        congr 3
        apply List.map_congr_left
        intro k hk
        have hk := List.mem_range.mp hk
        rw [pcx_full _ _ (by omega)]
    · obtain ⟨z1, z2, z3, rfl, e, hl'⟩ := hP
      have el : prodL p xs ys = (List.range m).map fun k => pc (sq xs) (sq ys) (m : Int).toNat k % p := by
        unfold prodL
        rw [hm]
        apply List.map_congr_left
        intro k hk
        rw [Int.toNat_natCast, pc_cv _ _ (List.mem_range.mp hk)]
      rw [← el] at hl'
      exact s_ret (ev_var rfl) fun H3 e3 => q l H3 nl0 (e.trans e3) (e3 l _ hl')
theorem spl_l_times {H : Hp} {p : Int} {a b : Addr} {xs ys : List Int} (hp : 0 < p) (ha : SqL K H a (xs.map V.int)) (hb : SqL K H b (ys.map V.int)) (hs : Sml xs) (hx : xs.length ≤ 1000) : SpL (spLTimes K) [.int p, .ref a, .ref b] H ((prodL p xs ys).map V.int) :=
  fun H1 e Q q E => ⟨p, a, b, xs, ys, rfl, hp, ex_l e ha, ex_l e hb, hs, hx, q⟩

/-! ### the law's terms -/
theorem TmsR.upd {H : Hp} {l : Addr} {xs : List V} {o : HO} {rs : List Addr} {ts : List Tm} (h : TmsR H rs ts) (hl : H l = some (.lst xs)) : TmsR (L2.upd H l o) rs ts := ⟨h.1, fun i t hi => by
  obtain ⟨r, h1, h2⟩ := h.2 i t hi
  exact ⟨r, h1, by rw [upd_ne (fun z => by rw [z, hl] at h2; cases h2)]; exact h2⟩⟩
theorem TmsR.snoc {H : Hp} {rs : List Addr} {ts : List Tm} {r : Addr} {t : Tm} (h : TmsR H rs ts) (hr : H r = some (.tup [.int t.r, .int (t.s : Int), .int (t.k : Int)])) : TmsR H (rs ++ [r]) (ts ++ [t]) := by
  refine ⟨by rw [List.length_append, List.length_append, h.1]; rfl, fun i u hi => ?_⟩
  by_cases c : i < ts.length
  · rw [List.getElem?_append_left c] at hi
    obtain ⟨r', h1, h2⟩ := h.2 i u hi
    exact ⟨r', by rw [List.getElem?_append_left (by rw [h.1]; exact c)]; exact h1, h2⟩
  · rw [List.getElem?_append_right (by omega)] at hi
    have c2 : i - ts.length = 0 := by
      have := (List.getElem?_eq_some_iff.mp hi).1
      rw [List.length_singleton] at this
      omega
    rw [c2] at hi
    cases hi
    refine ⟨r, ?_, hr⟩
    rw [List.getElem?_append_right (by rw [h.1]; omega), h.1, c2]
    rfl
def spLTerms (K : PySem.W.Frag) : Sp := fun vs H Q _ => ∃ (a : Addr) (ns : List Int) (b p : Int), vs = [.ref a, .int b, .int p] ∧ SqL K H a (ns.map V.int) ∧ (∀ z ∈ ns, Builtin.Int.intBits z ≤ 1048576) ∧ 0 ≤ b ∧ b ≤ 1000 ∧ 0 < p ∧
  ∀ (l : Addr) (rs : List Addr) (H2 : Hp), H l = none → Ex H H2 → H2 l = some (.lst (rs.map V.ref)) → TmsR H2 rs (lterms ns b p) → Q (.ref l) H2
theorem ok_law_terms {f : Addr} {fd : FuncData} (D : Dat K mg "_law_terms" s_law_terms ["_law_script", "_law_by", "_law_prime_here"] f fd) {a_PRIMES : Addr} {t_MOST_TERMS : Tok} {a_PowerError : Addr} {a_BadPrime : Addr} {a_BadCount : Addr} {a_BadTerms : Addr} (B : Blt K mg a_PRIMES t_MOST_TERMS a_PowerError a_BadPrime a_BadCount a_BadTerms) (C_law_number : Cal P w K mg base CX0 "_law_number" 1 ["_law_cell", "_law_at", "_law_whole"] spLNumber) : Cal P w K mg base CX0 "_law_terms" 2 ["_law_script", "_law_by", "_law_prime_here"] (spLTerms K) := by
  refine D.cal (D.F.ok sc_law_terms (fun vs H Q E h => ?_) (fun cdv A outer s H vs Q E hr h => ?_))
  · obtain ⟨a, ns, b, p, rfl, _⟩ := h
    rfl
  · obtain ⟨a, ns, b, p, rfl, ha, hbits, b0, b1, hp, q⟩ := h
    have lc := lcells_len ns
    refine ⟨_, (pss_cons (ps_set (i := 3) sc_law_terms.nd rfl (Or.inl rfl) (pe_ifExp (pt_cmpR (r := rNeD K) (op_neD hr.units) (pv 0) (pe_lst pa_nil) (nomark _)) (pe_slice (r := rSlL K) sl_list (pv 0) po_none (po_some pe_int)) (pe_lst (pa_cons pe_int pa_nil))))
    (pss_cons (ps_par (i := 4) (j := 5) (by rfl) sc_law_terms.nd rfl rfl (by decide) rfl rfl (pa_cons (pe_op op_add (pe_callB call_abs (by rfl) B.abs (by decide +kernel) (pa_cons (pe_callB (r := rSum K) (cr_sum rfl) (by rfl) B.sum (by decide +kernel) (pa_cons (pv 3) pa_nil)) pa_nil)) (pv 1)) (pa_cons (pe_lst pa_nil) pa_nil)) (by rfl))
    (pss_cons (ps_for PassesOwn.never rfl (pi_range1 rfl B.range (pa_cons (pe_op op_add pe_int (pe_op op_mod (pv 4) pe_int)) pa_nil)) (pg_name (i := 6) sc_law_terms.nd rfl (Or.inl rfl)) (pss_cons (ps_set (i := 7) sc_law_terms.nd rfl (Or.inl rfl) (pe_op op_fdiv (pe_c0 C_law_number (hr.mono (by decide)) (pa_cons (pe_ix (r := rIxL K) ix_list (pv 3) (pe_op op_mod (pe_op op_add (pv 6) (pv 1)) (pe_callB (r := rLenS K) call_len_seq (by rfl) B.len PySem.boot_len (pa_cons (pv 3) pa_nil))) (fun _ _ => rfl)) (pa_cons (pe_op op_add (pv 6) (pv 1)) (pa_cons (pv 4) pa_nil)))) pe_int))
    (pss_cons (ps_par (i := 8) (j := 9) (by rfl) sc_law_terms.nd rfl rfl (by decide) rfl rfl (pa_cons (pe_op op_add pe_int (pe_op op_mod (pe_op op_fdiv (pv 7) pe_int) pe_int)) (pa_cons (pe_op op_mod (pe_op op_fdiv (pv 7) pe_int) pe_int) pa_nil)) (by rfl))
    (pss_cons (ps_set (i := 10) sc_law_terms.nd rfl (Or.inl rfl) (pe_or (pe_cmpR op_gt (pv 6) pe_int (nomark _)) (pe_one (pe_cmpR op_eq (pe_op op_mod (pv 4) pe_int) pe_int (nomark _)))))
    (pss_one (ps_expr (pe_bm PySem.F.plainAttrs_list PySem.F.slot_list_append PySem.F.type_list_append mt_append (pv 5) (pa_cons (pe_tup (pa_cons (pe_op op_mod (pv 7) (pv 2)) (pa_cons (pe_ifExp (pt_val (pv 10)) (pv 8) pe_int) (pa_cons (pe_ifExp (pt_val (pv 10)) (pv 9) pe_int) pa_nil)))) pa_nil))))))))
    (pss_one (ps_ret (pv 5)))))), ?_⟩
    refine q_asgL (xs := (lcells ns).map V.int) (el_if (b := !decide (ns = [])) (et_test (ev_opL (ev_var rfl) (el_lst ea_nil (by decide)) fun t H1 h1 e1 => rv_neL (ms := []) (ex_l e1 ha) (sq_of h1))) (fun hb => ?_) fun hb => ?_) fun c H1 nc e1 hc => ?_
    · have hn : ¬ ns = [] := fun z => by
        rw [decide_eq_true z] at hb
        cases hb
      refine el_is (el_sl (ev_var rfl) eo_none (eo_some ev_c) ha) ?_
      rw [show lcells ns = ns.take 63 from if_neg hn]
      exact cut_to ns 63
    · have hn : ns = [] := by
        by_cases z : ns = []
        · exact z
        · rw [decide_eq_false z] at hb
          cases hb
      refine el_is (el_lst (ea_cons ev_c ea_nil) (by decide)) ?_
      rw [show lcells ns = [5] from if_pos hn]
      rfl
    · generalize hW : absI (lcells ns).sum + b = W
      have W0 : 0 ≤ W := by
        have := absI_nonneg (lcells ns).sum
        omega
      refine q_parL (x := .int W) (xs := []) (ev_is (ev_op (ev_cb (ea_cons (ev_cb (ea_cons (ev_var rfl) ea_nil) (rc_sum (sq_of hc))) ea_nil) rc_abs) (ev_var rfl) rv_I0) ?_) (el_lst ea_nil (by decide)) fun l H2 nl e2 hl => ?_
      · rw [← hW]
        rfl
      have e12 := e1.trans e2
      have nl0 : H l = none := fresh_back e1 nl
      refine q_forR1 (n := 1 + W % 6) (ea_cons (ev_op ev_c (ev_op (ev_var rfl) ev_c (rv_I (by walk_at "cond"))) rv_I0) ea_nil) (by omega)
        (fun i σ' H' => ∃ (z1 z2 z3 z4 z5 : Option V) (rs : List Addr), σ' = [some (.ref a), some (.int b), some (.int p), some (.ref c), some (.int W), some (.ref l), z1, z2, z3, z4, z5] ∧ Ex H H' ∧ H' c = some (.lst ((lcells ns).map V.int)) ∧ H' l = some (.lst (rs.map V.ref)) ∧ TmsR H' rs ((List.range i).map (ltermAt ns b p)))
        (fun H3 e3 => ⟨none, none, none, none, none, [], rfl, e12.trans e3, e3 c _ (e2 c _ hc), e3 l _ hl, rfl, fun i t h => by cases h⟩) (fun i σ' H' hi hP => ?_) fun σ' H' hP => ?_
      · obtain ⟨z1, z2, z3, z4, z5, rs, rfl, e, hc', hl', hT⟩ := hP
        have lr : rs.length = i := by
          rw [hT.1, List.length_map, List.length_range]
        have len0 : (0 : Int) < ((lcells ns).length : Int) := by omega
        have ix0 := Int.emod_nonneg ((i : Int) + b) (show ((lcells ns).length : Int) ≠ 0 by omega)
        have ix1 := Int.emod_lt_of_pos ((i : Int) + b) len0
        have hbit : Builtin.Int.intBits (sq (lcells ns) (((i : Int) + b) % ((lcells ns).length : Int)).toNat) ≤ 1048576 := by
          rcases lcells_mem (sq_mem (xs := lcells ns) (n := (((i : Int) + b) % ((lcells ns).length : Int)).toNat) (by omega)) with h | h
          · exact hbits _ h
          · rw [h]
            exact Nat.le_trans (intBits_small (by decide)) (by decide)
        refine q_asg (v := .int (ltermsNum ns b i)) (ev_is (ev_op (ev_call (ea_cons (ev_op (ev_var rfl) (ev_op (ev_op (ev_var rfl) (ev_var rfl) rv_I0) (ev_cb (ea_cons (ev_var rfl) ea_nil) (rc_lenI (sq_of hc'))) (rv_I (by walk_at "cond"))) (rv_at (sq_of hc') (n := (((i : Int) + b) % ((lcells ns).length : Int)).toNat) (by omega) (by omega))) (ea_cons (ev_op (ev_var rfl) (ev_var rfl) rv_I0) (ea_cons (ev_var rfl) ea_nil))) (spv_l_number hbit (by omega) (by omega))) ev_c (rv_I (by walk_at "cond"))) ?_) fun H3 e3 => ?_
        · show V.int _ = V.int _
          unfold ltermsNum
          rw [hW]
        generalize hN : ltermsNum ns b i = N
        refine q_par (x := .int (1 + N / 11 % 4)) (y := .int (N / 47 % 4)) (ev_op ev_c (ev_op (ev_op (ev_var rfl) ev_c (rv_I (by walk_at "cond"))) ev_c (rv_I (by walk_at "cond"))) rv_I0) (ev_op (ev_op (ev_var rfl) ev_c (rv_I (by walk_at "cond"))) ev_c (rv_I (by walk_at "cond"))) fun H4 e4 => ?_
        refine q_asg (v := .bl (decide (0 < i) || decide (W % 3 = 0))) (ev_orV (a := decide (0 < i)) (b := decide (W % 3 = 0)) (ev_is (ev_op (ev_var rfl) ev_c rv_I0) ?_) fun _ => ev_is (ev_op (x := .int (W % 3)) (ev_op (ev_var rfl) ev_c (rv_I (by walk_at "cond"))) ev_c (rv_eq rfl)) ?_) fun H5 e5 => ?_
        · show V.bl (decide ((0 : Int) < (i : Int))) = V.bl (decide (0 < i))
          congr 1
          exact decide_eq_decide.mpr (by omega)
        · show V.bl (decide (V.int (W % 3) = V.int 0)) = V.bl (decide (W % 3 = 0))
          congr 1
          exact decide_eq_decide.mpr ⟨fun z => V.int.inj z, fun z => by rw [z]⟩
        generalize hF : (decide (0 < i) || decide (W % 3 = 0)) = F
        have e35 := (e3.trans e4).trans e5
        refine s_appU (ys := [.int (N % p), .int (if F = true then 1 + N / 11 % 4 else 1), .int (if F = true then N / 47 % 4 else 0)]) (e35 l _ hl') (ev_var rfl) (eu_tup (ea_cons (ev_op (ev_var rfl) (ev_var rfl) (rv_I (by walk_at "cond"))) (ea_cons (ev_if (b := F) (et_B (ev_var rfl)) (fun hb => by rw [if_pos hb]; exact ev_var rfl) (fun hb => by rw [if_neg (by rw [hb]; decide)]; exact ev_c)) (ea_cons (ev_if (b := F) (et_B (ev_var rfl)) (fun hb => by rw [if_pos hb]; exact ev_var rfl) (fun hb => by rw [if_neg (by rw [hb]; decide)]; exact ev_c)) ea_nil))) (by show (3 : Nat) ≤ 100000; decide)) (by rw [List.length_map, lr]; omega) fun t H6 n6 e6 ht => ?_
        have e36 := e35.trans e6
        refine ⟨_, _, _, _, _, rs ++ [t], rfl, Ex.mut (e.trans e36) nl0, ?_, ?_, ?_⟩
        · rw [upd_ne (ne_of_none hc (show H1 l = none from nl))]
          exact e36 c _ hc'
        · rw [upd_same, List.map_append]
          rfl
        · rw [List.range_succ, List.map_append]
          refine ((hT.ex e36).snoc (t := ltermAt ns b p i) ?_).upd (e36 l _ hl')
          rw [ht]
          unfold ltermAt
          rw [hN, hW, hF]
          cases F with
          | true =>
            show some (HO.tup [V.int (N % p), V.int (1 + N / 11 % 4), V.int (N / 47 % 4)]) = some (HO.tup [V.int (N % p), V.int (((1 + N / 11 % 4).toNat : Nat) : Int), V.int (((N / 47 % 4).toNat : Nat) : Int)])
            rw [Int.toNat_of_nonneg (by omega), Int.toNat_of_nonneg (by omega)]
          | false => rfl
      · obtain ⟨z1, z2, z3, z4, z5, rs, rfl, e, hc', hl', hT⟩ := hP
        have el : lterms ns b p = (List.range (1 + W % 6).toNat).map (ltermAt ns b p) := by
          unfold lterms
          rw [hW]
        rw [← el] at hT
        exact s_ret (ev_var rfl) fun H3 e3 => q l rs H3 nl0 (e.trans e3) (e3 l _ hl') (hT.ex e3)

/-! ### the law's own look at a rule -/
def spKept (K : PySem.W.Frag) : Sp := fun vs H Q _ => ∃ (p : Int) (a b : Addr) (rs : List Addr) (ts : List Tm) (xs : List Int), vs = [.int p, .ref a, .ref b] ∧ Prm p ∧ H a = some (.lst (rs.map V.ref)) ∧ TmsR H rs ts ∧ (∀ t ∈ ts, TmOk p t) ∧ ts.length ≤ 6 ∧ H b = some (.lst (xs.map V.int)) ∧ Rowp p xs ∧ RetL ((kst p xs ts).map V.int) H Q
theorem ok_law_kept {f : Addr} {fd : FuncData} (D : Dat K mg "_law_kept" s_law_kept ["_law_prime_here", "_law_terms_here", "_law_row_here"] f fd) {a_PRIMES : Addr} {t_MOST_TERMS : Tok} {a_PowerError : Addr} {a_BadPrime : Addr} {a_BadCount : Addr} {a_BadTerms : Addr} (B : Blt K mg a_PRIMES t_MOST_TERMS a_PowerError a_BadPrime a_BadCount a_BadTerms) (C_law_times : Cal P w K mg base CX0 "_law_times" 1 ["_law_prime_here", "_law_one", "_law_other"] (spLTimes K)) : Cal P w K mg base CX0 "_law_kept" 2 ["_law_prime_here", "_law_terms_here", "_law_row_here"] (spKept K) := by
  refine D.cal (D.F.ok sc_law_kept (fun vs H Q E h => ?_) (fun cdv A outer s H vs Q E hr h => ?_))
  · obtain ⟨p, a, b, rs, ts, xs, rfl, _⟩ := h
    rfl
  · obtain ⟨p, a, b, rs, ts, xs, rfl, hp, ha, hT, hO, l6, hb, R, q⟩ := h
    have p2 := hp.pos
    have x1 := R.lo
    have x2 := R.hi
    have lr := hT.1
    have PR : ∀ k, Rowp p (powL p xs k) := fun k => powL_rowp (by omega) R k
    refine ⟨_, (pss_cons (ps_set (i := 3) sc_law_kept.nd rfl (Or.inl rfl) (pe_op op_rep (pe_lst (pa_cons pe_int pa_nil)) (pe_callB (r := rLenS K) call_len_seq (by rfl) B.len PySem.boot_len (pa_cons (pv 2) pa_nil))))
    (pss_cons (ps_for PassesOwn.never rfl (pi_list (pv 1)) (pg_tup rfl (pgs_cons (pg_name (i := 4) sc_law_kept.nd rfl (Or.inl rfl)) (pgs_cons (pg_name (i := 5) sc_law_kept.nd rfl (Or.inl rfl)) (pgs_cons (pg_name (i := 6) sc_law_kept.nd rfl (Or.inl rfl)) pgs_nil)))) (pss_cons (ps_set (i := 7) sc_law_kept.nd rfl (Or.inl rfl) (pe_op op_cat (pe_lst (pa_cons pe_int pa_nil)) (pe_op op_rep (pe_lst (pa_cons pe_int pa_nil)) (pe_op op_sub (pe_callB (r := rLenS K) call_len_seq (by rfl) B.len PySem.boot_len (pa_cons (pv 2) pa_nil)) pe_int))))
    (pss_cons (ps_for PassesOwn.never rfl (pi_range1 rfl B.range (pa_cons (pv 6) pa_nil)) (pg_name (i := 8) sc_law_kept.nd rfl (Or.inl rfl)) (pss_one (ps_set (i := 7) sc_law_kept.nd rfl (Or.inl rfl) (pe_c0 C_law_times (hr.mono (by decide)) (pa_cons (pv 0) (pa_cons (pv 7) (pa_cons (pv 2) pa_nil)))))))
    (pss_one (ps_for PassesOwn.never rfl (pi_enum (by rfl) B.enumerate (pa_cons (pe_slice (r := rSlL K) sl_list (pv 7) po_none (po_some (pe_callB (call_max2 rfl) (by rfl) B.max (by decide +kernel) (pa_cons pe_int (pa_cons (pe_op op_sub (pe_callB (r := rLenS K) call_len_seq (by rfl) B.len PySem.boot_len (pa_cons (pv 2) pa_nil)) (pv 5)) pa_nil))))) pa_nil)) (pg_tup rfl (pgs_cons (pg_name (i := 9) sc_law_kept.nd rfl (Or.inl rfl)) (pgs_cons (pg_name (i := 10) sc_law_kept.nd rfl (Or.inl rfl)) pgs_nil))) (pss_cons (ps_set (i := 11) sc_law_kept.nd rfl (Or.inl rfl) (pe_op op_add (pe_ix (r := rIxL K) ix_list (pv 3) (pe_op op_add (pv 9) (pv 5)) (fun _ _ => rfl)) (pe_op op_mulV (pv 4) (pv 10))))
    (pss_one (ps_asg (pe_op op_mod (pv 11) (pv 0)) (pg_sub (pv 3) (pe_op op_add (pv 9) (pv 5)) set_list)))))))))
    (pss_one (ps_ret (pv 3))))), ?_⟩
    refine q_asgL (xs := (kst p xs []).map V.int) (el_is (el_rep (n := (xs.length : Int)) (el_lst (ea_cons ev_c ea_nil) (by decide)) (ev_cb (by walk_at "ev") (rc_lenI (sq_of hb))) (by omega) rfl) ?_) fun l H1 nl e1 hl => ?_
    · rw [Int.toNat_natCast, rep_one, kst_nil, List.map_replicate]
    refine q_forG (eg_list (ev_var rfl) (sq_of (e1 _ _ ha))) (fun i σ' H' => ∃ z1 z2 z3 z4 z5 z6 z7 z8 : Option V, σ' = [some (.int p), some (.ref a), some (.ref b), some (.ref l), z1, z2, z3, z4, z5, z6, z7, z8] ∧ Ex H H' ∧ H' l = some (.lst ((kst p xs (ts.take i)).map V.int)))
      (fun H2 e2 => ⟨_, _, _, _, _, _, _, _, rfl, e1.trans e2, e2 _ _ hl⟩) (fun i σ' H' _ hP => ?_) (fun i x σ' H' H2 hi hP hy => ?_) fun σ' H' hP => ?_
    · obtain ⟨_, _, _, _, _, _, _, _, _, e, _⟩ := hP
      exact sq_of (e _ _ ha)
    · obtain ⟨z1, z2, z3, z4, z5, z6, z7, z8, rfl, e, hl'⟩ := hP
      obtain ⟨rfl, hx⟩ := hy
      obtain ⟨r, t, ht, rfl, hr1⟩ := hT.item hx
      have O := hO t (List.mem_of_getElem? ht)
      have o1 := O.r
      have o2 := O.s
      have o3 := O.k
      have tk : ts.take (i + 1) = ts.take i ++ [t] := by
        rw [List.take_succ, ht]
        rfl
      refine g_tup3 (st_of (e _ _ hr1)) ?_
      have hb' := e _ _ hb
      refine q_asgL (xs := (powL p xs 0).map V.int) (el_is (el_catLL (el_lst (ea_cons ev_c ea_nil) (by decide)) (el_rep (n := ((xs.length - 1 : Nat) : Int)) (el_lst (ea_cons ev_c ea_nil) (by decide)) (ev_is (ev_op (ev_cb (by walk_at "ev") (rc_lenI (sq_of hb'))) ev_c rv_I0) (by show V.int _ = V.int _; congr 1; omega)) (by omega) rfl) ?_) ?_) fun h0 H3 nh e3 hh => ?_
      · rw [Int.toNat_natCast, rep_one, List.length_replicate]
        show 1 + (xs.length - 1) ≤ 100000
        omega
      · rw [Int.toNat_natCast, rep_one, powL_zero (by omega) x1, List.map_cons, List.map_replicate]
        rfl
      refine q_forR1 (n := (t.k : Int)) (by walk_at "ev") (by omega) (fun m σ' H'' => ∃ (hh : Addr) (z5 : Option V), σ' = [some (.int p), some (.ref a), some (.ref b), some (.ref l), some (.int t.r), some (.int (t.s : Int)), some (.int (t.k : Int)), some (.ref hh), z5, z6, z7, z8] ∧ Ex H2 H'' ∧ H'' hh = some (.lst ((powL p xs m).map V.int)))
        (fun H4 e4 => ⟨_, _, rfl, e3.trans e4, e4 _ _ hh⟩) (fun m σ' H'' hm hP => ?_) fun σ' H'' hP => ?_
      · obtain ⟨g, z5, rfl, e4, hg⟩ := hP
        refine s_asgL (xs := (powL p xs (m + 1)).map V.int) (el_call (by walk_at "ev") ?_) fun g2 H5 n5 e5 hg2 => ⟨_, _, rfl, e4.trans e5, hg2⟩
        have z := spl_l_times (K := K) (p := p) (xs := powL p xs m) (ys := xs) (by omega) (sq_of hg) (sq_of (e4 _ _ hb')) ((PR m).sml (by omega)) (by rw [powL_len]; omega)
        rw [powL_succ R] at z
        exact z
      · obtain ⟨g, z5, rfl, e4, hg⟩ := hP
        rw [Int.toNat_natCast] at hg
        have hl4 := e4 _ _ hl'
        have hb4 := e4 _ _ hb'
        have pl := powL_len p xs t.k
        -- what is put in, place by place
        generalize hM : xs.length - t.s = M
        refine s_forN (xs := ((powL p xs t.k).take M).map V.int) (en_enum (el_is (el_sl (ev_var rfl) eo_none (eo_some (i := (M : Int)) (ev_is (ev_cb (ea_cons ev_c (ea_cons (ev_op (ev_cb (by walk_at "ev") (rc_lenI (sq_of hb4))) (ev_var rfl) rv_I0) ea_nil)) rc_max) ?_)) (sq_of hg)) (cut_to _ _))) (fun q0 m σ' H5 => ∃ z6 z7 z8 : Option V, σ' = [some (.int p), some (.ref a), some (.ref b), some (.ref l), some (.int t.r), some (.int (t.s : Int)), some (.int (t.k : Int)), some (.ref g), z5, z6, z7, z8] ∧ Ex H H5 ∧ H5 l = some (.lst ((kin p xs (ts.take i) t m).map V.int)) ∧ H5 q0 = some (.lst (((powL p xs t.k).take M).map V.int)) ∧ q0 ≠ l)
          (fun q0 H5 n5 e5 h5 => ⟨_, _, _, rfl, (e.trans e4).trans e5, ?_, h5, Ne.symm (ne_of_none hl4 n5)⟩) (fun q0 m σ' H5 _ hP => ?_) (fun q0 m x σ' H5 H6 hm hP hy => ?_) fun q0 σ' H5 hP => ?_
        · show V.int _ = V.int _
          congr 1
          split <;> omega
        · rw [kin_zero]
          exact e5 _ _ hl4
        · obtain ⟨_, _, _, _, _, _, hq, _⟩ := hP
          exact sq_of hq
        · obtain ⟨z6, z7, z8, rfl, e5, hl5, hq5, hne⟩ := hP
          rw [List.length_map, List.length_take, pl] at hm
          refine g_pair hy fun y z H7 hy1 hz1 e7 => ?_
          cases hy1
          rw [List.getElem?_map, sq_at (by rw [List.length_take, pl]; omega), sq_take (by omega)] at hz1
          cases hz1
          have hb7 : m + t.s < xs.length := by omega
          have pk := (PR t.k).at (n := m) (by rw [pl]; omega)
          have kl := kin_len p xs (ts.take i) t m
          refine q_asg (v := .int (sq (kin p xs (ts.take i) t m) (m + t.s) + t.r * sq (powL p xs t.k) m)) (ev_op (ev_op (ev_var rfl) (ev_op (ev_var rfl) (ev_var rfl) rv_I0) (rv_at (sq_of (e7 _ _ hl5)) (n := m + t.s) (by omega) (by omega))) (ev_op (ev_var rfl) (ev_var rfl) (rv_I (mul_l (by omega)))) rv_I0) fun H8 e8 => ?_
          refine s_setL (j := m + t.s) (e8 _ _ (e7 _ _ hl5)) (ev_op (ev_var rfl) (ev_var rfl) (rv_I (by walk_at "cond"))) (ev_var rfl) (ev_is (ev_op (ev_var rfl) (ev_var rfl) rv_I0) (by show V.int _ = V.int _; congr 1)) (by rw [List.length_map, kl]; exact hb7) fun H9 e9 => ?_
          refine ⟨_, _, _, rfl, Ex.mut ((e5.trans e7).trans (e8.trans e9)) nl, ?_, ?_, hne⟩
          · rw [upd_same, ← kin_step p xs (ts.take i) t hb7, List.map_set]
          · rw [upd_ne hne]
            exact e9 _ _ (e8 _ _ (e7 _ _ hq5))
        · obtain ⟨z6, z7, z8, rfl, e5, hl5, hq5, hne⟩ := hP
          rw [List.length_map, List.length_take, pl, kin_full p xs (ts.take i) t (by omega), ← tk] at hl5
          exact ⟨_, _, _, _, _, _, _, _, rfl, e5, hl5⟩
    · obtain ⟨z1, z2, z3, z4, z5, z6, z7, z8, rfl, e, hl'⟩ := hP
      rw [List.length_map, lr, List.take_length] at hl'
      exact s_ret (ev_var rfl) fun H3 e3 => q l H3 nl (e.trans e3) (e3 l _ hl')
theorem spl_l_kept {H : Hp} {p : Int} {a b : Addr} {rs : List Addr} {ts : List Tm} {xs : List Int} (hp : Prm p) (ha : H a = some (.lst (rs.map V.ref))) (hT : TmsR H rs ts) (hO : ∀ t ∈ ts, TmOk p t) (l6 : ts.length ≤ 6) (hb : H b = some (.lst (xs.map V.int))) (R : Rowp p xs) : SpL (spKept K) [.int p, .ref a, .ref b] H ((kst p xs ts).map V.int) :=
  fun H1 e Q q E => ⟨p, a, b, rs, ts, xs, rfl, hp, e _ _ ha, hT.ex e, hO, l6, e _ _ hb, R, q⟩

/-! ### the law -/
def tmD (t : Tm) : PyData := .tuple [.int t.r, .int (t.s : Int), .int (t.k : Int)]
theorem dpa_tms {K : PySem.W.Frag} {H : Hp} : ∀ {rs : List Addr} {ts : List Tm}, TmsR H rs ts → DpAll K H (rs.map V.ref) (ts.map tmD)
  | [], [], _ => .nil
  | [], _ :: _, h => by cases h.1
  | _ :: _, [], h => by cases h.1
  | r :: rs, t :: ts, h => by
    obtain ⟨r', h1, h2⟩ := h.2 0 t rfl
    cases h1
    exact .cons (.tup (st_of h2) (.cons (.int _) (.cons (.int _) (.cons (.int _) .nil)))) (dpa_tms ⟨Nat.succ.inj h.1, fun i u hi => h.2 (i + 1) u hi⟩)
theorem fit_tms (ts : List Tm) : SeqAt.shaped (.list (ts.map tmD)) = true := (fit_list (n := 1) fun d hd => by
  obtain ⟨t, _, rfl⟩ := List.mem_map.mp hd
  exact fit_tuple (n := 0) fun d hd => by
    rcases List.mem_cons.mp hd with rfl | hd
    · exact fit_int _
    rcases List.mem_cons.mp hd with rfl | hd
    · exact fit_int _
    rcases List.mem_cons.mp hd with rfl | hd
    · exact fit_int _
    cases hd).shaped (by decide)
def spLaw (K : PySem.W.Frag) : Sp := fun vs H Q _ => ∃ (a : Addr) (ns : List Int), vs = [.ref a] ∧ SqL K H a (ns.map V.int) ∧ (∀ z ∈ ns, Builtin.Int.intBits z ≤ 1048576) ∧ ∀ H', Q (.bl true) H'
theorem ok_law {f : Addr} {fd : FuncData} (D : Dat K mg "law" s_law ["_law_script"] f fd) {a_PRIMES : Addr} {t_MOST_TERMS : Tok} {a_PowerError : Addr} {a_BadPrime : Addr} {a_BadCount : Addr} {a_BadTerms : Addr} (B : Blt K mg a_PRIMES t_MOST_TERMS a_PowerError a_BadPrime a_BadCount a_BadTerms)
    (C_law_prime : Cal P w K mg base CX0 "_law_prime" 1 ["_law_script", "_law_by"] (spLPrime K)) (C_law_terms : Cal P w K mg base CX0 "_law_terms" 2 ["_law_script", "_law_by", "_law_prime_here"] (spLTerms K))
    (C_grown : Cal P w K mg base CX0 "grown" 10 ["prime", "terms", "many"] spGrown) (C_law_kept : Cal P w K mg base CX0 "_law_kept" 2 ["_law_prime_here", "_law_terms_here", "_law_row_here"] (spKept K)) : FnOk P w K mg base CX0 30 f fd ["_law_script"] (spLaw K) := by
  refine D.F.ok sc_law (fun vs H Q E h => ?_) (fun cdv A outer s H vs Q E hr h => ?_)
  · obtain ⟨a, ns, rfl, _⟩ := h
    rfl
  · obtain ⟨a, ns, rfl, ha, hbits, q⟩ := h
    refine ⟨_, (pss_cons (ps_set (i := 1) sc_law.nd rfl (Or.inl rfl) (pe_callB call_abs (by rfl) B.abs (by decide +kernel) (pa_cons (pe_callB (r := rSum K) (cr_sum rfl) (by rfl) B.sum (by decide +kernel) (pa_cons (pe_slice (r := rSlL K) sl_list (pv 0) po_none (po_some pe_int)) pa_nil)) pa_nil)))
    (pss_cons (ps_for PassesOwn.never rfl (pi_list (pe_lst (pa_cons pe_int (pa_cons pe_int pa_nil)))) (pg_name (i := 2) sc_law.nd rfl (Or.inl rfl)) (pss_cons (ps_asg (pe_tup (pa_cons (pe_c0 C_law_prime (hr.mono (by decide)) (pa_cons (pv 0) (pa_cons (pv 2) pa_nil))) (pa_cons (pe_ifExp (pt_cmpR op_eq (pe_op op_mod (pv 1) pe_int) (pv 2) (nomark _)) pe_int (pe_op op_add pe_int (pe_op op_mod (pe_op op_fdiv (pv 1) pe_int) pe_int))) pa_nil))) (pg_tup rfl (pgs_cons (pg_name (i := 3) sc_law.nd rfl (Or.inr rfl)) (pgs_cons (pg_name (i := 4) sc_law.nd rfl (Or.inl rfl)) pgs_nil))))
    (pss_cons (ps_set (i := 5) sc_law.nd rfl (Or.inl rfl) (pe_c0 C_law_terms (hr.mono (by decide)) (pa_cons (pv 0) (pa_cons (pv 2) (pa_cons (pv 3) pa_nil)))))
    (pss_cons (ps_set (i := 6) sc_law.nd rfl (Or.inl rfl) (pe_callTy (r := rListS K) call_list_of (by rfl) B.list (by decide +kernel) (pa_cons (pv 5) pa_nil)))
    (pss_one (ps_for PassesOwn.never rfl (pi_range1 rfl B.range (pa_cons pe_int pa_nil)) (pg_name (i := 7) sc_law.nd rfl (Or.inl rfl)) (pss_cons (ps_set (i := 8) sc_law.nd rfl (Or.inl rfl) (pe_c0 C_grown (hr.mono (by decide)) (pa_cons (pv 3) (pa_cons (pv 6) (pa_cons (pv 4) pa_nil)))))
    (pss_cons (ps_if (PW.pt (pw_or (pt_not (pt_val (pe_callB (r := rIsi K) call_isi (by rfl) B.isinstance (by decide +kernel) (pa_cons (pv 8) (pa_cons (pe_bltn (v := .ty "list") (by rfl) B.list (by decide +kernel) rfl) pa_nil))))) (pw_or (pt_cmpR op_ne (pe_callB (r := rLenS K) call_len_seq (by rfl) B.len PySem.boot_len (pa_cons (pv 8) pa_nil)) (pv 4) (nomark _)) (pw_or1 (pt_cmpR (r := rNeD K) (op_neD hr.units) (pv 6) (pv 5) (nomark _)))))) (pss_one (ps_ret pe_bl)) pss_nil)
    (pss_cons (ps_if (pt_cmpR op_ne (pe_ix (r := rIxL K) ix_list (pv 8) pe_int (fun _ _ => rfl)) pe_int (nomark _)) (pss_one (ps_ret pe_bl)) pss_nil)
    (pss_cons (ps_if (pt_not (pt_val (pe_callB (r := rAll K) (cr_all rfl) (by rfl) B.all (by decide +kernel) (pa_cons (pe_lc (own := [("_law_one", 9)]) (g := gName 9) (tt := tYes) (by rfl) sc_law.nd (pi_list (pv 8)) (blkOk_by (N := nm_law) (sc := defScope s_law) (by decide +kernel)) (fun _ _ _ _ _ => pg_name (i := 9) sc_law.nd rfl (Or.inl rfl)) (fun _ _ _ _ _ => pts_nil) (fun _ _ _ _ _ => (pe_and (pe_not (pe_callB (r := rIsi K) call_isi (by rfl) B.isinstance (by decide +kernel) (pa_cons (pv 9) (pa_cons (pe_bltn (v := .ty "bool") (by rfl) B.bool (by decide +kernel) rfl) pa_nil)))) (pe_one (pe_chain op_le op_lt pe_int (pv 9) (pv 3)))))) pa_nil)))) (pss_one (ps_ret pe_bl)) pss_nil)
    (pss_cons (ps_set (i := 10) sc_law.nd rfl (Or.inl rfl) (pe_op op_add pe_int (pe_op op_fdiv (pv 4) pe_int)))
    (pss_cons (ps_if (PW.pt (pw_or (pt_cmpR (r := rNeD K) (op_neD hr.units) (pe_c0 C_law_kept (hr.mono (by decide)) (pa_cons (pv 3) (pa_cons (pv 5) (pa_cons (pv 8) pa_nil)))) (pv 8) (nomark _)) (pw_or1 (pt_cmpR (r := rNeD K) (op_neD hr.units) (pe_c0 C_grown (hr.mono (by decide)) (pa_cons (pv 3) (pa_cons (pv 5) (pa_cons (pv 10) pa_nil)))) (pe_slice (r := rSlL K) sl_list (pv 8) po_none (po_some (pv 10))) (nomark _))))) (pss_one (ps_ret pe_bl)) pss_nil)
    (pss_one (ps_expr (pe_bm PySem.F.plainAttrs_list PySem.F.slot_list_append PySem.F.type_list_append mt_append (pv 8) (pa_cons pe_int pa_nil))))))))))))))))
    (pss_cons (ps_set (i := 11) sc_law.nd rfl (Or.inl rfl) (pe_c0 C_grown (hr.mono (by decide)) (pa_cons pe_int (pa_cons (pe_lst (pa_cons (pe_tup (pa_cons pe_int (pa_cons pe_int (pa_cons pe_int pa_nil)))) (pa_cons (pe_tup (pa_cons pe_int (pa_cons pe_int (pa_cons pe_int pa_nil)))) (pa_cons (pe_tup (pa_cons pe_int (pa_cons pe_int (pa_cons pe_int pa_nil)))) pa_nil)))) (pa_cons pe_int pa_nil)))))
    (pss_one (ps_ret (pe_and (pe_cmpR (r := rEqD K) (op_eqD hr.units) (pv 11) (pe_lst (pa_cons pe_int (pa_cons pe_int (pa_cons pe_int (pa_cons pe_int (pa_cons pe_int (pa_cons pe_int (pa_cons pe_int pa_nil)))))))) (nomark _)) (pe_one (pe_cmpR (r := rEqD K) (op_eqD hr.units) (pe_c0 C_grown (hr.mono (by decide)) (pa_cons pe_int (pa_cons (pe_lst (pa_cons (pe_tup (pa_cons pe_int (pa_cons pe_int (pa_cons pe_int pa_nil)))) pa_nil)) (pa_cons pe_int pa_nil)))) (pe_lst (pa_cons pe_int (pa_cons pe_int (pa_cons pe_int pa_nil)))) (nomark _))))))))), ?_⟩
    refine q_asg (v := .int (lwhole ns)) (ev_cb (ea_cons (ev_cbL (el_is (el_sl (ev_var rfl) eo_none (eo_some ev_c) ha) (cut_to ns 63)) fun p H2 h2 e2 => rc_sum (sq_of h2)) ea_nil) rc_abs) fun H0 e0 => ?_
    have hW := lwhole_bits hbits
    have W0 : 0 ≤ lwhole ns := absI_nonneg _
    generalize lwhole ns = W at hW W0 ⊢
    refine q_forNLn (xs := [.int 0, .int 1]) (el_lst (by walk_at "ev") (by decide)) (fun l i σ' H' => ∃ z2 z3 z4 z5 z6 z7 z8 z9 z10 z11, σ' = [some (.ref a), some (.int W), z2, z3, z4, z5, z6, z7, z8, z9, z10, z11] ∧ Ex H H' ∧ H' l = some (.lst [.int 0, .int 1]))
      (fun l H1 n1 e1 h1 => ⟨_, _, _, _, _, _, _, _, _, _, rfl, e0.trans e1, h1⟩) (fun l i σ' H' _ hP => ?_) (fun l i x σ' H' hi hP => ?_) fun l σ' H' hP => ?_
    · obtain ⟨_, _, _, _, _, _, _, _, _, _, _, _, hl⟩ := hP
      exact sq_of hl
    · obtain ⟨z2, z3, z4, z5, z6, z7, z8, z9, z10, z11, rfl, e, hl⟩ := hP
      obtain ⟨b, rfl, hb⟩ : ∃ b : Int, x = .int b ∧ 0 ≤ b ∧ b ≤ 1 := by
        match i, hi with
        | 0, hi => exact ⟨0, (Option.some.inj hi).symm, by decide⟩
        | 1, hi => exact ⟨1, (Option.some.inj hi).symm, by decide⟩
      generalize hn : (if W % 16 = b then 20 else (1 + W / 3 % 10).toNat) = n
      have n1 : 1 ≤ n ∧ n ≤ 20 := by
        rw [← hn]
        split <;> omega
      refine q_asgTII (x := .int (lprime ns b)) (y := .int (n : Int)) (ev_call (by walk_at "ev") (spv_l_prime (ex_l e ha) hb.1)) (ev_if (b := decide (W % 16 = b)) (et_eqN (ev_op (ev_var rfl) ev_c (rv_I (by walk_at "cond"))) (ev_var rfl)) (fun hc => ?_) fun hc => ?_) fun H1 e1 => ?_
      · rw [← hn, if_pos (of_decide_eq_true hc)]
        exact ev_c
      · rw [← hn, if_neg (of_decide_eq_false hc)]
        refine ev_is (ev_op ev_c (ev_op (ev_op (ev_var rfl) ev_c (rv_I (by walk_at "cond"))) ev_c (rv_I (by walk_at "cond"))) rv_I0) ?_
        show V.int (1 + W / 3 % 10) = V.int (((1 + W / 3 % 10).toNat : Nat) : Int)
        rw [Int.toNat_of_nonneg (by omega)]
      have hp := lprime_prm ns b
      generalize lprime ns b = p at hp ⊢
      have p2 := hp.pos
      refine q_asgC (vs := [.ref a, .int b, .int p]) (by walk_at "ev") fun H2 e2 => ⟨a, ns, b, p, rfl, ex_l ((e.trans e1).trans e2) ha, hbits, hb.1, by omega, by omega, fun t rs H3 nt e3 ht hT => ?_⟩
      have hO := lterms_ok (ns := ns) (by_ := b) (p := p) (by omega)
      have lT := lterms_len (ns := ns) (p := p) hb.1
      generalize lterms ns b p = ts at hT hO lT
      refine q_asgL (xs := rs.map V.ref) (el_cb (by walk_at "ev") (rcl_list (sq_of ht))) fun h H4 nh e4 hh => ?_
      have e14 := ((e1.trans e2).trans e3).trans e4
      have hl4 := e14 _ _ hl
      have ht4 := e4 _ _ ht
      have hT4 := hT.ex e4
      have E4 := e.trans e14
      refine s_forR1 (n := 2) (by walk_at "ev") (by decide) (fun i σ' H' => ∃ z7 z8 z9 z10 z11, σ' = [some (.ref a), some (.int W), some (.int b), some (.int p), some (.int (n : Int)), some (.ref t), some (.ref h), z7, z8, z9, z10, z11] ∧ Ex H4 H')
        (fun H5 e5 => ⟨_, _, _, _, _, rfl, e5⟩) (fun k σ' H' hk hP => ?_) fun σ' H' hP => ?_
      · obtain ⟨z7, z8, z9, z10, z11, rfl, e5⟩ := hP
        have GL := grA_len p ts n
        have GR := grA_rest (p := p) (by omega) ts n
        refine q_asgL (xs := (grA p ts n).map V.int) (el_call (by walk_at "ev") (spl_grown hp (e5 _ _ hh) (hT4.ex e5) hO lT.1 lT.2 n1.1 n1.2)) fun g H6 ng e6 hg => ?_
        have e56 := e5.trans e6
        refine q_when (b := false) (et_or (a := false) (b := false) (et_not (a := true) (et_B (ev_cb (by walk_at "ev") (rc_isi_lst hg (by decide +kernel))))) fun _ => et_or (a := false) (b := false) (et_neN (i := (n : Int)) (ev_is (ev_cb (by walk_at "ev") (rc_lenI (sq_of hg))) (by rw [GL])) (ev_var rfl)) fun _ => et_test (ev_op (ev_var rfl) (ev_var rfl) (rv_neSame (d := .list (ts.map tmD)) (.lst (sq_of (e56 _ _ hh)) (dpa_tms (hT4.ex e56))) (.lst (sq_of (e56 _ _ ht4)) (dpa_tms (hT4.ex e56))) (fit_tms ts)))) (fun z => Bool.noConfusion z) fun _ H7 e7 => ?_
        have hg7 := e7 _ _ hg
        refine q_when (b := false) (et_neN (i := 0) (ev_is (ev_op (ev_var rfl) ev_c (rv_at (sq_of hg7) (n := 0) rfl (by omega))) (by rw [grA_zero ts hO (by omega)])) ev_c) (fun z => Bool.noConfusion z) fun _ H8 e8 => ?_
        have hg8 := e8 _ _ hg7
        refine q_when (b := false) (et_not (a := true) (et_B (all_ok (xs := grA p ts n) (ev_var rfl) (sq_of hg8) (by omega) (fun _ => rfl) fun i H9 e9 hi => ?_))) (fun z => Bool.noConfusion z) fun _ H9 e9 => ?_
        · have r := GR _ (sq_mem hi)
          refine ev_is (ev_andV (a := true) (ev_notV (a := false) (ev_cb (by walk_at "ev") (rc_isi_int (by decide +kernel)))) fun _ => ev_chain ev_c (ev_var rfl) rv_I0 (fun _ => ev_var rfl) (fun _ => rv_I0)) ?_
          rw [decide_eq_true r.1, decide_eq_true r.2]
          rfl
        have hg9 := e9 _ _ hg8
        have e79 := (e7.trans e8).trans e9
        refine q_asg (v := .int ((1 + n / 2 : Nat) : Int)) (ev_is (ev_op ev_c (ev_op (ev_var rfl) ev_c (rv_I (by walk_at "cond"))) rv_I0) (by show V.int _ = V.int _; congr 1)) fun H10 e10 => ?_
        have e50 := ((e56.trans e79).trans e10)
        have hg10 := e10 _ _ hg9
        refine q_when (b := false) (et_or (a := false) (b := false) (et_neLV (xs := grA p ts n) (el_is (el_call (by walk_at "ev") (spl_l_kept hp (e50 _ _ ht4) (hT4.ex e50) hO lT.2 hg10 (grA_rowp (p := p) (by omega) ts n1.1 n1.2))) (by rw [kst_grown (p := p) (by omega) hO])) (ev_var rfl) (sq_of hg10)) fun _ => et_neLL (xs := grA p ts (1 + n / 2)) (el_call (by walk_at "ev") (spl_grown (n := 1 + n / 2) hp (e50 _ _ ht4) (hT4.ex e50) hO lT.1 lT.2 (by omega) (by omega))) (el_is (el_sl (ev_var rfl) eo_none (eo_some (ev_var rfl)) (sq_of hg10)) (by rw [cut_to, grA_take p ts (by omega)]))) (fun z => Bool.noConfusion z) fun _ H11 e11 => ?_
        refine s_app (e11 _ _ hg10) (ev_var rfl) ev_c (by rw [List.length_map, GL]; omega) fun H12 e12 => ?_
        exact ⟨_, _, _, _, _, rfl, e5.trans (Ex.mut ((((e6.trans e79).trans e10).trans e11).trans e12) ng)⟩
      · obtain ⟨z7, z8, z9, z10, z11, rfl, e5⟩ := hP
        exact ⟨_, _, _, _, _, _, _, _, _, _, rfl, E4.trans e5, e5 _ _ hl4⟩
    · obtain ⟨z2, z3, z4, z5, z6, z7, z8, z9, z10, z11, rfl, e, hl⟩ := hP
      have q1 : grA 97 [⟨1, 1, 0⟩, ⟨2, 1, 1⟩, ⟨1, 1, 2⟩] 7 = [0, 1, 2, 5, 14, 42, 35] := by decide +kernel
      have q2 : grA 2 [⟨0, 4, 3⟩] 3 = [0, 0, 0] := by decide +kernel
      have O1 : ∀ t ∈ [(⟨1, 1, 0⟩ : Tm), ⟨2, 1, 1⟩, ⟨1, 1, 2⟩], TmOk 97 t := fun t ht => by
        rcases List.mem_cons.mp ht with rfl | ht
        · exact ⟨by decide, by decide, by decide⟩
        rcases List.mem_cons.mp ht with rfl | ht
        · exact ⟨by decide, by decide, by decide⟩
        rcases List.mem_cons.mp ht with rfl | ht
        · exact ⟨by decide, by decide, by decide⟩
        cases ht
      have O2 : ∀ t ∈ [(⟨0, 4, 3⟩ : Tm)], TmOk 2 t := fun t ht => by
        rcases List.mem_cons.mp ht with rfl | ht
        · exact ⟨by decide, by decide, by decide⟩
        cases ht
      refine q_asgL (xs := ([0, 1, 2, 5, 14, 42, 35] : List Int).map V.int) (el_is (el_callP (zs := (grA 97 [⟨1, 1, 0⟩, ⟨2, 1, 1⟩, ⟨1, 1, 2⟩] 7).map V.int) (eap_cons ev_c (eap_consP (elp_lst (eap_consU (eu_tup (by walk_at "ev") (by decide)) (eap_consU (eu_tup (by walk_at "ev") (by decide)) (eap_consU (eu_tup (by walk_at "ev") (by decide)) eap_nil))) ?_) (eap_cons ev_c eap_nil))) fun vs H1 e1 hP => ?_) (by rw [q1])) fun g H1 ng e1 hg => ?_
      · intro vs H1 hP
        obtain ⟨_, _, rfl, _, _, _, _, rfl, _, _, _, _, rfl, _, _, rfl⟩ := hP
        show (3 : Nat) ≤ 100000
        decide
      · obtain ⟨_, rfl, t, xs, _, H3, rfl, ht, _, e3, hR, _, rfl, rfl⟩ := hP
        obtain ⟨H2, e2, r1, _, rfl, h1, _, r2, _, rfl, h2, _, r3, _, rfl, h3, _, rfl⟩ := hR
        refine spl_grown (n := 7) (rs := [r1, r2, r3]) (show (97 : Int) ∈ primes by decide) ht ⟨rfl, fun i u hi => ?_⟩ O1 (by decide) (by decide) (by decide) (by decide)
        match i, hi with
        | 0, hi =>
          cases hi
          exact ⟨r1, rfl, e3 _ _ (e2 _ _ h1)⟩
        | 1, hi =>
          cases hi
          exact ⟨r2, rfl, e3 _ _ (e2 _ _ h2)⟩
        | 2, hi =>
          cases hi
          exact ⟨r3, rfl, e3 _ _ (e2 _ _ h3)⟩
      refine s_ret (v := .bl true) (ev_andV (a := true) (b := true) (ev_eqVL (xs := [0, 1, 2, 5, 14, 42, 35]) (ev_var rfl) (el_lst (by walk_at "ev") (by decide)) (sq_of hg)) fun _ => ev_eqLL (xs := [0, 0, 0]) (el_is (el_callP (zs := (grA 2 [⟨0, 4, 3⟩] 3).map V.int) (eap_cons ev_c (eap_consP (elp_lst (eap_consU (eu_tup (by walk_at "ev") (by decide)) eap_nil) ?_) (eap_cons ev_c eap_nil))) fun vs H1 e1 hP => ?_) (by rw [q2])) (el_lst (by walk_at "ev") (by decide))) fun H1 e1 => q H1
      · intro vs H1 hP
        obtain ⟨_, _, rfl, _, _, rfl⟩ := hP
        show (1 : Nat) ≤ 100000
        decide
      · obtain ⟨_, rfl, t, xs, _, H3, rfl, ht, _, e3, hR, _, rfl, rfl⟩ := hP
        obtain ⟨H2, e2, r1, _, rfl, h1, _, rfl⟩ := hR
        refine spl_grown (n := 3) (rs := [r1]) (show (2 : Int) ∈ primes by decide) ht ⟨rfl, fun i u hi => ?_⟩ O2 (by decide) (by decide) (by decide) (by decide)
        match i, hi with
        | 0, hi =>
          cases hi
          exact ⟨r1, rfl, e3 _ _ (e2 _ _ h1)⟩

end
theorem all_mk {P : Program} {w : World} {K : PySem.W.Frag} {h : Heap} {mg : Str → Option Value} {fa : Addr} (X : K.In h) (G : h.Ns mainGlobals mg) (hfa : mg "law" = some (.ref fa))
    {a_PRIMES : Addr} {dd_PRIMES : Option Addr} {its_PRIMES : Array Value} {n__PRIMES : Nat} {sl__PRIMES : Array (Option Value)}
    {t_MOST_TERMS : Tok}
    {a_PowerError : Addr}
    {a_BadPrime : Addr}
    {a_BadCount : Addr}
    {a_BadTerms : Addr}
    {f_is_number : Addr} {od_is_number an_is_number : Option Addr} {sl_is_number : Array (Option Value)} {oc_is_number kV_is_number dc_is_number pm_is_number cd_is_number ct_is_number : Value}
    {f_is_within : Addr} {od_is_within an_is_within : Option Addr} {sl_is_within : Array (Option Value)} {oc_is_within kV_is_within dc_is_within pm_is_within cd_is_within ct_is_within : Value}
    {f_is_rest : Addr} {od_is_rest an_is_rest : Option Addr} {sl_is_rest : Array (Option Value)} {oc_is_rest kV_is_rest dc_is_rest pm_is_rest cd_is_rest ct_is_rest : Value}
    {f_is_term : Addr} {od_is_term an_is_term : Option Addr} {sl_is_term : Array (Option Value)} {oc_is_term kV_is_term dc_is_term pm_is_term cd_is_term ct_is_term : Value}
    {f_are_terms : Addr} {od_are_terms an_are_terms : Option Addr} {sl_are_terms : Array (Option Value)} {oc_are_terms kV_are_terms dc_are_terms pm_are_terms cd_are_terms ct_are_terms : Value}
    {f_need_prime : Addr} {od_need_prime an_need_prime : Option Addr} {sl_need_prime : Array (Option Value)} {oc_need_prime kV_need_prime dc_need_prime pm_need_prime cd_need_prime ct_need_prime : Value}
    {f_need_terms : Addr} {od_need_terms an_need_terms : Option Addr} {sl_need_terms : Array (Option Value)} {oc_need_terms kV_need_terms dc_need_terms pm_need_terms cd_need_terms ct_need_terms : Value}
    {f_need_count_within : Addr} {od_need_count_within an_need_count_within : Option Addr} {sl_need_count_within : Array (Option Value)} {oc_need_count_within kV_need_count_within dc_need_count_within pm_need_count_within cd_need_count_within ct_need_count_within : Value}
    {f_product_place : Addr} {od_product_place an_product_place : Option Addr} {sl_product_place : Array (Option Value)} {oc_product_place kV_product_place dc_product_place pm_product_place cd_product_place ct_product_place : Value}
    {f_grown : Addr} {od_grown an_grown : Option Addr} {sl_grown : Array (Option Value)} {oc_grown kV_grown dc_grown pm_grown cd_grown ct_grown : Value}
    {f_term_sum : Addr} {od_term_sum an_term_sum : Option Addr} {sl_term_sum : Array (Option Value)} {oc_term_sum kV_term_sum dc_term_sum pm_term_sum cd_term_sum ct_term_sum : Value}
    {f_law_number : Addr} {od_law_number an_law_number : Option Addr} {sl_law_number : Array (Option Value)} {oc_law_number kV_law_number dc_law_number pm_law_number cd_law_number ct_law_number : Value}
    {f_law_prime : Addr} {od_law_prime an_law_prime : Option Addr} {sl_law_prime : Array (Option Value)} {oc_law_prime kV_law_prime dc_law_prime pm_law_prime cd_law_prime ct_law_prime : Value}
    {f_law_times : Addr} {od_law_times an_law_times : Option Addr} {sl_law_times : Array (Option Value)} {oc_law_times kV_law_times dc_law_times pm_law_times cd_law_times ct_law_times : Value}
    {f_law_terms : Addr} {od_law_terms an_law_terms : Option Addr} {sl_law_terms : Array (Option Value)} {oc_law_terms kV_law_terms dc_law_terms pm_law_terms cd_law_terms ct_law_terms : Value}
    {f_law_kept : Addr} {od_law_kept an_law_kept : Option Addr} {sl_law_kept : Array (Option Value)} {oc_law_kept kV_law_kept dc_law_kept pm_law_kept cd_law_kept ct_law_kept : Value}
    {f_law : Addr} {od_law an_law : Option Addr} {sl_law : Array (Option Value)} {oc_law kV_law dc_law pm_law cd_law ct_law : Value}
    (z_abs : PySem.W.nsIn K mainGlobals "abs" = some none)
    (z_all : PySem.W.nsIn K mainGlobals "all" = some none)
    (z_bool : PySem.W.nsIn K mainGlobals "bool" = some none)
    (z_enumerate : PySem.W.nsIn K mainGlobals "enumerate" = some none)
    (z_int : PySem.W.nsIn K mainGlobals "int" = some none)
    (z_isinstance : PySem.W.nsIn K mainGlobals "isinstance" = some none)
    (z_len : PySem.W.nsIn K mainGlobals "len" = some none)
    (z_list : PySem.W.nsIn K mainGlobals "list" = some none)
    (z_max : PySem.W.nsIn K mainGlobals "max" = some none)
    (z_min : PySem.W.nsIn K mainGlobals "min" = some none)
    (z_range : PySem.W.nsIn K mainGlobals "range" = some none)
    (z_sum : PySem.W.nsIn K mainGlobals "sum" = some none)
    (z_tuple : PySem.W.nsIn K mainGlobals "tuple" = some none)
    (n_PRIMES : PySem.W.nsIn K mainGlobals "PRIMES" = some (some (.ref a_PRIMES)))
    (o_PRIMES : K.lookup a_PRIMES = some ⟨.type "tuple", dd_PRIMES, .seq its_PRIMES n__PRIMES, sl__PRIMES⟩)
    (s_PRIMES : its_PRIMES.size ≤ sizeLine)
    (v_PRIMES : its_PRIMES.toList.map absV = ([2, 3, 5, 7, 11, 13, 17, 19, 23, 29, 31, 37, 41, 43, 47, 53, 59, 61, 67, 71, 73, 79, 83, 89, 97] : List Int).map fun i => some (V.int i))
    (n_MOST_TERMS : PySem.W.nsIn K mainGlobals "MOST_TERMS" = some (some (.int 6 t_MOST_TERMS)))
    (n_PowerError : PySem.W.nsIn K mainGlobals "PowerError" = some (some (.ref a_PowerError)))
    (k_PowerError : PySem.W.keepIn K (.ref a_PowerError) = true)
    (sb_PowerError : PySem.W.subIn K (.ref a_PowerError) (.type "BaseException") = some true)
    (ty_PowerError : PySem.W.typeIn K (.ref a_PowerError) = some (.type "type"))
    (ic_PowerError : PySem.W.isClsIn K a_PowerError = true)
    (n_BadPrime : PySem.W.nsIn K mainGlobals "BadPrime" = some (some (.ref a_BadPrime)))
    (k_BadPrime : PySem.W.keepIn K (.ref a_BadPrime) = true)
    (sb_BadPrime : PySem.W.subIn K (.ref a_BadPrime) (.type "BaseException") = some true)
    (ty_BadPrime : PySem.W.typeIn K (.ref a_BadPrime) = some (.type "type"))
    (ic_BadPrime : PySem.W.isClsIn K a_BadPrime = true)
    (n_BadCount : PySem.W.nsIn K mainGlobals "BadCount" = some (some (.ref a_BadCount)))
    (k_BadCount : PySem.W.keepIn K (.ref a_BadCount) = true)
    (sb_BadCount : PySem.W.subIn K (.ref a_BadCount) (.type "BaseException") = some true)
    (ty_BadCount : PySem.W.typeIn K (.ref a_BadCount) = some (.type "type"))
    (ic_BadCount : PySem.W.isClsIn K a_BadCount = true)
    (n_BadTerms : PySem.W.nsIn K mainGlobals "BadTerms" = some (some (.ref a_BadTerms)))
    (k_BadTerms : PySem.W.keepIn K (.ref a_BadTerms) = true)
    (sb_BadTerms : PySem.W.subIn K (.ref a_BadTerms) (.type "BaseException") = some true)
    (ty_BadTerms : PySem.W.typeIn K (.ref a_BadTerms) = some (.type "type"))
    (ic_BadTerms : PySem.W.isClsIn K a_BadTerms = true)
    (n_is_number : PySem.W.nsIn K mainGlobals "is_number" = some (some (.ref f_is_number)))
    (l_is_number : K.lookup f_is_number = some ⟨oc_is_number, od_is_number, .func (PySem.W.fnOf "is_number" "is_number" (defArgs s_is_number) (defBody s_is_number) (defScope s_is_number) .none kV_is_number dc_is_number pm_is_number an_is_number cd_is_number ct_is_number), sl_is_number⟩)
    (c_is_number : PySem.W.codeIn K cd_is_number "is_number" = true)
    (k_is_number : PySem.W.keepIn K (.ref f_is_number) = true)
    (n_is_within : PySem.W.nsIn K mainGlobals "is_within" = some (some (.ref f_is_within)))
    (l_is_within : K.lookup f_is_within = some ⟨oc_is_within, od_is_within, .func (PySem.W.fnOf "is_within" "is_within" (defArgs s_is_within) (defBody s_is_within) (defScope s_is_within) .none kV_is_within dc_is_within pm_is_within an_is_within cd_is_within ct_is_within), sl_is_within⟩)
    (c_is_within : PySem.W.codeIn K cd_is_within "is_within" = true)
    (k_is_within : PySem.W.keepIn K (.ref f_is_within) = true)
    (n_is_rest : PySem.W.nsIn K mainGlobals "is_rest" = some (some (.ref f_is_rest)))
    (l_is_rest : K.lookup f_is_rest = some ⟨oc_is_rest, od_is_rest, .func (PySem.W.fnOf "is_rest" "is_rest" (defArgs s_is_rest) (defBody s_is_rest) (defScope s_is_rest) .none kV_is_rest dc_is_rest pm_is_rest an_is_rest cd_is_rest ct_is_rest), sl_is_rest⟩)
    (c_is_rest : PySem.W.codeIn K cd_is_rest "is_rest" = true)
    (k_is_rest : PySem.W.keepIn K (.ref f_is_rest) = true)
    (n_is_term : PySem.W.nsIn K mainGlobals "is_term" = some (some (.ref f_is_term)))
    (l_is_term : K.lookup f_is_term = some ⟨oc_is_term, od_is_term, .func (PySem.W.fnOf "is_term" "is_term" (defArgs s_is_term) (defBody s_is_term) (defScope s_is_term) .none kV_is_term dc_is_term pm_is_term an_is_term cd_is_term ct_is_term), sl_is_term⟩)
    (c_is_term : PySem.W.codeIn K cd_is_term "is_term" = true)
    (k_is_term : PySem.W.keepIn K (.ref f_is_term) = true)
    (n_are_terms : PySem.W.nsIn K mainGlobals "are_terms" = some (some (.ref f_are_terms)))
    (l_are_terms : K.lookup f_are_terms = some ⟨oc_are_terms, od_are_terms, .func (PySem.W.fnOf "are_terms" "are_terms" (defArgs s_are_terms) (defBody s_are_terms) (defScope s_are_terms) .none kV_are_terms dc_are_terms pm_are_terms an_are_terms cd_are_terms ct_are_terms), sl_are_terms⟩)
    (c_are_terms : PySem.W.codeIn K cd_are_terms "are_terms" = true)
    (k_are_terms : PySem.W.keepIn K (.ref f_are_terms) = true)
    (n_need_prime : PySem.W.nsIn K mainGlobals "need_prime" = some (some (.ref f_need_prime)))
    (l_need_prime : K.lookup f_need_prime = some ⟨oc_need_prime, od_need_prime, .func (PySem.W.fnOf "need_prime" "need_prime" (defArgs s_need_prime) (defBody s_need_prime) (defScope s_need_prime) .none kV_need_prime dc_need_prime pm_need_prime an_need_prime cd_need_prime ct_need_prime), sl_need_prime⟩)
    (c_need_prime : PySem.W.codeIn K cd_need_prime "need_prime" = true)
    (k_need_prime : PySem.W.keepIn K (.ref f_need_prime) = true)
    (n_need_terms : PySem.W.nsIn K mainGlobals "need_terms" = some (some (.ref f_need_terms)))
    (l_need_terms : K.lookup f_need_terms = some ⟨oc_need_terms, od_need_terms, .func (PySem.W.fnOf "need_terms" "need_terms" (defArgs s_need_terms) (defBody s_need_terms) (defScope s_need_terms) .none kV_need_terms dc_need_terms pm_need_terms an_need_terms cd_need_terms ct_need_terms), sl_need_terms⟩)
    (c_need_terms : PySem.W.codeIn K cd_need_terms "need_terms" = true)
    (k_need_terms : PySem.W.keepIn K (.ref f_need_terms) = true)
    (n_need_count_within : PySem.W.nsIn K mainGlobals "need_count_within" = some (some (.ref f_need_count_within)))
    (l_need_count_within : K.lookup f_need_count_within = some ⟨oc_need_count_within, od_need_count_within, .func (PySem.W.fnOf "need_count_within" "need_count_within" (defArgs s_need_count_within) (defBody s_need_count_within) (defScope s_need_count_within) .none kV_need_count_within dc_need_count_within pm_need_count_within an_need_count_within cd_need_count_within ct_need_count_within), sl_need_count_within⟩)
    (c_need_count_within : PySem.W.codeIn K cd_need_count_within "need_count_within" = true)
    (k_need_count_within : PySem.W.keepIn K (.ref f_need_count_within) = true)
    (n_product_place : PySem.W.nsIn K mainGlobals "product_place" = some (some (.ref f_product_place)))
    (l_product_place : K.lookup f_product_place = some ⟨oc_product_place, od_product_place, .func (PySem.W.fnOf "product_place" "product_place" (defArgs s_product_place) (defBody s_product_place) (defScope s_product_place) .none kV_product_place dc_product_place pm_product_place an_product_place cd_product_place ct_product_place), sl_product_place⟩)
    (c_product_place : PySem.W.codeIn K cd_product_place "product_place" = true)
    (k_product_place : PySem.W.keepIn K (.ref f_product_place) = true)
    (n_grown : PySem.W.nsIn K mainGlobals "grown" = some (some (.ref f_grown)))
    (l_grown : K.lookup f_grown = some ⟨oc_grown, od_grown, .func (PySem.W.fnOf "grown" "grown" (defArgs s_grown) (defBody s_grown) (defScope s_grown) .none kV_grown dc_grown pm_grown an_grown cd_grown ct_grown), sl_grown⟩)
    (c_grown : PySem.W.codeIn K cd_grown "grown" = true)
    (k_grown : PySem.W.keepIn K (.ref f_grown) = true)
    (n_term_sum : PySem.W.nsIn K mainGlobals "term_sum" = some (some (.ref f_term_sum)))
    (l_term_sum : K.lookup f_term_sum = some ⟨oc_term_sum, od_term_sum, .func (PySem.W.fnOf "term_sum" "term_sum" (defArgs s_term_sum) (defBody s_term_sum) (defScope s_term_sum) .none kV_term_sum dc_term_sum pm_term_sum an_term_sum cd_term_sum ct_term_sum), sl_term_sum⟩)
    (c_term_sum : PySem.W.codeIn K cd_term_sum "term_sum" = true)
    (k_term_sum : PySem.W.keepIn K (.ref f_term_sum) = true)
    (n_law_number : PySem.W.nsIn K mainGlobals "_law_number" = some (some (.ref f_law_number)))
    (l_law_number : K.lookup f_law_number = some ⟨oc_law_number, od_law_number, .func (PySem.W.fnOf "_law_number" "_law_number" (defArgs s_law_number) (defBody s_law_number) (defScope s_law_number) .none kV_law_number dc_law_number pm_law_number an_law_number cd_law_number ct_law_number), sl_law_number⟩)
    (c_law_number : PySem.W.codeIn K cd_law_number "_law_number" = true)
    (k_law_number : PySem.W.keepIn K (.ref f_law_number) = true)
    (n_law_prime : PySem.W.nsIn K mainGlobals "_law_prime" = some (some (.ref f_law_prime)))
    (l_law_prime : K.lookup f_law_prime = some ⟨oc_law_prime, od_law_prime, .func (PySem.W.fnOf "_law_prime" "_law_prime" (defArgs s_law_prime) (defBody s_law_prime) (defScope s_law_prime) .none kV_law_prime dc_law_prime pm_law_prime an_law_prime cd_law_prime ct_law_prime), sl_law_prime⟩)
    (c_law_prime : PySem.W.codeIn K cd_law_prime "_law_prime" = true)
    (k_law_prime : PySem.W.keepIn K (.ref f_law_prime) = true)
    (n_law_times : PySem.W.nsIn K mainGlobals "_law_times" = some (some (.ref f_law_times)))
    (l_law_times : K.lookup f_law_times = some ⟨oc_law_times, od_law_times, .func (PySem.W.fnOf "_law_times" "_law_times" (defArgs s_law_times) (defBody s_law_times) (defScope s_law_times) .none kV_law_times dc_law_times pm_law_times an_law_times cd_law_times ct_law_times), sl_law_times⟩)
    (c_law_times : PySem.W.codeIn K cd_law_times "_law_times" = true)
    (k_law_times : PySem.W.keepIn K (.ref f_law_times) = true)
    (n_law_terms : PySem.W.nsIn K mainGlobals "_law_terms" = some (some (.ref f_law_terms)))
    (l_law_terms : K.lookup f_law_terms = some ⟨oc_law_terms, od_law_terms, .func (PySem.W.fnOf "_law_terms" "_law_terms" (defArgs s_law_terms) (defBody s_law_terms) (defScope s_law_terms) .none kV_law_terms dc_law_terms pm_law_terms an_law_terms cd_law_terms ct_law_terms), sl_law_terms⟩)
    (c_law_terms : PySem.W.codeIn K cd_law_terms "_law_terms" = true)
    (k_law_terms : PySem.W.keepIn K (.ref f_law_terms) = true)
    (n_law_kept : PySem.W.nsIn K mainGlobals "_law_kept" = some (some (.ref f_law_kept)))
    (l_law_kept : K.lookup f_law_kept = some ⟨oc_law_kept, od_law_kept, .func (PySem.W.fnOf "_law_kept" "_law_kept" (defArgs s_law_kept) (defBody s_law_kept) (defScope s_law_kept) .none kV_law_kept dc_law_kept pm_law_kept an_law_kept cd_law_kept ct_law_kept), sl_law_kept⟩)
    (c_law_kept : PySem.W.codeIn K cd_law_kept "_law_kept" = true)
    (k_law_kept : PySem.W.keepIn K (.ref f_law_kept) = true)
    (n_law : PySem.W.nsIn K mainGlobals "law" = some (some (.ref f_law)))
    (l_law : K.lookup f_law = some ⟨oc_law, od_law, .func (PySem.W.fnOf "law" "law" (defArgs s_law) (defBody s_law) (defScope s_law) .none kV_law dc_law pm_law an_law cd_law ct_law), sl_law⟩)
    (c_law : PySem.W.codeIn K cd_law "law" = true)
    (k_law : PySem.W.keepIn K (.ref f_law) = true)
    : ∃ fd : FuncData, (∀ (s : Shared) (v : Value), BindsTo s fd ⟨[v], []⟩ [("_law_script", v)]) ∧ ∀ base : Heap, K.In base → base.Ns mainGlobals mg → FnOk P w K mg base CX0 30 fa fd ["_law_script"] (spLaw K) := by
  have e : fa = f_law := by
    cases hfa.symm.trans (PySem.W.mg_of X G n_law)
    rfl
  rw [e]
  have B : Blt K mg a_PRIMES t_MOST_TERMS a_PowerError a_BadPrime a_BadCount a_BadTerms := { abs := PySem.W.mg_none_of X G z_abs, all := PySem.W.mg_none_of X G z_all, bool := PySem.W.mg_none_of X G z_bool, enumerate := PySem.W.mg_none_of X G z_enumerate, int := PySem.W.mg_none_of X G z_int, isinstance := PySem.W.mg_none_of X G z_isinstance, len := PySem.W.mg_none_of X G z_len, list := PySem.W.mg_none_of X G z_list, max := PySem.W.mg_none_of X G z_max, min := PySem.W.mg_none_of X G z_min, range := PySem.W.mg_none_of X G z_range, sum := PySem.W.mg_none_of X G z_sum, tuple := PySem.W.mg_none_of X G z_tuple, PRIMES := PySem.W.mg_of X G n_PRIMES, PRIMES_T := sqt_ints o_PRIMES s_PRIMES v_PRIMES, MOST_TERMS := PySem.W.mg_of X G n_MOST_TERMS, PowerError := PySem.W.mg_of X G n_PowerError, PowerError_k := k_PowerError, BadPrime := PySem.W.mg_of X G n_BadPrime, BadPrime_k := k_BadPrime, BadCount := PySem.W.mg_of X G n_BadCount, BadCount_k := k_BadCount, BadTerms := PySem.W.mg_of X G n_BadTerms, BadTerms_k := k_BadTerms }
  have F_is_number := fun_mk (st := s_is_number) l_is_number c_is_number k_is_number
  have D_is_number : Dat K mg "is_number" s_is_number ["thing"] f_is_number _ := ⟨F_is_number, PySem.W.mg_of X G n_is_number, F_is_number.binds (ps := ["thing"]) fun _ _ _ _ _ _ us hl => match us, hl with | [_], _ => rfl⟩
  have F_is_within := fun_mk (st := s_is_within) l_is_within c_is_within k_is_within
  have D_is_within : Dat K mg "is_within" s_is_within ["thing", "least", "most"] f_is_within _ := ⟨F_is_within, PySem.W.mg_of X G n_is_within, F_is_within.binds (ps := ["thing", "least", "most"]) fun _ _ _ _ _ _ us hl => match us, hl with | [_, _, _], _ => rfl⟩
  have F_is_rest := fun_mk (st := s_is_rest) l_is_rest c_is_rest k_is_rest
  have D_is_rest : Dat K mg "is_rest" s_is_rest ["prime", "thing"] f_is_rest _ := ⟨F_is_rest, PySem.W.mg_of X G n_is_rest, F_is_rest.binds (ps := ["prime", "thing"]) fun _ _ _ _ _ _ us hl => match us, hl with | [_, _], _ => rfl⟩
  have F_is_term := fun_mk (st := s_is_term) l_is_term c_is_term k_is_term
  have D_is_term : Dat K mg "is_term" s_is_term ["prime", "thing"] f_is_term _ := ⟨F_is_term, PySem.W.mg_of X G n_is_term, F_is_term.binds (ps := ["prime", "thing"]) fun _ _ _ _ _ _ us hl => match us, hl with | [_, _], _ => rfl⟩
  have F_are_terms := fun_mk (st := s_are_terms) l_are_terms c_are_terms k_are_terms
  have D_are_terms : Dat K mg "are_terms" s_are_terms ["prime", "thing"] f_are_terms _ := ⟨F_are_terms, PySem.W.mg_of X G n_are_terms, F_are_terms.binds (ps := ["prime", "thing"]) fun _ _ _ _ _ _ us hl => match us, hl with | [_, _], _ => rfl⟩
  have F_need_prime := fun_mk (st := s_need_prime) l_need_prime c_need_prime k_need_prime
  have D_need_prime : Dat K mg "need_prime" s_need_prime ["prime"] f_need_prime _ := ⟨F_need_prime, PySem.W.mg_of X G n_need_prime, F_need_prime.binds (ps := ["prime"]) fun _ _ _ _ _ _ us hl => match us, hl with | [_], _ => rfl⟩
  have F_need_terms := fun_mk (st := s_need_terms) l_need_terms c_need_terms k_need_terms
  have D_need_terms : Dat K mg "need_terms" s_need_terms ["prime", "terms"] f_need_terms _ := ⟨F_need_terms, PySem.W.mg_of X G n_need_terms, F_need_terms.binds (ps := ["prime", "terms"]) fun _ _ _ _ _ _ us hl => match us, hl with | [_, _], _ => rfl⟩
  have F_need_count_within := fun_mk (st := s_need_count_within) l_need_count_within c_need_count_within k_need_count_within
  have D_need_count_within : Dat K mg "need_count_within" s_need_count_within ["many", "least", "most"] f_need_count_within _ := ⟨F_need_count_within, PySem.W.mg_of X G n_need_count_within, F_need_count_within.binds (ps := ["many", "least", "most"]) fun _ _ _ _ _ _ us hl => match us, hl with | [_, _, _], _ => rfl⟩
  have F_product_place := fun_mk (st := s_product_place) l_product_place c_product_place k_product_place
  have D_product_place : Dat K mg "product_place" s_product_place ["one", "other", "place"] f_product_place _ := ⟨F_product_place, PySem.W.mg_of X G n_product_place, F_product_place.binds (ps := ["one", "other", "place"]) fun _ _ _ _ _ _ us hl => match us, hl with | [_, _, _], _ => rfl⟩
  have F_grown := fun_mk (st := s_grown) l_grown c_grown k_grown
  have D_grown : Dat K mg "grown" s_grown ["prime", "terms", "many"] f_grown _ := ⟨F_grown, PySem.W.mg_of X G n_grown, F_grown.binds (ps := ["prime", "terms", "many"]) fun _ _ _ _ _ _ us hl => match us, hl with | [_, _, _], _ => rfl⟩
  have F_term_sum := fun_mk (st := s_term_sum) l_term_sum c_term_sum k_term_sum
  have D_term_sum : Dat K mg "term_sum" s_term_sum ["terms", "powers", "place"] f_term_sum _ := ⟨F_term_sum, PySem.W.mg_of X G n_term_sum, F_term_sum.binds (ps := ["terms", "powers", "place"]) fun _ _ _ _ _ _ us hl => match us, hl with | [_, _, _], _ => rfl⟩
  have F_law_number := fun_mk (st := s_law_number) l_law_number c_law_number k_law_number
  have D_law_number : Dat K mg "_law_number" s_law_number ["_law_cell", "_law_at", "_law_whole"] f_law_number _ := ⟨F_law_number, PySem.W.mg_of X G n_law_number, F_law_number.binds (ps := ["_law_cell", "_law_at", "_law_whole"]) fun _ _ _ _ _ _ us hl => match us, hl with | [_, _, _], _ => rfl⟩
  have F_law_prime := fun_mk (st := s_law_prime) l_law_prime c_law_prime k_law_prime
  have D_law_prime : Dat K mg "_law_prime" s_law_prime ["_law_script", "_law_by"] f_law_prime _ := ⟨F_law_prime, PySem.W.mg_of X G n_law_prime, F_law_prime.binds (ps := ["_law_script", "_law_by"]) fun _ _ _ _ _ _ us hl => match us, hl with | [_, _], _ => rfl⟩
  have F_law_times := fun_mk (st := s_law_times) l_law_times c_law_times k_law_times
  have D_law_times : Dat K mg "_law_times" s_law_times ["_law_prime_here", "_law_one", "_law_other"] f_law_times _ := ⟨F_law_times, PySem.W.mg_of X G n_law_times, F_law_times.binds (ps := ["_law_prime_here", "_law_one", "_law_other"]) fun _ _ _ _ _ _ us hl => match us, hl with | [_, _, _], _ => rfl⟩
  have F_law_terms := fun_mk (st := s_law_terms) l_law_terms c_law_terms k_law_terms
  have D_law_terms : Dat K mg "_law_terms" s_law_terms ["_law_script", "_law_by", "_law_prime_here"] f_law_terms _ := ⟨F_law_terms, PySem.W.mg_of X G n_law_terms, F_law_terms.binds (ps := ["_law_script", "_law_by", "_law_prime_here"]) fun _ _ _ _ _ _ us hl => match us, hl with | [_, _, _], _ => rfl⟩
  have F_law_kept := fun_mk (st := s_law_kept) l_law_kept c_law_kept k_law_kept
  have D_law_kept : Dat K mg "_law_kept" s_law_kept ["_law_prime_here", "_law_terms_here", "_law_row_here"] f_law_kept _ := ⟨F_law_kept, PySem.W.mg_of X G n_law_kept, F_law_kept.binds (ps := ["_law_prime_here", "_law_terms_here", "_law_row_here"]) fun _ _ _ _ _ _ us hl => match us, hl with | [_, _, _], _ => rfl⟩
  have F_law := fun_mk (st := s_law) l_law c_law k_law
  have D_law : Dat K mg "law" s_law ["_law_script"] f_law _ := ⟨F_law, PySem.W.mg_of X G n_law, F_law.binds (ps := ["_law_script"]) fun _ _ _ _ _ _ us hl => match us, hl with | [_], _ => rfl⟩
  refine ⟨PySem.W.fnOf "law" "law" (defArgs s_law) (defBody s_law) (defScope s_law) .none kV_law dc_law pm_law an_law cd_law ct_law, fun s v => .of_eq rfl, fun base _ _ => ?_⟩
  have C_is_number := ok_is_number (P := P) (w := w) (base := base) D_is_number B 
  have C_is_within := ok_is_within (P := P) (w := w) (base := base) D_is_within B C_is_number
  have C_is_rest := ok_is_rest (P := P) (w := w) (base := base) D_is_rest B C_is_within
  have C_is_term := ok_is_term (P := P) (w := w) (base := base) D_is_term B C_is_within C_is_rest
  have C_are_terms := ok_are_terms (P := P) (w := w) (base := base) D_are_terms B C_is_term
  have C_need_terms := ok_need_terms (P := P) (w := w) (base := base) D_need_terms B C_are_terms
  have C_need_prime := ok_need_prime (P := P) (w := w) (base := base) D_need_prime B C_is_number
  have C_need_count_within := ok_need_count_within (P := P) (w := w) (base := base) D_need_count_within B C_is_within
  have C_product_place := ok_product_place (P := P) (w := w) (base := base) D_product_place B 
  have C_term_sum := ok_term_sum (P := P) (w := w) (base := base) D_term_sum B 
  have C_grown := ok_grown (P := P) (w := w) (base := base) D_grown B C_need_prime C_need_terms C_need_count_within C_term_sum C_product_place
  have C_law_number := ok_law_number (P := P) (w := w) (base := base) D_law_number B 
  have C_law_prime := ok_law_prime (P := P) (w := w) (base := base) D_law_prime B 
  have C_law_times := ok_law_times (P := P) (w := w) (base := base) D_law_times B 
  have C_law_terms := ok_law_terms (P := P) (w := w) (base := base) D_law_terms B C_law_number
  have C_law_kept := ok_law_kept (P := P) (w := w) (base := base) D_law_kept B C_law_times
  exact ok_law (P := P) (w := w) (base := base) D_law B C_law_prime C_law_terms C_grown C_law_kept
end Pw
open PySem PySem.W PyProof.Rows
set_option maxHeartbeats 0 in
theorem PySem.Challenge.cw_powerrows_k08_whole_grown_holds : PySem.Challenge.rw_powerrows_k08_whole_grown.Holds := by
  w_on; o_law; k_head; (case hw => w_witness2)
  k_fill
  refine L2.walk_ofB (l := PySem.Challenge.rw_powerrows_k08_whole_grown) (n := 63) (k := 30) (x := "_law_script") (CX := fun _ => L2.CX0) (sp := fun w => Pw.spLaw _) rfl (by decide) rfl ⟨rfl, by decide, by decide⟩ (fun w h Y => PySem.W.kIn_of Y) ?F (fun _ _ a ns hl hb _ hS => ⟨a, ns, rfl, hS, hb, fun _ => rfl⟩) (fun _ _ _ _ _ h => h)
  case F =>
    intro w mg fa h KX G hmg
    refine' Pw.all_mk KX G hmg ?z_abs ?z_all ?z_bool ?z_enumerate ?z_int ?z_isinstance ?z_len ?z_list ?z_max ?z_min ?z_range ?z_sum ?z_tuple ?n_PRIMES ?o_PRIMES ?s_PRIMES ?v_PRIMES ?n_MOST_TERMS ?n_PowerError ?k_PowerError ?sb_PowerError ?ty_PowerError ?ic_PowerError ?n_BadPrime ?k_BadPrime ?sb_BadPrime ?ty_BadPrime ?ic_BadPrime ?n_BadCount ?k_BadCount ?sb_BadCount ?ty_BadCount ?ic_BadCount ?n_BadTerms ?k_BadTerms ?sb_BadTerms ?ty_BadTerms ?ic_BadTerms ?n_is_number ?l_is_number ?c_is_number ?k_is_number ?n_is_within ?l_is_within ?c_is_within ?k_is_within ?n_is_rest ?l_is_rest ?c_is_rest ?k_is_rest ?n_is_term ?l_is_term ?c_is_term ?k_is_term ?n_are_terms ?l_are_terms ?c_are_terms ?k_are_terms ?n_need_prime ?l_need_prime ?c_need_prime ?k_need_prime ?n_need_terms ?l_need_terms ?c_need_terms ?k_need_terms ?n_need_count_within ?l_need_count_within ?c_need_count_within ?k_need_count_within ?n_product_place ?l_product_place ?c_product_place ?k_product_place ?n_grown ?l_grown ?c_grown ?k_grown ?n_term_sum ?l_term_sum ?c_term_sum ?k_term_sum ?n_law_number ?l_law_number ?c_law_number ?k_law_number ?n_law_prime ?l_law_prime ?c_law_prime ?k_law_prime ?n_law_times ?l_law_times ?c_law_times ?k_law_times ?n_law_terms ?l_law_terms ?c_law_terms ?k_law_terms ?n_law_kept ?l_law_kept ?c_law_kept ?k_law_kept ?n_law ?l_law ?c_law ?k_law
    (case z_abs => k_is)
    (case z_all => k_is)
    (case z_bool => k_is)
    (case z_enumerate => k_is)
    (case z_int => k_is)
    (case z_isinstance => k_is)
    (case z_len => k_is)
    (case z_list => k_is)
    (case z_max => k_is)
    (case z_min => k_is)
    (case z_range => k_is)
    (case z_sum => k_is)
    (case z_tuple => k_is)
    (case n_PRIMES => k_is)
    (case o_PRIMES => k_is)
    (case s_PRIMES => decide)
    (case v_PRIMES => rfl)
    (case n_MOST_TERMS => k_is)
    (case n_PowerError => k_is)
    (case k_PowerError => k_is)
    (case sb_PowerError => k_is)
    (case ty_PowerError => k_is)
    (case ic_PowerError => k_is)
    (case n_BadPrime => k_is)
    (case k_BadPrime => k_is)
    (case sb_BadPrime => k_is)
    (case ty_BadPrime => k_is)
    (case ic_BadPrime => k_is)
    (case n_BadCount => k_is)
    (case k_BadCount => k_is)
    (case sb_BadCount => k_is)
    (case ty_BadCount => k_is)
    (case ic_BadCount => k_is)
    (case n_BadTerms => k_is)
    (case k_BadTerms => k_is)
    (case sb_BadTerms => k_is)
    (case ty_BadTerms => k_is)
    (case ic_BadTerms => k_is)
    (case n_is_number => k_is)
    (case l_is_number => k_is)
    (case c_is_number => k_is)
    (case k_is_number => k_is)
    (case n_is_within => k_is)
    (case l_is_within => k_is)
    (case c_is_within => k_is)
    (case k_is_within => k_is)
    (case n_is_rest => k_is)
    (case l_is_rest => k_is)
    (case c_is_rest => k_is)
    (case k_is_rest => k_is)
    (case n_is_term => k_is)
    (case l_is_term => k_is)
    (case c_is_term => k_is)
    (case k_is_term => k_is)
    (case n_are_terms => k_is)
    (case l_are_terms => k_is)
    (case c_are_terms => k_is)
    (case k_are_terms => k_is)
    (case n_need_prime => k_is)
    (case l_need_prime => k_is)
    (case c_need_prime => k_is)
    (case k_need_prime => k_is)
    (case n_need_terms => k_is)
    (case l_need_terms => k_is)
    (case c_need_terms => k_is)
    (case k_need_terms => k_is)
    (case n_need_count_within => k_is)
    (case l_need_count_within => k_is)
    (case c_need_count_within => k_is)
    (case k_need_count_within => k_is)
    (case n_product_place => k_is)
    (case l_product_place => k_is)
    (case c_product_place => k_is)
    (case k_product_place => k_is)
    (case n_grown => k_is)
    (case l_grown => k_is)
    (case c_grown => k_is)
    (case k_grown => k_is)
    (case n_term_sum => k_is)
    (case l_term_sum => k_is)
    (case c_term_sum => k_is)
    (case k_term_sum => k_is)
    (case n_law_number => k_is)
    (case l_law_number => k_is)
    (case c_law_number => k_is)
    (case k_law_number => k_is)
    (case n_law_prime => k_is)
    (case l_law_prime => k_is)
    (case c_law_prime => k_is)
    (case k_law_prime => k_is)
    (case n_law_times => k_is)
    (case l_law_times => k_is)
    (case c_law_times => k_is)
    (case k_law_times => k_is)
    (case n_law_terms => k_is)
    (case l_law_terms => k_is)
    (case c_law_terms => k_is)
    (case k_law_terms => k_is)
    (case n_law_kept => k_is)
    (case l_law_kept => k_is)
    (case c_law_kept => k_is)
    (case k_law_kept => k_is)
    (case n_law => k_is)
    (case l_law => k_is)
    (case c_law => k_is)
    (case k_law => k_is)
