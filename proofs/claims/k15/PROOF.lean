import PyProof.Rows.All
import Wide.All
import OpenK.AllK
import Wide.FinOn
import HandS.ForMost
import HandS.IsInst
import HandS.Style
import HandS.TupAny
import HandS.Property
import HandS.Conv
import HandS.SetFor
import HandS.More
import HandS.Codes
import KE.GoesEnum
import PySem.Challenge.RW_hourneeds_k15_whole_served_and_serving
set_option Elab.async false
set_option maxRecDepth 100000
set_option maxHeartbeats 4000000
set_option linter.all false

/-! Clk -/
/-! the mathematics of clocks: stays round about (S), widths (wd), the clock seen from elsewhere and the other way -/
namespace Clk
/-- the stay of hour x, round about -/
def S (ns : List Int) (x : Int) : Int := ns.getD (x % (ns.length : Int)).toNat 0
theorem S_get {ns : List Int} {i : Nat} (h : i < ns.length) : S ns i = ns[i] := by
  have e : ((i : Int) % (ns.length : Int)).toNat = i := by
    rw [Int.emod_eq_of_lt (by omega) (by omega)]
    omega
  unfold S
  rw [e, List.getD_eq_getElem?_getD, List.getElem?_eq_getElem h]
  rfl
theorem S_mod {ns : List Int} {x y : Int} (h : x % (ns.length : Int) = y % (ns.length : Int)) : S ns x = S ns y := by
  unfold S
  rw [h]
theorem S_per {ns : List Int} (x k : Int) : S ns (x + k * ns.length) = S ns x := S_mod (Int.add_mul_emod_self_right x k _)
theorem S_at {ns : List Int} (hp : 0 < ns.length) (x : Int) : ∃ h : (x % (ns.length : Int)).toNat < ns.length, S ns x = ns[(x % (ns.length : Int)).toNat] := by
  have h1 := Int.emod_nonneg x (show (ns.length : Int) ≠ 0 by omega)
  have h2 := Int.emod_lt_of_pos x (show (0 : Int) < ns.length by omega)
  have h : (x % (ns.length : Int)).toNat < ns.length := by omega
  refine ⟨h, ?_⟩
  unfold S
  rw [List.getD_eq_getElem?_getD, List.getElem?_eq_getElem h]
  rfl
structure Valid (ns : List Int) : Prop where
  pos : 0 < ns.length
  top : ns.length ≤ 48
  lo : ∀ x, 1 ≤ S ns x
  hi : ∀ x, S ns x ≤ ns.length
  near : ∀ x, S ns x ≤ S ns (x + 1) + 1
theorem Valid.of {ns : List Int} (p : 0 < ns.length) (t : ns.length ≤ 48) (r : ∀ (i : Nat) (h : i < ns.length), 1 ≤ ns[i] ∧ ns[i] ≤ ns.length) (nr : ∀ (i : Nat), i < ns.length → S ns i ≤ S ns ((i : Int) + 1) + 1) : Valid ns where
  pos := p
  top := t
  lo := fun x => by
    obtain ⟨h, e⟩ := S_at p x
    rw [e]
    exact (r _ h).1
  hi := fun x => by
    obtain ⟨h, e⟩ := S_at p x
    rw [e]
    exact (r _ h).2
  near := fun x => by
    have h1 := Int.emod_nonneg x (show (ns.length : Int) ≠ 0 by omega)
    have h2 := Int.emod_lt_of_pos x (show (0 : Int) < ns.length by omega)
    have q := nr (x % (ns.length : Int)).toNat (by omega)
    have e : (((x % (ns.length : Int)).toNat : Nat) : Int) = x % (ns.length : Int) := by omega
    rw [e] at q
    have e1 : S ns (x % (ns.length : Int)) = S ns x := S_mod (Int.emod_emod_of_dvd x (Int.dvd_refl _))
    have e2 : S ns (x % (ns.length : Int) + 1) = S ns (x + 1) := S_mod (by rw [Int.emod_add_emod])
    rw [e1, e2] at q
    exact q
theorem Valid.mem {ns : List Int} (v : Valid ns) {x : Int} (h : x ∈ ns) : 1 ≤ x ∧ x ≤ ns.length := by
  obtain ⟨i, hi, e⟩ := List.mem_iff_getElem.mp h
  have q := S_get hi
  rw [e] at q
  exact ⟨q ▸ v.lo i, q ▸ v.hi i⟩

/-! ### counting an initial part -/
theorem count_down {p : Nat → Bool} (hd : ∀ b, p (b + 1) = true → p b = true) : ∀ (n b : Nat), b < n → (p b = true ↔ b < (List.range n).countP p)
  | 0, b, h => absurd h (Nat.not_lt_zero _)
  | n + 1, b, h => by
    rw [List.range_succ, List.countP_append]
    have down : ∀ c, p n = true → c ≤ n → p c = true := by
      intro c hn hc
      obtain ⟨d, rfl⟩ := Nat.exists_eq_add_of_le hc
      clear h hc
      induction d with
      | zero => exact hn
      | succ d ih => exact ih (hd _ hn)
    by_cases hn : p n = true
    · have all : (List.range n).countP p = n := by
        have q : (List.range n).countP p = (List.range n).length := List.countP_eq_length.mpr fun a ha => down a hn (by rw [List.mem_range] at ha; omega)
        rw [q, List.length_range]
      have one : List.countP p [n] = 1 := by simp [hn]
      rw [all, one]
      exact ⟨fun _ => h, fun _ => down b hn (by omega)⟩
    · have one : List.countP p [n] = 0 := by simp [hn]
      rw [one, Nat.add_zero]
      by_cases hb : b < n
      · exact count_down hd n b hb
      · have e : b = n := by omega
        subst e
        have le : (List.range b).countP p ≤ b := by
          have := List.countP_le_length (p := p) (l := List.range b)
          rwa [List.length_range] at this
        exact ⟨fun z => absurd z hn, fun z => by omega⟩
theorem same_below {n a c : Nat} (ha : a ≤ n) (hc : c ≤ n) (h : ∀ b, b < n → (b < a ↔ b < c)) : a = c := by
  apply Nat.le_antisymm
  · apply Nat.le_of_not_lt
    intro z
    exact absurd ((h c (by omega)).mp z) (Nat.lt_irrefl _)
  · apply Nat.le_of_not_lt
    intro z
    exact absurd ((h a (by omega)).mpr z) (Nat.lt_irrefl _)

/-! ### widths -/
/-- how many hours the window of hour x has -/
def wd (ns : List Int) (x : Int) : Nat := (List.range ns.length).countP fun b : Nat => decide ((b : Int) < S ns (x - b))
theorem wd_iff {ns : List Int} (v : Valid ns) (x : Int) {b : Nat} (h : b < ns.length) : (b : Int) < S ns (x - b) ↔ b < wd ns x := by
  have q := count_down (p := fun b : Nat => decide ((b : Int) < S ns (x - b))) (fun c hc => by
    have h1 := of_decide_eq_true hc
    have h2 := v.near (x - ((c + 1 : Nat) : Int))
    have e : x - ((c + 1 : Nat) : Int) + 1 = x - (c : Int) := by omega
    rw [e] at h2
    exact decide_eq_true (by omega)) ns.length b h
  exact decide_eq_true_iff.symm.trans q
theorem wd_le (ns : List Int) (x : Int) : wd ns x ≤ ns.length := by
  have := List.countP_le_length (p := fun b : Nat => decide ((b : Int) < S ns (x - b))) (l := List.range ns.length)
  rwa [List.length_range] at this
theorem wd_pos {ns : List Int} (v : Valid ns) (x : Int) : 1 ≤ wd ns x := (wd_iff v x v.pos).mp (by
  have := v.lo (x - ((0 : Nat) : Int))
  show (0 : Int) < _
  omega)
theorem wd_mod {ns : List Int} {x y : Int} (h : x % (ns.length : Int) = y % (ns.length : Int)) : wd ns x = wd ns y := by
  unfold wd
  congr 1
  funext b
  rw [S_mod (x := x - b) (y := y - b) (by rw [Int.sub_emod, h, ← Int.sub_emod])]
theorem wd_next {ns : List Int} (v : Valid ns) (x : Int) : wd ns (x + 1) ≤ wd ns x + 1 := by
  apply Nat.le_of_not_lt
  intro z
  have l := wd_le ns (x + 1)
  have h1 := (wd_iff v (x + 1) (b := wd ns x + 1) (by omega)).mpr z
  have e : x + 1 - ((wd ns x + 1 : Nat) : Int) = x - (wd ns x : Int) := by omega
  rw [e] at h1
  have h2 := (wd_iff v x (b := wd ns x) (by omega)).mp (by omega)
  exact absurd h2 (Nat.lt_irrefl _)
/-- what the loop finds -/
theorem wd_found {ns : List Int} (v : Valid ns) (x : Int) {w : Nat} (h1 : 1 ≤ w) (h2 : w ≤ ns.length) (all : ∀ b, b < w → (b : Int) < S ns (x - b)) (out : ¬ (w : Int) < S ns (x - w)) : wd ns x = w := by
  refine same_below (wd_le ns x) h2 fun b hb => ?_
  rw [← wd_iff v x hb]
  refine ⟨fun z => ?_, fun z => all b z⟩
  apply Nat.lt_of_not_le
  intro hwb
  by_cases hw : w < ns.length
  · have := (wd_iff v x hb).mp z
    exact out ((wd_iff v x hw).mpr (by omega))
  · omega

/-! ### a list of n items, by a function of the hour -/
def row (n : Nat) (f : Int → Int) : List Int := (List.range n).map fun i : Nat => f (i : Int)
theorem row_len (n : Nat) (f : Int → Int) : (row n f).length = n := by
  unfold row
  rw [List.length_map, List.length_range]
theorem row_get {n : Nat} {f : Int → Int} {i : Nat} (h : i < n) : (row n f)[i]? = some (f i) := by
  unfold row
  rw [List.getElem?_map, List.getElem?_range h]
  rfl
theorem S_row {n : Nat} {f : Int → Int} (hn : 0 < n) (x : Int) : S (row n f) x = f (x % (n : Int)) := by
  have h1 := Int.emod_nonneg x (show (n : Int) ≠ 0 by omega)
  have h2 := Int.emod_lt_of_pos x (show (0 : Int) < n by omega)
  unfold S
  rw [row_len, List.getD_eq_getElem?_getD, row_get (by omega)]
  have e : (((x % (n : Int)).toNat : Nat) : Int) = x % (n : Int) := by omega
  rw [e]
  rfl
theorem row_eq {ns : List Int} : ns = row ns.length (S ns) := by
  apply List.ext_getElem?
  intro i
  by_cases h : i < ns.length
  · rw [row_get h, S_get h, List.getElem?_eq_getElem h]
  · rw [List.getElem?_eq_none (by omega), List.getElem?_eq_none (by rw [row_len]; omega)]
theorem row_congr {n : Nat} {f g : Int → Int} (h : ∀ i : Nat, i < n → f i = g i) : row n f = row n g := by
  unfold row
  apply List.map_congr_left
  intro i hi
  exact h i (List.mem_range.mp hi)

/-! ### the other way, and from elsewhere -/
def widths (ns : List Int) : List Int := row ns.length fun x => (wd ns x : Int)
def mir (ns : List Int) : List Int := row ns.length fun x => (wd ns (-1 - x) : Int)
def trn (ns : List Int) (k : Int) : List Int := row ns.length fun x => S ns (x + k)
theorem S_mir {ns : List Int} (hp : 0 < ns.length) (x : Int) : S (mir ns) x = wd ns (-1 - x) := by
  unfold mir
  rw [S_row hp]
  show ((wd ns (-1 - x % (ns.length : Int)) : Nat) : Int) = _
  rw [wd_mod (x := -1 - x % (ns.length : Int)) (y := -1 - x) (by rw [Int.sub_emod, Int.emod_emod_of_dvd x (Int.dvd_refl _), ← Int.sub_emod])]
theorem mir_len (ns : List Int) : (mir ns).length = ns.length := row_len _ _
theorem trn_len (ns : List Int) (k : Int) : (trn ns k).length = ns.length := row_len _ _
theorem widths_len (ns : List Int) : (widths ns).length = ns.length := row_len _ _
theorem S_trn {ns : List Int} (hp : 0 < ns.length) (k x : Int) : S (trn ns k) x = S ns (x + k) := by
  unfold trn
  rw [S_row hp]
  exact S_mod (by rw [Int.emod_add_emod])
theorem valid_trn {ns : List Int} (v : Valid ns) (k : Int) : Valid (trn ns k) where
  pos := by rw [trn_len]; exact v.pos
  top := by rw [trn_len]; exact v.top
  lo := fun x => by rw [S_trn v.pos]; exact v.lo _
  hi := fun x => by rw [S_trn v.pos, trn_len]; exact v.hi _
  near := fun x => by
    rw [S_trn v.pos, S_trn v.pos, show x + 1 + k = x + k + 1 by omega]
    exact v.near _
theorem valid_mir {ns : List Int} (v : Valid ns) : Valid (mir ns) where
  pos := by rw [mir_len]; exact v.pos
  top := by rw [mir_len]; exact v.top
  lo := fun x => by
    rw [S_mir v.pos]
    have := wd_pos v (-1 - x)
    omega
  hi := fun x => by
    rw [S_mir v.pos, mir_len]
    have := wd_le ns (-1 - x)
    omega
  near := fun x => by
    rw [S_mir v.pos, S_mir v.pos]
    have := wd_next v (-1 - (x + 1))
    rw [show -1 - (x + 1) + 1 = -1 - x by omega] at this
    omega
theorem wd_trn {ns : List Int} (v : Valid ns) (k x : Int) : wd (trn ns k) x = wd ns (x + k) := by
  refine same_below (n := ns.length) (by have := wd_le (trn ns k) x; rwa [trn_len] at this) (wd_le ns _) fun b hb => ?_
  rw [← wd_iff (valid_trn v k) x (by rw [trn_len]; exact hb), ← wd_iff v (x + k) hb, S_trn v.pos, show x - (b : Int) + k = x + k - b by omega]
theorem wd_mir {ns : List Int} (v : Valid ns) (x : Int) : (wd (mir ns) x : Int) = S ns (-1 - x) := by
  have h1 := v.lo (-1 - x)
  have h2 := v.hi (-1 - x)
  have e : wd (mir ns) x = (S ns (-1 - x)).toNat := by
    refine same_below (n := ns.length) (by have := wd_le (mir ns) x; rwa [mir_len] at this) (by omega) fun b hb => ?_
    rw [← wd_iff (valid_mir v) x (by rw [mir_len]; exact hb), S_mir v.pos, show -1 - (x - (b : Int)) = -1 - x + b by omega]
    have q := wd_iff v (-1 - x + b) hb
    rw [show -1 - x + (b : Int) - b = -1 - x by omega] at q
    omega
  omega
theorem mir_mir {ns : List Int} (v : Valid ns) : mir (mir ns) = ns := by
  have e : mir (mir ns) = row ns.length (S ns) := by
    unfold mir
    rw [row_len]
    refine row_congr fun i hi => ?_
    show ((wd (mir ns) (-1 - (i : Int)) : Nat) : Int) = _
    rw [wd_mir v, show -1 - (-1 - (i : Int)) = i by omega]
  rw [e]
  exact row_eq.symm
theorem row_reverse (n : Nat) (f : Int → Int) : (row n f).reverse = row n fun x => f ((n : Int) - 1 - x) := by
  apply List.ext_getElem?
  intro i
  by_cases h : i < n
  · rw [List.getElem?_reverse (by rw [row_len]; exact h), row_get h, row_len, row_get (by omega)]
    congr 2
    omega
  · rw [List.getElem?_eq_none (by rw [List.length_reverse, row_len]; omega), List.getElem?_eq_none (by rw [row_len]; omega)]
theorem widths_rev {ns : List Int} : (widths ns).reverse = mir ns := by
  unfold widths mir
  rw [row_reverse]
  refine row_congr fun i hi => ?_
  show ((wd ns ((ns.length : Int) - 1 - i) : Nat) : Int) = _
  rw [wd_mod (x := (ns.length : Int) - 1 - i) (y := -1 - i) (by
    rw [show (ns.length : Int) - 1 - i = -1 - i + (1 : Int) * ns.length by omega, Int.add_mul_emod_self_right])]
/-- a clock handed on in two parts -/
theorem cut_trn {ns : List Int} (hp : 0 < ns.length) (k : Int) : ns.drop (k % (ns.length : Int)).toNat ++ ns.take (k % (ns.length : Int)).toNat = trn ns k := by
  have h1 := Int.emod_nonneg k (show (ns.length : Int) ≠ 0 by omega)
  have h2 := Int.emod_lt_of_pos k (show (0 : Int) < ns.length by omega)
  generalize hc : (k % (ns.length : Int)).toNat = c
  have hcl : c < ns.length := by omega
  have hck : (k % (ns.length : Int)) = (c : Int) := by omega
  apply List.ext_getElem?
  intro i
  by_cases h : i < ns.length
  · unfold trn
    rw [row_get h]
    by_cases h3 : i < ns.length - c
    · rw [List.getElem?_append_left (by rw [List.length_drop]; exact h3), List.getElem?_drop, List.getElem?_eq_getElem (by omega), ← S_get (by omega)]
      congr 1
      refine S_mod ?_
      rw [Int.add_emod (i : Int) k, hck, show ((c + i : Nat) : Int) = (i : Int) + c by omega, Int.add_emod (i : Int) c, Int.emod_eq_of_lt (a := (c : Int)) (by omega) (by omega)]
    · rw [List.getElem?_append_right (by rw [List.length_drop]; omega), List.length_drop, List.getElem?_take, if_pos (by omega), List.getElem?_eq_getElem (by omega), ← S_get (by omega)]
      congr 1
      refine S_mod ?_
      have e : (i : Int) + c = ((i - (ns.length - c) : Nat) : Int) + 1 * ns.length := by omega
      rw [Int.add_emod (i : Int) k, hck]
      have e2 := Int.add_mul_emod_self_right ((i - (ns.length - c) : Nat) : Int) 1 (ns.length : Int)
      rw [← e] at e2
      rw [← e2, Int.add_emod (i : Int) c, Int.emod_eq_of_lt (a := (c : Int)) (by omega) (by omega)]
  · rw [List.getElem?_eq_none (by rw [List.length_append, List.length_drop, List.length_take]; omega), List.getElem?_eq_none (by rw [trn_len]; omega)]
end Clk
namespace Clk
/-- the hours that one serves who begins at i; the hours of the window of i -/
def served (ns : List Int) (i : Int) : List Int := row (S ns i).toNat fun k => (i + k) % (ns.length : Int)
def serving (ns : List Int) (i : Int) : List Int := row (wd ns i) fun k => (i - wd ns i + 1 + k) % (ns.length : Int)
theorem served_len {ns : List Int} (v : Valid ns) (i : Int) : ((served ns i).length : Int) = S ns i := by
  have := v.lo i
  unfold served
  rw [row_len]
  omega
theorem serving_len (ns : List Int) (i : Int) : (serving ns i).length = wd ns i := row_len _ _
end Clk
namespace Clk
/-- the least of a row -/
def least : List Int → Int
  | [] => 0
  | [x] => x
  | x :: y :: r => min x (least (y :: r))
theorem least_mem : ∀ (l : List Int), l ≠ [] → least l ∈ l
  | [], h => absurd rfl h
  | [x], _ => List.mem_singleton.mpr rfl
  | x :: y :: r, _ => by
    have ih := least_mem (y :: r) (List.cons_ne_nil _ _)
    show min x (least (y :: r)) ∈ x :: y :: r
    rcases Int.le_total x (least (y :: r)) with h | h
    · rw [Int.min_eq_left h]
      exact List.mem_cons_self ..
    · rw [Int.min_eq_right h]
      exact List.mem_cons_of_mem _ ih
theorem least_le : ∀ (l : List Int) (z : Int), z ∈ l → least l ≤ z
  | [], z, h => nomatch h
  | [x], z, h => by
    rw [List.mem_singleton.mp h]
    exact Int.le_refl _
  | x :: y :: r, z, h => by
    show min x (least (y :: r)) ≤ z
    rcases List.mem_cons.mp h with rfl | h
    · exact Int.min_le_left _ _
    · exact Int.le_trans (Int.min_le_right _ _) (least_le (y :: r) z h)
theorem least_is {l : List Int} {m : Int} (h1 : m ∈ l) (h2 : ∀ y ∈ l, m ≤ y) : m = least l :=
  Int.le_antisymm (h2 _ (least_mem l (List.ne_nil_of_mem h1))) (least_le l m h1)
/-- stays made of any numbers: the least of what is drawn ahead, plus how far ahead -/
def made (ds : List Int) (x : Int) : Int := least (row ds.length fun a => S ds (x + a) + a)
theorem mem_row {n : Nat} {f : Int → Int} {z : Int} : z ∈ row n f ↔ ∃ i : Nat, i < n ∧ f i = z := by
  unfold row
  rw [List.mem_map]
  exact ⟨fun ⟨i, h, e⟩ => ⟨i, List.mem_range.mp h, e⟩, fun ⟨i, h, e⟩ => ⟨i, List.mem_range.mpr h, e⟩⟩
theorem made_mod {ds : List Int} {x y : Int} (h : x % (ds.length : Int) = y % (ds.length : Int)) : made ds x = made ds y := by
  unfold made
  congr 1
  refine row_congr fun i _ => ?_
  show S ds (x + i) + i = S ds (y + i) + i
  rw [S_mod (x := x + i) (y := y + i) (by rw [Int.add_emod, h, ← Int.add_emod])]
theorem made_valid {ds : List Int} (p : 0 < ds.length) (t : ds.length ≤ 48) (r : ∀ x, 1 ≤ S ds x ∧ S ds x ≤ ds.length) : Valid (row ds.length (made ds)) := by
  have lo : ∀ x, 1 ≤ made ds x := fun x => by
    have ne : row ds.length (fun a => S ds (x + a) + a) ≠ [] := fun z => by
      have := congrArg List.length z
      rw [row_len, List.length_nil] at this
      omega
    obtain ⟨i, _, e⟩ := mem_row.mp (least_mem _ ne)
    have := (r (x + i)).1
    unfold made
    rw [← e]
    omega
  have le0 : ∀ x, made ds x ≤ S ds x := fun x => by
    have := least_le (row ds.length (fun a => S ds (x + a) + a)) (S ds (x + ((0 : Nat) : Int)) + ((0 : Nat) : Int)) (mem_row.mpr ⟨0, p, rfl⟩)
    have e : x + ((0 : Nat) : Int) = x := by omega
    rw [e] at this
    unfold made
    omega
  have per : ∀ x, S (row ds.length (made ds)) x = made ds x := fun x => by
    rw [S_row p]
    exact made_mod (Int.emod_emod_of_dvd x (Int.dvd_refl _))
  refine ⟨by rw [row_len]; exact p, by rw [row_len]; exact t, fun x => by rw [per]; exact lo x, fun x => ?_, fun x => ?_⟩
  · rw [per, row_len]
    exact Int.le_trans (le0 x) (r x).2
  · rw [per, per]
    have ne : row ds.length (fun a => S ds (x + 1 + a) + a) ≠ [] := fun z => by
      have := congrArg List.length z
      rw [row_len, List.length_nil] at this
      omega
    obtain ⟨i, hi, e⟩ := mem_row.mp (least_mem _ ne)
    have e' : made ds (x + 1) = S ds (x + 1 + i) + i := e.symm
    by_cases h : i + 1 < ds.length
    · have := least_le (row ds.length (fun a => S ds (x + a) + a)) (S ds (x + ((i + 1 : Nat) : Int)) + ((i + 1 : Nat) : Int)) (mem_row.mpr ⟨i + 1, h, rfl⟩)
      have e2 : x + ((i + 1 : Nat) : Int) = x + 1 + i := by omega
      rw [e2] at this
      rw [e']
      unfold made
      omega
    · have e2 : x + 1 + (i : Int) = x + (1 : Int) * ds.length := by omega
      rw [e', e2, S_per]
      have := le0 x
      omega
/-- one stay for all hours -/
theorem even_valid {n : Nat} {c : Int} (p : 0 < n) (t : n ≤ 48) (h1 : 1 ≤ c) (h2 : c ≤ n) : Valid (List.replicate n c) := by
  have e : ∀ x, S (List.replicate n c) x = c := fun x => by
    obtain ⟨h, e⟩ := S_at (ns := List.replicate n c) (by rw [List.length_replicate]; exact p) x
    rw [e, List.getElem_replicate]
  refine ⟨by rw [List.length_replicate]; exact p, by rw [List.length_replicate]; exact t, fun x => by rw [e]; exact h1, fun x => by rw [e, List.length_replicate]; exact h2, fun x => by rw [e, e]; omega⟩
end Clk
namespace Clk
theorem serving_rev (ns : List Int) (i : Int) : (row (wd ns i) fun k => (i - k) % (ns.length : Int)).reverse = serving ns i := by
  unfold serving
  rw [row_reverse]
  refine row_congr fun k _ => ?_
  show (i - ((wd ns i : Int) - 1 - k)) % (ns.length : Int) = (i - wd ns i + 1 + k) % (ns.length : Int)
  rw [show i - ((wd ns i : Int) - 1 - k) = i - wd ns i + 1 + k by omega]
end Clk

/-! Clk2 -/
/-! sums of stays and of widths; who serves whom; the clock the other way -/
namespace Clk
def Sum : Nat → (Int → Int) → Int
  | 0, _ => 0
  | n + 1, f => Sum n f + f n
theorem sum_row (n : Nat) (f : Int → Int) : (row n f).sum = Sum n f := by
  induction n with
  | zero => rfl
  | succ n ih =>
    have e : row (n + 1) f = row n f ++ [f n] := by
      unfold row
      rw [List.range_succ, List.map_append]
      rfl
    rw [e, List.sum_append, ih]
    show Sum n f + (f n + 0) = Sum n f + f n
    omega
theorem Sum_congr : ∀ {n : Nat} {f g : Int → Int}, (∀ i : Nat, i < n → f i = g i) → Sum n f = Sum n g
  | 0, _, _, _ => rfl
  | n + 1, f, g, h => by
    show Sum n f + f n = Sum n g + g n
    rw [Sum_congr fun i hi => h i (Nat.lt_succ_of_lt hi), h n (Nat.lt_succ_self n)]
theorem Sum_add : ∀ (n : Nat) (f g : Int → Int), Sum n (fun x => f x + g x) = Sum n f + Sum n g
  | 0, _, _ => rfl
  | n + 1, f, g => by
    show Sum n (fun x => f x + g x) + (f n + g n) = Sum n f + f n + (Sum n g + g n)
    rw [Sum_add n f g]
    omega
theorem Sum_nil : ∀ n : Nat, Sum n (fun _ => 0) = 0
  | 0 => rfl
  | n + 1 => by
    show Sum n (fun _ => 0) + 0 = 0
    rw [Sum_nil n]
    rfl
theorem Sum_swap (m : Nat) (f : Int → Int → Int) : ∀ n : Nat, Sum n (fun x => Sum m fun b => f x b) = Sum m fun b => Sum n fun x => f x b
  | 0 => (Sum_nil m).symm
  | n + 1 => by
    show Sum n (fun x => Sum m fun b => f x b) + Sum m (fun b => f n b) = Sum m fun b => (Sum n fun x => f x b) + f n b
    rw [Sum_swap m f n, Sum_add]
theorem Sum_one (g : Int → Int) : ∀ n : Nat, Sum n (fun x => g (x - 1)) + g ((n : Int) - 1) = g (-1) + Sum n g
  | 0 => by
    show (0 : Int) + g (((0 : Nat) : Int) - 1) = g (-1) + 0
    rw [show (((0 : Nat) : Int) - 1) = -1 by omega]
    omega
  | n + 1 => by
    have ih := Sum_one g n
    show Sum n (fun x => g (x - 1)) + g ((n : Int) - 1) + g (((n + 1 : Nat) : Int) - 1) = g (-1) + (Sum n g + g n)
    rw [show (((n + 1 : Nat) : Int) - 1) = n by omega]
    omega
theorem Sum_shift {n : Nat} {g : Int → Int} (per : ∀ x, g (x + n) = g x) : ∀ b : Nat, Sum n (fun x => g (x - b)) = Sum n g
  | 0 => Sum_congr fun i _ => by rw [show (i : Int) - ((0 : Nat) : Int) = i by omega]
  | b + 1 => by
    have one := Sum_one (fun x => g (x - b)) n
    have p := per (-1 - b)
    have e : Sum n (fun x => g (x - ((b + 1 : Nat) : Int))) = Sum n (fun x => g (x - 1 - b)) := Sum_congr fun i _ => by rw [show (i : Int) - ((b + 1 : Nat) : Int) = (i : Int) - 1 - b by omega]
    have ih := Sum_shift per b
    have one' : Sum n (fun x => g (x - 1 - b)) + g ((n : Int) - 1 - b) = g (-1 - b) + Sum n (fun x => g (x - b)) := one
    rw [show (n : Int) - 1 - b = -1 - b + n by omega, p] at one'
    rw [e]
    omega
def ind (c : Prop) [Decidable c] : Int := if c then 1 else 0
theorem count_Sum (p : Nat → Bool) : ∀ n : Nat, (((List.range n).countP p : Nat) : Int) = Sum n (fun b => if p b.toNat = true then 1 else 0)
  | 0 => rfl
  | n + 1 => by
    rw [List.range_succ, List.countP_append]
    have ih := count_Sum p n
    show _ = Sum n (fun b => if p b.toNat = true then 1 else 0) + (if p ((n : Int)).toNat = true then 1 else 0)
    rw [Int.toNat_natCast]
    by_cases h : p n = true
    · rw [if_pos h]
      have : List.countP p [n] = 1 := by simp [h]
      omega
    · rw [if_neg h]
      have : List.countP p [n] = 0 := by simp [h]
      omega
theorem Sum_below (c : Int) (h0 : 0 ≤ c) : ∀ n : Nat, Sum n (fun b => if b < c then 1 else 0) = if (n : Int) ≤ c then (n : Int) else c
  | 0 => by
    show (0 : Int) = if (0 : Int) ≤ c then (0 : Int) else c
    rw [if_pos h0]
  | n + 1 => by
    have ih := Sum_below c h0 n
    show Sum n (fun b => if b < c then 1 else 0) + (if (n : Int) < c then 1 else 0) = _
    rw [ih]
    by_cases h1 : (n : Int) < c
    · rw [if_pos (show (n : Int) ≤ c by omega), if_pos h1, if_pos (show ((n + 1 : Nat) : Int) ≤ c by omega)]
      omega
    · rw [if_neg h1, if_neg (show ¬ ((n + 1 : Nat) : Int) ≤ c by omega)]
      by_cases h2 : (n : Int) ≤ c
      · rw [if_pos h2]
        omega
      · rw [if_neg h2]
        omega
theorem sum_widths {ns : List Int} (v : Valid ns) : (widths ns).sum = ns.sum := by
  have e1 : (widths ns).sum = Sum ns.length fun x => Sum ns.length fun b => if b < S ns (x - b) then 1 else 0 := by
    unfold widths
    rw [sum_row]
    refine Sum_congr fun x _ => ?_
    show ((wd ns x : Nat) : Int) = _
    unfold wd
    rw [count_Sum]
    refine Sum_congr fun b _ => ?_
    rw [Int.toNat_natCast]
    by_cases h : (b : Int) < S ns (x - b)
    · rw [if_pos h, if_pos (decide_eq_true h)]
    · rw [if_neg h, if_neg (by rw [decide_eq_false h]; decide)]
  have e2 : ns.sum = Sum ns.length fun x => Sum ns.length fun b => if b < S ns x then 1 else 0 := by
    have z : ns.sum = (row ns.length (S ns)).sum := congrArg List.sum row_eq
    rw [z, sum_row]
    refine Sum_congr fun x _ => ?_
    have h1 := v.lo x
    have h2 := v.hi x
    rw [Sum_below (S ns x) (by omega)]
    by_cases h : (ns.length : Int) ≤ S ns x
    · rw [if_pos h]
      omega
    · rw [if_neg h]
  rw [e1, e2, Sum_swap ns.length (fun x b => if b < S ns (x - b) then 1 else 0) ns.length, Sum_swap ns.length (fun x b => if b < S ns x then 1 else 0) ns.length]
  refine Sum_congr fun b _ => ?_
  exact Sum_shift (g := fun x => if (b : Int) < S ns x then 1 else 0) (fun x => by
    have q := S_per (ns := ns) x 1
    rw [Int.one_mul] at q
    rw [q]) b

/-! ### who serves whom -/
theorem mem_served {ns : List Int} (v : Valid ns) {b h : Int} (h0 : 0 ≤ h) (h1 : h < ns.length) : h ∈ served ns b ↔ (h - b) % (ns.length : Int) < S ns b := by
  have p := v.pos
  have r0 := Int.emod_nonneg (h - b) (show (ns.length : Int) ≠ 0 by omega)
  have r1 := Int.emod_lt_of_pos (h - b) (show (0 : Int) < ns.length by omega)
  have hi := v.hi b
  unfold served
  rw [mem_row]
  constructor
  · rintro ⟨k, hk, e⟩
    have e2 : (h - b) % (ns.length : Int) = k := by
      rw [← e, Int.emod_sub_emod, show b + (k : Int) - b = k by omega]
      exact Int.emod_eq_of_lt (by omega) (by omega)
    omega
  · intro z
    refine ⟨((h - b) % (ns.length : Int)).toNat, by omega, ?_⟩
    rw [show ((((h - b) % (ns.length : Int)).toNat : Nat) : Int) = (h - b) % (ns.length : Int) by omega, Int.add_emod_emod, show b + (h - b) = h by omega]
    exact Int.emod_eq_of_lt h0 h1
theorem mem_serving {ns : List Int} (v : Valid ns) {b h : Int} (b0 : 0 ≤ b) (b1 : b < ns.length) : b ∈ serving ns h ↔ (h - b) % (ns.length : Int) < wd ns h := by
  have p := v.pos
  have r0 := Int.emod_nonneg (h - b) (show (ns.length : Int) ≠ 0 by omega)
  have r1 := Int.emod_lt_of_pos (h - b) (show (0 : Int) < ns.length by omega)
  have hi := wd_le ns h
  unfold serving
  rw [mem_row]
  constructor
  · rintro ⟨k, hk, e⟩
    have e2 : (h - b) % (ns.length : Int) = (wd ns h : Int) - 1 - k := by
      rw [← e, Int.sub_emod_emod, show h - (h - (wd ns h : Int) + 1 + k) = (wd ns h : Int) - 1 - k by omega]
      exact Int.emod_eq_of_lt (by omega) (by omega)
    omega
  · intro z
    refine ⟨((wd ns h : Int) - 1 - (h - b) % (ns.length : Int)).toNat, by omega, ?_⟩
    rw [show ((((wd ns h : Int) - 1 - (h - b) % (ns.length : Int)).toNat : Nat) : Int) = (wd ns h : Int) - 1 - (h - b) % (ns.length : Int) by omega,
      show h - (wd ns h : Int) + 1 + ((wd ns h : Int) - 1 - (h - b) % (ns.length : Int)) = h - (h - b) % (ns.length : Int) by omega, Int.sub_emod_emod, show h - (h - b) = b by omega]
    exact Int.emod_eq_of_lt b0 b1
theorem served_serving {ns : List Int} (v : Valid ns) {b h : Int} (b0 : 0 ≤ b) (b1 : b < ns.length) (h0 : 0 ≤ h) (h1 : h < ns.length) : h ∈ served ns b ↔ b ∈ serving ns h := by
  have p := v.pos
  have r0 := Int.emod_nonneg (h - b) (show (ns.length : Int) ≠ 0 by omega)
  have r1 := Int.emod_lt_of_pos (h - b) (show (0 : Int) < ns.length by omega)
  rw [mem_served v h0 h1, mem_serving v b0 b1]
  have q := wd_iff v h (b := ((h - b) % (ns.length : Int)).toNat) (by omega)
  have e : S ns (h - ((((h - b) % (ns.length : Int)).toNat : Nat) : Int)) = S ns b := S_mod (by
    rw [show ((((h - b) % (ns.length : Int)).toNat : Nat) : Int) = (h - b) % (ns.length : Int) by omega, Int.sub_emod_emod, show h - (h - b) = b by omega])
  rw [e] at q
  omega

/-! ### the other way -/
theorem glass_mod {n y : Int} (hn : 0 < n) : n - 1 - y % n = (n - 1 - y) % n := by
  have r0 := Int.emod_nonneg y (show n ≠ 0 by omega)
  have r1 := Int.emod_lt_of_pos y hn
  have e := Int.sub_emod_emod (n - 1) y n
  rw [← e]
  exact (Int.emod_eq_of_lt (by omega) (by omega)).symm
theorem row_map (n : Nat) (f g : Int → Int) : (row n f).map g = row n fun x => g (f x) := by
  unfold row
  rw [List.map_map]
  rfl
theorem served_mir {ns : List Int} (v : Valid ns) (h : Int) : served (mir ns) ((ns.length : Int) - 1 - h) = ((serving ns h).map fun x => (ns.length : Int) - 1 - x).reverse := by
  have p := v.pos
  have e : S (mir ns) ((ns.length : Int) - 1 - h) = wd ns h := by
    rw [S_mir p]
    have z : wd ns (-1 - ((ns.length : Int) - 1 - h)) = wd ns h := wd_mod (by
      have q := Int.add_mul_emod_self_right (-1 - ((ns.length : Int) - 1 - h)) 1 (ns.length : Int)
      rw [← q, show -1 - ((ns.length : Int) - 1 - h) + 1 * (ns.length : Int) = h by omega])
    rw [z]
  unfold served serving
  rw [e, mir_len, row_map, row_reverse, Int.toNat_natCast]
  refine row_congr fun k _ => ?_
  show ((ns.length : Int) - 1 - h + k) % (ns.length : Int) = (ns.length : Int) - 1 - (h - wd ns h + 1 + ((wd ns h : Int) - 1 - k)) % (ns.length : Int)
  rw [glass_mod (by omega)]
  congr 1
  omega
theorem serving_mir {ns : List Int} (v : Valid ns) (h : Int) : serving (mir ns) ((ns.length : Int) - 1 - h) = ((served ns h).map fun x => (ns.length : Int) - 1 - x).reverse := by
  have p := v.pos
  have h1 := v.lo h
  have e : (wd (mir ns) ((ns.length : Int) - 1 - h) : Int) = S ns h := by
    rw [wd_mir v]
    have q := S_per (ns := ns) (-1 - ((ns.length : Int) - 1 - h)) 1
    rw [← q, show -1 - ((ns.length : Int) - 1 - h) + 1 * (ns.length : Int) = h by omega]
  have e2 : wd (mir ns) ((ns.length : Int) - 1 - h) = (S ns h).toNat := by omega
  unfold serving served
  rw [mir_len, row_map, row_reverse, e2]
  refine row_congr fun k _ => ?_
  show ((ns.length : Int) - 1 - h - ((S ns h).toNat : Int) + 1 + k) % (ns.length : Int) = (ns.length : Int) - 1 - (h + (((S ns h).toNat : Int) - 1 - k)) % (ns.length : Int)
  rw [glass_mod (by omega)]
  congr 1
  omega
end Clk

/-! Own -/
/-! rules of my own over the layer -/
namespace Hn
open PySem L2 PyProof.Rows
section
variable {X : Cx}
/-- xs[i] read for xs[i] += e -/
theorem get_list : PGet X (rIxL X.K) := by
  intro pins s σ H o i ov iv Q I ro ri h
  obtain ⟨p, xs, k, z, rfl, rfl, hq, he, q⟩ := h
  cases ro
  obtain ⟨t, rfl⟩ := ri
  obtain ⟨its, r, pl, hz⟩ := I.list hq
  obtain ⟨j, h1, h2, h3, h4, h5⟩ := atI_get he
  obtain ⟨w, ew, rw'⟩ := r.get h2
  have hl := r.length
  have hn := line63
  have fin : EP X pins σ Q w s := ⟨z, H, I, rw', q⟩
  by_cases h0 : 0 ≤ k
  · have hj : k.toNat = j := by
      rw [seqIndex_of h0 h5] at h1
      exact Option.some.inj h1
    exact wpAny_getItem_list pl.isList h0 (by omega) (by rw [hj]; simpa using ew) fin
  · have hj : (k + (its.toArray.size : Int)).toNat = j := by
      rw [seqIndex_neg (by omega) h4] at h1
      rw [List.size_toArray, ← hl]
      exact Option.some.inj h1
    exact wpAny_getItem_list_neg pl.isList (by omega) (by rw [List.size_toArray] <;> omega) (by omega) (by rw [hj]; simpa using ew) fin
theorem PI.or {tg iter : Expr} {w1 w2 : TI} (h1 : PI X tg iter w1) (h2 : PI X tg iter w2) : PI X tg iter (fun σ H R => w1 σ H R ∨ w2 σ H R) :=
  ⟨fun pins s σ H R I h => h.elim (h1.run pins s σ H R I) (h2.run pins s σ H R I)⟩
/-- a list or a tuple, walked -/
theorem pi_seq {tg l : Expr} {tl : TE} (hl : PE X l tl) : PI X tg l (fun σ H R => iList X.K tl σ H R ∨ iTup X.K tl σ H R) := PI.or (pi_list hl) (pi_tup hl)
end
end Hn

/-! Own2 -/
namespace Hn
open PySem PySem.Spec L2
open PyProof.Rows hiding St
/-- '0' * k, both small -/
theorem op_mul_str {X : Cx} : OpR X (binaryOp .Mult) (fun x y H Q => ∃ z k, x = .str z ∧ y = .int k ∧ z.length ≤ 100 ∧ 0 ≤ k ∧ k ≤ 1000 ∧ Q (.str (Txt.mul z k)) H) := by
  intro pins s σ H x y v u Q I rx ry h
  obtain ⟨z, k, rfl, rfl, h1, h2, h3, q⟩ := h
  obtain ⟨t, rfl⟩ := rx
  obtain ⟨t', rfl⟩ := ry
  exact SB.mul (mulOk_of 100 1000 h1 h3 (by omega) (by decide) (by decide)) fun a b => ⟨.str _, H, I.tok _, ⟨_, rfl⟩, q⟩

set_option maxHeartbeats 1000000 in
theorem meets_enum1 {v : Value} {o : Obj} {G : Heap → Prop} (B : Begins v o G) :
    Meets (Builtin.«enumerate.__new__» ⟨[.type "enumerate", v], []⟩) (fun _ R s => G s.heap ∧
      R (.ok (.ret (.ref (s.heap.push o).objs.size))) { s with heap := (s.heap.push o).push { cls := .type "enumerate", data := .fields #[.none, .bool false, .ref s.heap.objs.size, rawInt 0, .none, .none] } }) :=
  .of_wp fun prog w A R s h => by
    obtain ⟨hp, g, d, tk, os⟩ := s
    obtain ⟨hG, h⟩ := h
    have hsE := sub_enumerate
    have it {A' : Around} {E : Value → Shared → Prop} {Q : Value → Shared → Prop} (q : Q (.ref hp.objs.size) ⟨hp.push o, g, d, tk, os⟩) : wpAny (model prog w) A' (pyIter v) Q E ⟨hp, g, d, tk, os⟩ :=
      B.iter prog w _ _ ⟨hp, g, d, tk, os⟩ _ hG q
    wp_walk using it
    refine wpAny_stack_any fun _ => wpAny_pure ?_
    split
    · rename_i c _ _ _ _ _
      cases (c == Value.type "enumerate") <;> (wp_walk using it; exact ⟨_, rfl, h⟩)
    · wp_walk using it
      exact ⟨_, rfl, h⟩
/-- enumerate(v): its two new cells -/
theorem enum_made {prog : Program} {w : World} {A : Around} {E : Value → Shared → Prop} {s : Shared} {v : Value} {o : Obj} {G : Heap → Prop} {Q : Value → Shared → Prop} (B : Begins v o G) (h1 : G s.heap)
    (h : ∀ h', IsEnum h' (s.heap.objs.size + 1) s.heap.objs.size 0 .none → h'.get? s.heap.objs.size = some o → (∀ b u, s.heap.get? b = some u → h'.get? b = some u) → Q (.ref (s.heap.objs.size + 1)) { s with heap := h' }) :
    wpAny (model prog w) A (call (.type "enumerate") [v]) Q E s := by
  refine callType_new F.called_enumerate (by decide) (F.typeCall_enumerate_1 _) (F.newCall_enumerate_1 _) (fun obj => F.args_object_init_2 obj _) F.entry_enumerate_new (meets_enum1 B) ⟨h1, ?_⟩
  have z1 : (s.heap.push o).objs.size = s.heap.objs.size + 1 := Heap.size_push _ _
  show _ ∧ _
  rw [z1]
  have en : IsEnum ((s.heap.push o).push { cls := .type "enumerate", data := .fields #[.none, .bool false, .ref s.heap.objs.size, rawInt 0, .none, .none] }) (s.heap.objs.size + 1) s.heap.objs.size 0 .none := by
    have q := Heap.get?_push_size (s.heap.push o) (o := { cls := .type "enumerate", data := .fields #[.none, .bool false, .ref s.heap.objs.size, rawInt 0, .none, .none] }) rfl
    rw [z1] at q
    exact q
  refine ⟨⟨_, en, rfl⟩, h _ en (Heap.get?_push_of_some _ (Heap.get?_push_size _ B.free)) fun b u x => ?_⟩
  exact Heap.get?_push_of_some _ (Heap.get?_push_of_some _ x)

/-- the tuple at a as it stands at each turn, each item in a new pair -/
def ItE (K : PySem.W.Frag) (a : Addr) : It :=
  ⟨fun i H => ∃ (xs : List V) (x : V), SqT K H a xs ∧ xs[i]? = some x, fun i H v H' => ∃ T x, v = .ref T ∧ H T = none ∧ H' = upd H T (.tup [.int (i : Nat), x]) ∧ ∀ xs, SqT K H a xs → xs[i]? = some x,
    fun i H => ∃ xs : List V, SqT K H a xs ∧ xs.length ≤ i⟩
theorem enumT_end {prog : Program} {w : World} {A : Around} {E : Value → Shared → Prop} {s : Shared} {e it l : Addr} {i : Nat} {c : Int} {items : Array Value} {old : Value} {Q : Option Value → Shared → Prop} (hh : A.handled = none)
    (he : IsEnum s.heap e it c old) (hit : s.heap.IsTupleIter it l i) (hl : s.heap.IsTuple l items) (hx : items[i]? = none) (hQ : ∀ h', Heap.ExtBut it s.heap h' → Q none { s with heap := h' }) : wpAny (model prog w) A (pyNext (.ref e)) Q E s := by
  have ty : s.TypeIs (.ref e) "enumerate" := ⟨_, he, rfl⟩
  unfold pyNext
  refine wpAny_bind (wpAny_attempt (wpAny_callSpecial?_slot (name := Str.ofString "__next__") ty F.slot_enumerate_next (wpAny_call_entry F.slot_enumerate_next ty F.entry_enumerate_next ?_ (F.args_enumerate_next_1 _))))
  show wpAny _ _ (field (.ref e) 2 >>= _) _ _ _
  refine wpAny_bind (wpAny_field he rfl (x := .ref it) rfl (wpAny_bind (wpAny_nextOf_tuple_end (by first | exact hh | (show A.in1.handled = none; exact hh)) hit hl hx fun h' x he' hx' => ?_)))
  obtain ⟨o, ho, hc⟩ := hx'
  exact wpAny_bind (wpAny_isInstance (T := "StopIteration") (b := true) ⟨o, ho, hc⟩ isSubtype_stop (wpAny_pure (hQ _ he')))
theorem turn_enumT {P : Program} {w : World} {K : PySem.W.Frag} {elts : List Expr} {kk : Nat} {tpos : Pos} (a e it : Addr) :
    Turn P w K (.Tuple elts kk tpos) (ItE K a) [e, it] e (fun i h => (∃ old, IsEnum h e it ((i : Nat) : Int) old) ∧ h.IsTupleIter it a i ∧ e ≠ it) where
  mem := by simp
  obj := fun i h st b hb => by
    obtain ⟨⟨old, he⟩, ⟨o, ho, hc, hd⟩, _⟩ := st
    have hb' : b = e ∨ b = it := by simpa using hb
    rcases hb' with rfl | rfl
    · exact ⟨_, he, fun v q => nomatch q⟩
    · exact ⟨o, ho, fun v q => by rw [hd] at q; cases q⟩
  keep := fun i h h' st k => by
    obtain ⟨⟨old, he⟩, hi, hne⟩ := st
    exact ⟨⟨old, k e (by simp) _ he⟩, hi.at fun o q => k it (by simp) o q, hne⟩
  item := by
    intro X hP hw hK hc i pins s σ H E I hf st hg
    subst hP hw hK
    obtain ⟨⟨old, he⟩, hit, hne⟩ := st
    obtain ⟨xs, x, hq, hx⟩ := hg
    obtain ⟨its, rv, p, hz⟩ := I.tuple hq
    obtain ⟨u, hu, ru⟩ := rv.get hx
    have le : e < s.heap.objs.size := Heap.lt_size he
    have li : it < s.heap.objs.size := by
      obtain ⟨_, q, _⟩ := hit
      exact Heap.lt_size q
    have hae : a ≠ e := by
      rintro rfl
      obtain ⟨o, h1, h2, _⟩ := p
      rw [show s.heap.get? a = some _ from he] at h1
      cases h1
      have h3 : Value.type "enumerate" = Value.type "tuple" := h2
      exact absurd h3 (by decide)
    have hai : a ≠ it := by
      rintro rfl
      obtain ⟨o, h1, h2, _⟩ := p
      obtain ⟨o', h3, h4, _⟩ := hit
      rw [h3] at h1
      cases h1
      rw [h4] at h2
      have h5 : Value.type "tuple_iterator" = Value.type "tuple" := h2
      exact absurd h5 (by decide)
    have D := Draws.tuple (prog := X.prog) (w := X.w) (A := X.A.in1) (I.ok.hd hc) it a hai its.toArray
    refine wpAny_pyNext_enum_itemC D he ⟨hit, p⟩ (i := i) (by
      have := (List.getElem?_eq_some_iff.mp hu).1
      simpa using this) hne (by simp [hne, Ne.symm hae]) fun y h' tk hy ho hs hT hsz hk => ?_
    have ey : y = u := by
      have hy' : its[i]? = some y := by simpa using hy
      rw [hu] at hy'
      exact (Option.some.inj hy').symm
    subst ey
    refine ⟨_, rfl, wpAny_letOwnedTupleGo_enum (s := { s with heap := h', toks := tk + 1 }) ho fun h'' he' sb => ?_⟩
    have hT2 : h''.get? s.heap.objs.size = some { cls := .type "tuple", data := .seq #[.int i tk, y] } := (sb.2 _ (Nat.ne_of_gt le)).trans hT
    have new : ObjOk X.prog X.w (upd H s.heap.objs.size (.tup [.int (i : Nat), x])) h'' s.heap.objs.size (.tup [.int (i : Nat), x]) :=
      ⟨by show 2 ≤ sizeLine; decide, [.int i tk, y], .cons ⟨_, rfl⟩ (.cons ru .nil), ⟨_, hT2, rfl, _, rfl⟩⟩
    have I1 : Inv X pins σ (upd H s.heap.objs.size (.tup [.int (i : Nat), x])) { s with heap := h'', toks := tk + 1 } :=
      I.turnedNew (ch := [e, it]) (fun b ob hb q => (sb.2 b (fun z => hb (by simp [z]))).trans (hk b ob (fun z => hb (by simp [z])) (fun z => hb (by simp [z])) q)) hf (Nat.le_refl _) new
    refine ⟨.ref s.heap.objs.size, _, I1, rfl, ⟨_, x, rfl, I.hok.fresh (Nat.le_refl _), rfl, fun ys hy => by rw [I.tuple_inj hy hq]; exact hx⟩, ⟨⟨y, ?_⟩, hs.1.at fun o q => (sb.2 it (Ne.symm hne)).trans q, hne⟩, fun b hb => ?_⟩
    · rw [show ((i + 1 : Nat) : Int) = (i : Int) + 1 by omega]
      exact he'
    · have lb : b < s.heap.objs.size := by
        have hb' : b = e ∨ b = it := by simpa using hb
        rcases hb' with rfl | rfl
        · exact le
        · exact li
      rw [upd_ne (Nat.ne_of_lt lb)]
      exact (hf b hb).1
  done := by
    intro X hP hw hK hc i pins s σ H E I hf st hg
    subst hP hw hK
    obtain ⟨⟨old, he⟩, hit, hne⟩ := st
    obtain ⟨xs, hq, hx⟩ := hg
    obtain ⟨its, rv, p, hz⟩ := I.tuple hq
    obtain ⟨f0, f1, f2, f3, f4, f5⟩ := hf it (by simp)
    have hl := rv.length
    exact enumT_end (I.ok.hd hc) he hit p (by simp; omega) fun h' eb => ⟨rfl, I.turned (t' := s.toks) (fun b o hb q => eb b o hb q) f0 f1 f3 f4 f5⟩
  self := fun A i s Q E st h => let ⟨⟨_, he⟩, _⟩ := st; wpAny_pyIter_enum he h
def iEnT (K : PySem.W.Frag) (ta : TA) : TI := fun σ H R => ta σ H fun vs H1 => ∃ a xs, vs = [.ref a] ∧ SqT K H1 a xs ∧ R (ItE K a) H1
theorem pi_enumT {X : Cx} {e : Expr} {ta : TA} {p pos tpos : Pos} {elts : List Expr} {kk : Nat} (hg : Gl X "enumerate") (hm : X.mg "enumerate" = none) (ha : PA X [e] ta) (hs : starEach [e] X.env = [(false, eval e X.env)] := by rfl) :
    PI X (.Tuple elts kk tpos) (.Call (.Name "enumerate" p) [e] [] pos) (iEnT X.K ta) := by
  refine ⟨fun pins s σ H R I h => Call_ (ld_blt I hg hm boot_enumerate (PyProof.Rows.callWith_type1 (thn (ha.run pos pins s σ H _ I h) fun us s1 ⟨vs, H1, I1, r1, a, xs, ex, hq, q⟩ => ?_) hs rfl))⟩
  subst ex
  cases r1 with
  | cons r rr =>
    cases rr
    cases r
    obtain ⟨its, rv, p', hz⟩ := I1.tuple hq
    refine enum_made (begins_tuple a its.toArray) p' fun h' he hit hk => wpAny_pyIter_enum he ?_
    have I2 : Inv X pins σ H1 { s1 with heap := h' } := I1.kept (t' := s1.toks) hk
    refine ⟨s1.heap.objs.size + 1, [s1.heap.objs.size + 1, s1.heap.objs.size], _, _, H1, rfl, I2, turn_enumT a (s1.heap.objs.size + 1) s1.heap.objs.size, ⟨⟨.none, he⟩, ⟨_, hit, rfl, rfl⟩, Nat.succ_ne_self _⟩, fun b hb => ?_, q⟩
    have lb : s1.heap.objs.size ≤ b := by
      have hb' : b = s1.heap.objs.size + 1 ∨ b = s1.heap.objs.size := by simpa using hb
      rcases hb' with rfl | rfl
      · exact Nat.le_succ _
      · exact Nat.le_refl _
    exact I1.fpOk lb (I1.hok.fresh lb)
/-- enumerate of a list or a tuple -/
theorem pi_enumQ {X : Cx} {e : Expr} {ta : TA} {p pos tpos : Pos} {elts : List Expr} {kk : Nat} (hg : Gl X "enumerate") (hm : X.mg "enumerate" = none) (ha : PA X [e] ta) (hs : starEach [e] X.env = [(false, eval e X.env)] := by rfl) :
    PI X (.Tuple elts kk tpos) (.Call (.Name "enumerate" p) [e] [] pos) (fun σ H R => iEnum X.K ta σ H R ∨ iEnT X.K ta σ H R) := PI.or (pi_enum hg hm ha hs) (pi_enumT hg hm ha hs)
end Hn

/-! Own3 -/
namespace Hn
open PySem PySem.Spec L2
open PyProof.Rows hiding St
theorem fnIn_of {K : PySem.W.Frag} {x qual : Str} {st : Stmt} {f : Addr} {fd : FuncData} (F : Fun K x qual st f fd) : PySem.W.fnIn K f = true := by
  obtain ⟨oc, od, kV, doc, pm, an, cdv, ct, osl, rfl, lk, hcd⟩ := F.ex
  unfold PySem.W.fnIn
  rw [lk]
/-- o[i] by an own __getitem__ -/
def tOwnIx (C : Addr) (sp : Sp) (E : XK) (to ti : TE) : TE := fun σ H Q => to σ H fun x H1 => ti σ H1 fun y H2 => ∃ a dx fs, x = .ref a ∧ H2 a = some (.ins C dx fs) ∧ sp [.ref a, y] H2 Q E
theorem pe_own {X : Cx} {CX : CXT} {k : Nat} {C f : Addr} {fd : FuncData} {ps : List Str} {sp : Sp} {E : XK} {o i : Expr} {pos : Pos} {to ti : TE} (ho : PE X o to) (hi : PE X i ti) (hm : Meth X.K C "__getitem__" f) (hf : PySem.W.fnIn X.K f = true)
    (F : FnOk X.prog X.w X.K X.mg X.base CX k f fd ps sp) (hr : Room (k + 1) X.A) (hb : Binds X.K fd ps []) (hx : Passes CX X.nox E)
    (hsl : ∀ (x : Addr) (v : Value), subscripted i true (.ref x) v = runValue (.builtin "lifetime.subscript" ⟨[.ref x, v], []⟩) := by intro _ _; with_unfolding_all rfl) :
    PE X (.Subscript o i pos) (tOwnIx C sp E to ti) := by
  refine ⟨fun pins s σ H Q I h => Subscript_ (thn (ho.run pins s σ H _ I h) fun u s1 ⟨x, H1, I1, rx, q1⟩ => thn (hi.run pins s1 σ H1 _ I1 q1) fun v s2 ⟨y, H2, I2, ry, a, dx, fs, ex, ea, q⟩ => ?_)⟩
  subst ex
  obtain rfl : u = Value.ref a := rx
  obtain ⟨mA, J, _⟩ := ins_get I2.hok ea
  obtain ⟨od, J, _⟩ := J.look
  obtain ⟨m, hF⟩ := I2.fr
  have hl : ([V.ref a, y] : List V).length = ps.length := F.len _ _ _ _ q
  have r2 : Vals [V.ref a, y] [Value.ref a, v] := .cons rfl (.cons ry .nil)
  refine PySem.W.sub_K hF I2.ok.mod.kin J hm.at_ hf hm.fn (wpAny_call (codeAny_mono (F.run X.A.in1 X.stack s2 H2 ⟨[.ref a, v], []⟩ [.ref a, v] [.ref a, y] Q E hr.in1 I2.env0.in1 (by
    have z := hb s2 [.ref a, v] I2.kIn (by simpa using hl)
    simpa using z) r2 q) fun r s' hq => ?_)) (hsl a v)
  cases r with
  | error er => exact False.elim (hx pins σ H2 s2 er s' (I2.wish _) hq)
  | ok fl =>
    cases fl with
    | ret u => exact I2.after hq
    | next => exact False.elim hq
    | brk => exact False.elim hq
    | cont => exact False.elim hq
end Hn

/-! KRules -/
/-! the layer's rules with the written part named: for use within comprehensions -/
namespace Hn
open PySem L2
section
variable {X : Cx} {K : PySem.W.Frag}
def rLenK (K : PySem.W.Frag) : List V → Hp → VK → Prop := fun xs H Q => ∃ p ys, xs = [V.ref p] ∧ (SqL K H p ys ∨ SqT K H p ys) ∧ Q (.int ys.length) H
theorem K_len (h : X.K = K) : CallR X (.builtin "len") (rLenK K) := by subst h; exact call_len_seq
theorem K_ixL (h : X.K = K) : IxR X (rIxL K) := by subst h; exact ix_list
theorem K_ixT (h : X.K = K) : IxR X (rIxT K) := by subst h; exact ix_tup
def rIxQ (K : PySem.W.Frag) : R2 := fun x y H Q => ∃ p xs i v, x = .ref p ∧ y = .int i ∧ (SqL K H p xs ∨ SqT K H p xs) ∧ atI xs i = some v ∧ Q v H
theorem K_ixQ (h : X.K = K) : IxR X (rIxQ K) := by
  subst h
  intro value slice pins s σ H x y v u Q I rx ry ⟨p, xs, i, z, h1, h2, h3, h4, q⟩ hs
  rcases h3 with h3 | h3
  · exact ix_list value slice pins s σ H x y v u Q I rx ry ⟨p, xs, i, z, h1, h2, h3, h4, q⟩ hs
  · exact ix_tup value slice pins s σ H x y v u Q I rx ry ⟨p, xs, i, z, h1, h2, h3, h4, q⟩ hs
def rListK (K : PySem.W.Frag) : List V → Hp → VK → Prop := fun xs H Q => ∃ p ys, xs = [V.ref p] ∧ (SqL K H p ys ∨ SqT K H p ys) ∧ ∀ l, H l = none → Q (.ref l) (upd H l (.lst ys))
theorem K_list (h : X.K = K) : CallR X (.type "list") (rListK K) := by subst h; exact call_list_of
def rTupK (K : PySem.W.Frag) : List V → Hp → VK → Prop := fun xs H Q => ∃ p ys, xs = [V.ref p] ∧ ((SqL K H p ys ∧ ∀ l, H l = none → Q (.ref l) (upd H l (.tup ys))) ∨ (SqT K H p ys ∧ Q (.ref p) H))
theorem K_tuple (h : X.K = K) : CallR X (.type "tuple") (rTupK K) := by subst h; exact call_tuple_of
theorem K_sum (hc : X.calm = true) (h : X.K = K) : CallR X (.builtin "sum") (rSum K) := by subst h; exact cr_sum hc
theorem K_min (hc : X.calm = true) (h : X.K = K) : CallR X (.builtin "min") (rMin K) := by subst h; exact cr_min hc
theorem K_max (hc : X.calm = true) (h : X.K = K) : CallR X (.builtin "max") (rMax K) := by subst h; exact cr_max hc
theorem K_all (hc : X.calm = true) (h : X.K = K) : CallR X (.builtin "all") (rAll K) := by subst h; exact cr_all hc
theorem K_any (hc : X.calm = true) (h : X.K = K) : CallR X (.builtin "any") (rAny K) := by subst h; exact cr_any hc
theorem K_sorted (h : X.K = K) : CallR X (.builtin "sorted") (rSorted K) := by subst h; exact cr_sorted
theorem K_isi (h : X.K = K) : CallR X (.builtin "isinstance") (rIsi K) := by subst h; exact call_isi
theorem K_isiT (h : X.K = K) : CallR X (.builtin "isinstance") (rIsiT K) := by subst h; exact call_isiT
theorem K_eqD (hu : X.A.units + 64 < cLine) (h : X.K = K) : OpR X (compareOp .Eq) (rEqD K) := by subst h; exact op_eqD hu
theorem K_neD (hu : X.A.units + 64 < cLine) (h : X.K = K) : OpR X (compareOp .NotEq) (rNeD K) := by subst h; exact op_neD hu
theorem K_in (h : X.K = K) : OpR X (compareOp .In) (rIn K false) := by subst h; exact op_in_seq
theorem K_notIn (h : X.K = K) : OpR X (compareOp .NotIn) (rIn K true) := by subst h; exact op_notIn_seq
theorem K_catT (h : X.K = K) : OpR X (binaryOp .Add) (rCatT K) := by subst h; exact op_catT
theorem K_slL (h : X.K = K) : SlR X (rSlL K) := by subst h; exact sl_list
theorem K_slT (h : X.K = K) : SlR X (rSlA K) := by subst h; exact sl_tupA
theorem K_revL {e : Expr} {te : TE} {k : Nat} {p1 p2 p3 pos : Pos} (h : X.K = K) (he : PE X e te) : PE X (.Subscript e (.Slice none none (some (.UnaryOp .USub (.Constant (.int 1) k p1) p2)) p3) pos) (tRevL K te) := by subst h; exact pe_revL he
theorem K_fld {e : Expr} {f : Str} {pos : Pos} {ta : TE} (h : X.K = K) (ha : PE X e ta) (hb : attributeBase e f X.env (eval e X.env) = eval e X.env) : PE X (.Attribute e f pos) (tFld K ta f) := by subst h; exact pe_fld ha hb
theorem K_pil {tg l : Expr} {tl : TE} (h : X.K = K) (hl : PE X l tl) : PI X tg l (iList K tl) := by subst h; exact pi_list hl
theorem K_pit {tg l : Expr} {tl : TE} (h : X.K = K) (hl : PE X l tl) : PI X tg l (iTup K tl) := by subst h; exact pi_tup hl
theorem K_piq {tg l : Expr} {tl : TE} (h : X.K = K) (hl : PE X l tl) : PI X tg l (fun σ H R => iList K tl σ H R ∨ iTup K tl σ H R) := by subst h; exact pi_seq hl
theorem K_get (h : X.K = K) : PGet X (rIxL K) := by subst h; exact get_list
theorem K_count (h : X.K = K) : MtR X "list.count" (rCntI K) := by subst h; exact mt_lcount
theorem K_index (h : X.K = K) : MtR X "list.index" (rIndex K) := by subst h; exact mt_index
end
end Hn

/-! Hp -/
/-! words for heaps -/
namespace Hn
open PySem L2
/-- the ints ns, as V's -/
abbrev iv (ns : List Int) : List V := ns.map V.int
theorem iv_len (ns : List Int) : (iv ns).length = ns.length := List.length_map ..
theorem iv_get {ns : List Int} {i : Nat} (h : i < ns.length) : (iv ns)[i]? = some (.int ns[i]) := by
  unfold iv
  rw [List.getElem?_map, List.getElem?_eq_getElem h]
  rfl
/-- at a: a list or a tuple of the ints ns -/
def Ints (K : PySem.W.Frag) (H : Hp) (a : Addr) (ns : List Int) : Prop := SqL K H a (iv ns) ∨ SqT K H a (iv ns)
/-- all that was tracked is as it was, but what stands at b -/
def But (b : Addr) (H H' : Hp) : Prop := ∀ c o, c ≠ b → H c = some o → H' c = some o
theorem But.refl (b : Addr) (H : Hp) : But b H H := fun _ _ _ h => h
theorem But.trans {b : Addr} {H H1 H2 : Hp} (x : But b H H1) (y : But b H1 H2) : But b H H2 := fun c o n h => y c o n (x c o n h)
theorem But.of {b : Addr} {H H1 : Hp} (x : Same H H1) : But b H H1 := fun c o _ h => x c o h
theorem But.upd {b : Addr} {H H1 : Hp} {o : HO} (x : But b H H1) : But b H (upd H1 b o) := fun c u n h => by
  rw [upd_ne n]
  exact x c u n h
theorem same_new {H : Hp} {p : Addr} {o : HO} (h : H p = none) : Same H (upd H p o) := fun b x e => by
  rw [upd_ne (ne_of_none e h)]
  exact e
theorem But.new {b : Addr} {H H1 : Hp} {p : Addr} {o : HO} (x : But b H H1) (h : H1 p = none) : But b H (L2.upd H1 p o) := x.trans (But.of (same_new h))
theorem But.seq {K : PySem.W.Frag} {b : Addr} {H H' : Hp} {a : Addr} {xs : List V} (e : But b H H') (n : a ≠ b) (h : SqL K H a xs) : SqL K H' a xs := by
  rcases h with (h | ⟨o, h⟩) | h
  · exact .inl (.inl (e _ _ n h))
  · exact .inl (.inr ⟨o, e _ _ n h⟩)
  · exact .inr h
theorem Same.set {K : PySem.W.Frag} {H H' : Hp} {a : Addr} {xs : List V} (e : Same H H') (h : SqT K H a xs) : SqT K H' a xs := by
  rcases h with (h | ⟨o, h⟩) | h
  · exact .inl (.inl (e _ _ h))
  · exact .inl (.inr ⟨o, e _ _ h⟩)
  · exact .inr h
theorem But.set {K : PySem.W.Frag} {b : Addr} {H H' : Hp} {a : Addr} {xs : List V} (e : But b H H') (n : a ≠ b) (h : SqT K H a xs) : SqT K H' a xs := by
  rcases h with (h | ⟨o, h⟩) | h
  · exact .inl (.inl (e _ _ n h))
  · exact .inl (.inr ⟨o, e _ _ n h⟩)
  · exact .inr h
theorem Ints.same {K : PySem.W.Frag} {H H' : Hp} {a : Addr} {ns : List Int} (h : Ints K H a ns) (e : Same H H') : Ints K H' a ns := h.elim (fun h => .inl (e.seq h)) fun h => .inr (Same.set e h)
theorem V_lst_inj {xs ys : List V} (h : some (HO.lst xs) = some (HO.lst ys)) : xs = ys := HO.lst.inj (Option.some.inj h)
/-- THE BAG at b: three numbers, and at c the list of cells cs -/
def BagAt (H : Hp) (b c : Addr) (cs : List Int) : Prop := ∃ g m i : Int, H b = some (.lst [.int g, .int m, .int i, .ref c]) ∧ H c = some (.lst (iv cs)) ∧ 0 ≤ g ∧ 0 ≤ m ∧ m < 2147483647 ∧ 0 ≤ i ∧ ∀ x ∈ cs, 0 ≤ x
def Bag (H : Hp) (b : Addr) : Prop := ∃ c cs, BagAt H b c cs
theorem BagAt.same {H H' : Hp} {b c : Addr} {cs : List Int} (x : BagAt H b c cs) (e : Same H H') : BagAt H' b c cs := by
  obtain ⟨g, m, i, h1, h2, r⟩ := x
  exact ⟨g, m, i, e _ _ h1, e _ _ h2, r⟩
theorem Bag.same {H H' : Hp} {b : Addr} (x : Bag H b) (e : Same H H') : Bag H' b := by
  obtain ⟨c, cs, x⟩ := x
  exact ⟨c, cs, x.same e⟩
theorem Bag.lst {H : Hp} {b : Addr} (x : Bag H b) : ∃ xs, H b = some (.lst xs) := by
  obtain ⟨c, cs, g, m, i, h1, _⟩ := x
  exact ⟨_, h1⟩
/-- ANOTHER STATE, behind draws from the bag at b (its cells stay) -/
structure Drew (b : Addr) (H H' : Hp) : Prop where
  but : But b H H'
  keeps : ∀ c cs, BagAt H b c cs → BagAt H' b c cs
  pre : Bag H b
theorem Drew.bag {b : Addr} {H H' : Hp} (x : Drew b H H') : Bag H' b := by
  obtain ⟨c, cs, y⟩ := x.pre
  exact ⟨c, cs, x.keeps c cs y⟩
theorem Drew.trans {b : Addr} {H H1 H2 : Hp} (x : Drew b H H1) (y : Drew b H1 H2) : Drew b H H2 := ⟨x.but.trans y.but, fun c cs h => y.keeps c cs (x.keeps c cs h), x.pre⟩
theorem Drew.same {b : Addr} {H H1 H2 : Hp} (x : Drew b H H1) (y : Same H1 H2) : Drew b H H2 := ⟨x.but.trans (But.of y), fun c cs h => (x.keeps c cs h).same y, x.pre⟩
theorem Drew.of {b : Addr} {H H1 : Hp} (x : Bag H b) (y : Same H H1) : Drew b H H1 := ⟨But.of y, fun c cs h => h.same y, x⟩
theorem Drew.refl {b : Addr} {H : Hp} (x : Bag H b) : Drew b H H := Drew.of x (Same.refl H)
theorem Drew.free {b : Addr} {H H' : Hp} (x : Drew b H H') {l : Addr} (h : H' l = none) : H l = none := by
  by_cases e : l = b
  · obtain ⟨xs, q⟩ := x.bag.lst
    rw [e, q] at h
    cases h
  · cases q : H l with
    | none => rfl
    | some o =>
      rw [x.but l o e q] at h
      cases h
theorem Bag.ne {H : Hp} {b l : Addr} (x : Bag H b) (h : H l = none) : l ≠ b := by
  obtain ⟨xs, q⟩ := x.lst
  exact (ne_of_none q h).symm
/-- something of one's own is laid or written -/
theorem Drew.put {b : Addr} {H H' : Hp} (x : Drew b H H') {l : Addr} (nl : H l = none) {o : HO} : Drew b H (upd H' l o) := by
  refine ⟨fun c u n e => ?_, fun c cs h => ?_, x.pre⟩
  · rw [upd_ne (ne_of_none e nl)]
    exact x.but c u n e
  · obtain ⟨g, m, i, h1, h2, r⟩ := id h
    obtain ⟨g', m', i', k1, k2, r'⟩ := x.keeps c cs h
    exact ⟨g', m', i', by rw [upd_ne (ne_of_none h1 nl)]; exact k1, by rw [upd_ne (ne_of_none h2 nl)]; exact k2, r'⟩
theorem Drew.new {b : Addr} {H H' : Hp} (x : Drew b H H') {l : Addr} (nl : H' l = none) {o : HO} : Drew b H (upd H' l o) := x.put (x.free nl)
/-- something of one's own was laid at L and is written later -/
theorem Drew.past {b L : Addr} {H2 H3 H5 H6 : Hp} (d : Drew b H2 H3) (nL : H3 L = none) (s : Same H3 H5) (bt : But L H5 H6) : Drew b H2 H6 := by
  refine ⟨fun c o n e => ?_, fun c cs h => ?_, d.pre⟩
  · have e3 := d.but c o n e
    exact bt c o (ne_of_none e3 nL) (s _ _ e3)
  · obtain ⟨g, m, i, k1, k2, r⟩ := d.keeps c cs h
    exact ⟨g, m, i, bt _ _ (ne_of_none k1 nL) (s _ _ k1), bt _ _ (ne_of_none k2 nL) (s _ _ k2), r⟩
/-- THE CLOCK of the stays ns at p -/
structure ClkAt (K : PySem.W.Frag) (C : Addr) (H : Hp) (p : Addr) (ns : List Int) : Prop where
  ok : Clk.Valid ns
  ex : ∃ dx t : Addr, H p = some (.ins C dx [("_stays", .ref t)]) ∧ SqT K H t (iv ns)
theorem ClkAt.same {K : PySem.W.Frag} {C : Addr} {H H' : Hp} {p : Addr} {ns : List Int} (x : ClkAt K C H p ns) (e : Same H H') : ClkAt K C H' p ns := by
  obtain ⟨dx, t, h1, h2⟩ := x.ex
  exact ⟨x.ok, dx, t, e _ _ h1, Same.set e h2⟩
theorem lst_ne_tup {xs ys : List V} : HO.lst xs ≠ HO.tup ys := fun h => nomatch h
theorem lst_ne_frz {xs : List V} {o : Obj} {u : HO} : HO.lst xs ≠ HO.frz o u := fun h => nomatch h
theorem lst_ne_ins {xs : List V} {C d : Addr} {fs : List (Str × V)} : HO.lst xs ≠ HO.ins C d fs := fun h => nomatch h
/-- the bag is no clock and no tuple -/
theorem ClkAt.but {K : PySem.W.Frag} {C b : Addr} {H H' : Hp} {p : Addr} {ns : List Int} (x : ClkAt K C H p ns) (g : ∃ xs, H b = some (.lst xs)) (e : But b H H') : ClkAt K C H' p ns := by
  obtain ⟨dx, t, h1, h2⟩ := x.ex
  obtain ⟨xs, hb⟩ := g
  refine ⟨x.ok, dx, t, e _ _ (ne_of h1 hb fun z => nomatch z) h1, ?_⟩
  rcases h2 with (h | ⟨o, h⟩) | h
  · exact .inl (.inl (e _ _ (ne_of h hb fun z => nomatch z) h))
  · exact .inl (.inr ⟨o, e _ _ (ne_of h hb fun z => nomatch z) h⟩)
  · exact .inr h
theorem ClkAt.drew {K : PySem.W.Frag} {C b : Addr} {H H' : Hp} {p : Addr} {ns : List Int} (x : ClkAt K C H p ns) (g : Bag H b) (e : Drew b H H') : ClkAt K C H' p ns := x.but g.lst e.but
end Hn
namespace Hn
open PySem L2
theorem Ints.ty {K : PySem.W.Frag} {H : Hp} {a : Addr} {ns : List Int} (h : Ints K H a ns) : (TyX K H (.ref a) (.type "list") ∨ TyX K H (.ref a) (.type "tuple")) := by
  rcases h with ((h | ⟨o, h⟩) | ⟨o, its, n, h1, h2, _⟩) | ((h | ⟨o, h⟩) | ⟨o, its, n, h1, h2, _⟩)
  · exact .inl (.base (.lst h))
  · exact .inl (.base (.frz h))
  · exact .inl (.kList h1 h2)
  · exact .inr (.base (.tup h))
  · exact .inr (.fTuple h)
  · exact .inr (.kTuple h1 h2)
theorem seq_ty {K : PySem.W.Frag} {H : Hp} {a : Addr} {xs : List V} (h : SqL K H a xs ∨ SqT K H a xs) : (TyX K H (.ref a) (.type "list") ∨ TyX K H (.ref a) (.type "tuple")) := by
  rcases h with ((h | ⟨o, h⟩) | ⟨o, its, n, h1, h2, _⟩) | ((h | ⟨o, h⟩) | ⟨o, its, n, h1, h2, _⟩)
  · exact .inl (.base (.lst h))
  · exact .inl (.base (.frz h))
  · exact .inl (.kList h1 h2)
  · exact .inr (.base (.tup h))
  · exact .inr (.fTuple h)
  · exact .inr (.kTuple h1 h2)
theorem kit_seq {K : PySem.W.Frag} {H : Hp} {a : Addr} {xs : List V} (h : SqL K H a xs ∨ SqT K H a xs) : ∃ t, TyX K H (.ref a) t ∧ PySem.W.kitAny K t [.type "list", .type "tuple"] = some true := by
  rcases seq_ty h with h | h
  · exact ⟨_, h, kitAny_cons (b := true) (kit_ty (by decide +kernel)) (fun z => nomatch z) fun _ => rfl⟩
  · exact ⟨_, h, kitAny_cons (b := false) (kit_ty (by decide +kernel)) (fun _ => kitAny_cons (b := true) (kit_ty (by decide +kernel)) (fun z => nomatch z) fun _ => rfl) fun z => nomatch z⟩
theorem kit_lt {K : PySem.W.Frag} {H : Hp} {a : Addr} {ns : List Int} (h : Ints K H a ns) : ∃ t, TyX K H (.ref a) t ∧ PySem.W.kitAny K t [.type "list", .type "tuple"] = some true := by
  rcases h.ty with h | h
  · exact ⟨_, h, kitAny_cons (b := true) (kit_ty (by decide +kernel)) (fun z => nomatch z) fun _ => rfl⟩
  · exact ⟨_, h, kitAny_cons (b := false) (kit_ty (by decide +kernel)) (fun _ => kitAny_cons (b := true) (kit_ty (by decide +kernel)) (fun z => nomatch z) fun _ => rfl) fun z => nomatch z⟩
theorem not_not_true {A B : Prop} (h : B) : if (!true) = true then A else B := iteF h
theorem dec_t {c A B : Prop} [Decidable c] (hc : c) (h : A) : if decide c = true then A else B := by
  rw [decide_eq_true hc]
  exact iteT h
theorem dec_f {c A B : Prop} [Decidable c] (hc : ¬ c) (h : B) : if decide c = true then A else B := by
  rw [decide_eq_false hc]
  exact iteF h
theorem small_line {n : Nat} (h : n ≤ 10000) : n < sizeLine := Nat.lt_of_le_of_lt h (by decide)
theorem small_line' {n : Nat} (h : n ≤ 10000) : n ≤ sizeLine := Nat.le_of_lt (small_line h)
/-- bools as V's -/
abbrev bv (bs : List Bool) : List V := bs.map V.bl
end Hn
namespace Hn
open PySem L2
theorem take_next {α : Type} {l : List α} {i : Nat} (h : i < l.length) : l.take (i + 1) = l.take i ++ [l[i]] := by
  rw [List.take_add_one, List.getElem?_eq_getElem h]
  rfl
/-- what a comprehension's reading asks -/
def LcG (J : It) (g : TG) (tt : TT) (te : TE) (vs : List Nat) (σ : L2.St) (H1 : Hp) (D : Addr) (Qd : Hp → Prop) : Prop :=
  ∃ W : Nat → Nat → Hp → Prop, (∃ m, W 0 m (upd H1 D (.lst []))) ∧ ∀ i m H, W i m H →
    (J.stop i H ∧ Qd H) ∨ (J.go i H ∧ ∃ Nx : Hp → Prop, (∀ H', Nx H' → ∃ m', m' < m ∧ W (i + 1) m' H') ∧ ∀ x H', J.yld i H x H' → g x (wipe σ vs) H' fun σ2 H2 => wipe σ2 vs = wipe σ vs ∧ tt σ2 H2 fun b H3 =>
      if b = true then te σ2 H3 fun y H4 => ∃ acc, H4 D = some (.lst acc) ∧ acc.length < sizeLine ∧ Nx (upd H4 D (.lst (acc ++ [y]))) else Nx H3)
theorem wipe_one (σ : L2.St) (j : Nat) (x : V) : wipe ((wipe σ [j]).set j (some x)) [j] = wipe σ [j] := by
  show ((σ.set j none).set j (some x)).set j none = σ.set j none
  rw [List.set_set, List.set_set]
/-- an element that changes nothing: over n items x 0, x 1, .., the list of the f i -/
theorem same_turn {H1 H : Hp} {D : Addr} {f : Nat → V} {i : Nat} {H4 : Hp} (nD : H1 D = none) (sm : Same H1 H) (hD : H D = some (.lst ((List.range i).map f))) (h : Same H H4) :
    H4 D = some (.lst ((List.range i).map f)) ∧ Same H1 (upd H4 D (.lst ((List.range i).map f ++ [f i]))) ∧ upd H4 D (.lst ((List.range i).map f ++ [f i])) D = some (.lst ((List.range (i + 1)).map f)) := by
  refine ⟨h _ _ hD, fun b o e => ?_, ?_⟩
  · rw [upd_ne (ne_of_none e nD)]
    exact h _ _ (sm _ _ e)
  · rw [upd_same, List.range_succ, List.map_append]
    rfl
theorem lc_mapL {K : PySem.W.Frag} {a : Addr} {xs : List V} {te : TE} {j : Nat} {σ : L2.St} {H1 : Hp} {D : Addr} {Qd : Hp → Prop} (f : Nat → V) (hS : SqL K H1 a xs) (nD : H1 D = none) (hz : xs.length ≤ 10000)
    (he : ∀ i (hi : i < xs.length) (H : Hp) (R : VK), Same H1 H → (∀ H4, Same H H4 → R (f i) H4) → te ((wipe σ [j]).set j (some xs[i])) H R)
    (hd : ∀ H, Same H1 H → H D = some (.lst ((List.range xs.length).map f)) → Qd H) : LcG (Itl K a) (gName j) tYes te [j] σ H1 D Qd := by
  refine lc_list (K := K) (a := a) (xs := xs) (fun i H => Same H1 H ∧ H D = some (.lst ((List.range i).map f))) ⟨same_new nD, upd_same⟩ (fun i H _ h => h.1.seq hS) (fun i x H hx h => ?_) (fun H h => hd H h.1 h.2)
  have hi : i < xs.length := (List.getElem?_eq_some_iff.mp hx).1
  rw [List.getElem?_eq_getElem hi] at hx
  cases hx
  refine ⟨wipe_one _ _ _, he i hi H _ h.1 fun H4 s4 => ?_⟩
  obtain ⟨q1, q2, q3⟩ := same_turn (f := f) nD h.1 h.2 s4
  exact ⟨_, q1, by rw [List.length_map, List.length_range]; exact small_line (by omega), q2, q3⟩
theorem lc_mapT {K : PySem.W.Frag} {a : Addr} {xs : List V} {te : TE} {j : Nat} {σ : L2.St} {H1 : Hp} {D : Addr} {Qd : Hp → Prop} (f : Nat → V) (hS : SqT K H1 a xs) (nD : H1 D = none) (hz : xs.length ≤ 10000)
    (he : ∀ i (hi : i < xs.length) (H : Hp) (R : VK), Same H1 H → (∀ H4, Same H H4 → R (f i) H4) → te ((wipe σ [j]).set j (some xs[i])) H R)
    (hd : ∀ H, Same H1 H → H D = some (.lst ((List.range xs.length).map f)) → Qd H) : LcG (Itt K a) (gName j) tYes te [j] σ H1 D Qd := by
  refine lc_tup (K := K) (a := a) (xs := xs) (fun i H => Same H1 H ∧ H D = some (.lst ((List.range i).map f))) ⟨same_new nD, upd_same⟩ (fun i H _ h => Same.set h.1 hS) (fun i x H hx h => ?_) (fun H h => hd H h.1 h.2)
  have hi : i < xs.length := (List.getElem?_eq_some_iff.mp hx).1
  rw [List.getElem?_eq_getElem hi] at hx
  cases hx
  refine ⟨wipe_one _ _ _, he i hi H _ h.1 fun H4 s4 => ?_⟩
  obtain ⟨q1, q2, q3⟩ := same_turn (f := f) nD h.1 h.2 s4
  exact ⟨_, q1, by rw [List.length_map, List.length_range]; exact small_line (by omega), q2, q3⟩
theorem lc_mapR {lo : Int} {n : Nat} {te : TE} {j : Nat} {σ : L2.St} {H1 : Hp} {D : Addr} {Qd : Hp → Prop} (f : Nat → V) (nD : H1 D = none) (hz : n ≤ 10000)
    (he : ∀ i (_ : i < n) (H : Hp) (R : VK), Same H1 H → (∀ H4, Same H H4 → R (f i) H4) → te ((wipe σ [j]).set j (some (.int (lo + i)))) H R)
    (hd : ∀ H, Same H1 H → H D = some (.lst ((List.range n).map f)) → Qd H) : LcG (Itr lo n) (gName j) tYes te [j] σ H1 D Qd := by
  refine lc_range (lo := lo) (n := n) (fun i H => Same H1 H ∧ H D = some (.lst ((List.range i).map f))) ⟨same_new nD, upd_same⟩ (fun i H hi h => ?_) (fun H h => hd H h.1 h.2)
  refine ⟨wipe_one _ _ _, he i hi H _ h.1 fun H4 s4 => ?_⟩
  obtain ⟨q1, q2, q3⟩ := same_turn (f := f) nD h.1 h.2 s4
  exact ⟨_, q1, by rw [List.length_map, List.length_range]; exact small_line (by omega), q2, q3⟩
/-- the items by their places -/
theorem range_get {α β : Type} {l : List α} {f : Nat → β} {g : α → β} (h : ∀ i (hi : i < l.length), f i = g l[i]) : (List.range l.length).map f = l.map g := by
  apply List.ext_getElem?
  intro i
  by_cases hi : i < l.length
  · rw [List.getElem?_map, List.getElem?_range hi, List.getElem?_map, List.getElem?_eq_getElem hi]
    exact congrArg some (h i hi)
  · rw [List.getElem?_eq_none (by rw [List.length_map, List.length_range]; omega), List.getElem?_eq_none (by rw [List.length_map]; omega)]
end Hn
namespace Hn
open PySem L2
/-- what a loop's reading asks -/
def ForG (J : It) (g : TG) (tb : TS) (D : Ends) (σ : L2.St) (H1 : Hp) : Prop := ∃ W : Nat → Nat → L2.St → Hp → Prop, (∃ m, W 0 m σ H1) ∧ ∀ i m σ H, W i m σ H →
  (J.stop i H ∧ D.nx σ H) ∨ (J.go i H ∧ ∃ N : L2.St → Hp → Prop, (∀ σ' H', N σ' H' → ∃ m', m' < m ∧ W (i + 1) m' σ' H') ∧ ∀ x H', J.yld i H x H' → g x σ H' fun σ2 H2 => tb { D with nx := N, ct := N, bk := D.nx } σ2 H2)
theorem for_enumL {K : PySem.W.Frag} {a : Addr} {xs : List V} {g : TG} {tb : TS} {D : Ends} {σ : L2.St} {H : Hp} (Pv : Nat → L2.St → Hp → Prop) (h0 : Pv 0 σ H) (hl : ∀ i σ H, Pv i σ H → SqL K H a xs)
    (hs : ∀ i (hi : i < xs.length) σ H (T : Addr), Pv i σ H → H T = none → g (.ref T) σ (upd H T (.tup [.int (i : Nat), xs[i]])) fun σ2 H2 => tb { D with nx := Pv (i + 1), ct := Pv (i + 1), bk := D.nx } σ2 H2)
    (hd : ∀ σ H, Pv xs.length σ H → D.nx σ H) : ForG (Ite K a) g tb D σ H := by
  refine ⟨fun i m σ H => m = xs.length - i ∧ i ≤ xs.length ∧ Pv i σ H, ⟨_, rfl, Nat.zero_le _, h0⟩, ?_⟩
  rintro i m σ H ⟨rfl, hi, p⟩
  have q := hl i σ H p
  by_cases hlt : i < xs.length
  · refine .inr ⟨⟨xs, xs[i], q, List.getElem?_eq_getElem hlt⟩, Pv (i + 1), fun σ' H' p' => ⟨xs.length - (i + 1), by omega, rfl, hlt, p'⟩, ?_⟩
    rintro x H' ⟨T, y, rfl, nT, rfl, hy⟩
    have e := hy xs q
    rw [List.getElem?_eq_getElem hlt] at e
    cases e
    exact hs i hlt σ H T p nT
  · obtain rfl : i = xs.length := by omega
    exact .inl ⟨⟨xs, q, Nat.le_refl _⟩, hd σ H p⟩
theorem for_enumT {K : PySem.W.Frag} {a : Addr} {xs : List V} {g : TG} {tb : TS} {D : Ends} {σ : L2.St} {H : Hp} (Pv : Nat → L2.St → Hp → Prop) (h0 : Pv 0 σ H) (hl : ∀ i σ H, Pv i σ H → SqT K H a xs)
    (hs : ∀ i (hi : i < xs.length) σ H (T : Addr), Pv i σ H → H T = none → g (.ref T) σ (upd H T (.tup [.int (i : Nat), xs[i]])) fun σ2 H2 => tb { D with nx := Pv (i + 1), ct := Pv (i + 1), bk := D.nx } σ2 H2)
    (hd : ∀ σ H, Pv xs.length σ H → D.nx σ H) : ForG (ItE K a) g tb D σ H := by
  refine ⟨fun i m σ H => m = xs.length - i ∧ i ≤ xs.length ∧ Pv i σ H, ⟨_, rfl, Nat.zero_le _, h0⟩, ?_⟩
  rintro i m σ H ⟨rfl, hi, p⟩
  have q := hl i σ H p
  by_cases hlt : i < xs.length
  · refine .inr ⟨⟨xs, xs[i], q, List.getElem?_eq_getElem hlt⟩, Pv (i + 1), fun σ' H' p' => ⟨xs.length - (i + 1), by omega, rfl, hlt, p'⟩, ?_⟩
    rintro x H' ⟨T, y, rfl, nT, rfl, hy⟩
    have e := hy xs q
    rw [List.getElem?_eq_getElem hlt] at e
    cases e
    exact hs i hlt σ H T p nT
  · obtain rfl : i = xs.length := by omega
    exact .inl ⟨⟨xs, q, Nat.le_refl _⟩, hd σ H p⟩
/-- the item at an hour round about -/
theorem at_round {ns : List Int} (hp : 0 < ns.length) (x : Int) : atI (iv ns) (x % (ns.length : Int)) = some (.int (Clk.S ns x)) := by
  obtain ⟨h, e⟩ := Clk.S_at hp x
  have h1 := Int.emod_nonneg x (show (ns.length : Int) ≠ 0 by omega)
  rw [e]
  exact at_of (j := (x % (ns.length : Int)).toNat) (by omega) (iv_get h)
end Hn
namespace Hn
open PySem L2
/-- all that was tracked is as it was, but what stands at p -/
theorem ints_but {K : PySem.W.Frag} {H H' : Hp} {a : Addr} {ns : List Int} (h : Ints K H a ns) (e : Same H H') : Ints K H' a ns := h.same e
theorem Same.ins {H H' : Hp} {p C dx : Addr} {fs : List (Str × V)} (e : Same H H') (h : H p = some (.ins C dx fs)) : H' p = some (.ins C dx fs) := e _ _ h
/-- behind the making of a clock -/
theorem made_same {H H2 : Hp} {x dx C : Addr} (nx : H x = none) (nd : H dx = none) (k : ∀ b o, b ≠ x → upd (upd H dx (.own x)) x (.ins C dx []) b = some o → H2 b = some o) : Same H H2 := fun b o e =>
  k b o (ne_of_none e nx) (by rw [upd_ne (ne_of_none e nx), upd_ne (ne_of_none e nd)]; exact e)
theorem made_ints {K : PySem.W.Frag} {H : Hp} {x dx C a : Addr} {ns : List Int} (nx : H x = none) (nd : H dx = none) (h : Ints K H a ns) : Ints K (upd (upd H dx (.own x)) x (.ins C dx [])) a ns :=
  h.same fun b o e => by
    rw [upd_ne (ne_of_none e nx), upd_ne (ne_of_none e nd)]
    exact e
end Hn
namespace Hn
open PySem L2
theorem range_row (n : Nat) (f : Int → Int) : (List.range n).map (fun i : Nat => V.int (f (i : Int))) = iv (Clk.row n f) := by
  unfold iv Clk.row
  rw [List.map_map]
  rfl
/-- t[f:], t[:f] -/
theorem cut_lo {xs : List V} {f : Nat} (h : f ≤ xs.length) : cutV xs (some (f : Int)) none = xs.drop f := by
  unfold cutV
  rw [HT.sIx_nat, HT.sIx_none, Nat.min_eq_left h]
  exact List.take_of_length_le (by rw [List.length_drop]; exact Nat.le_refl _)
theorem cut_hi {xs : List V} {f : Nat} (h : f ≤ xs.length) : cutV xs none (some (f : Int)) = xs.take f := by
  unfold cutV
  rw [HT.sIx_none, HT.sIx_nat, Nat.min_eq_left h]
  rfl
end Hn
namespace Hn
open PySem L2
theorem at_hour {ns : List Int} {i : Int} (h0 : 0 ≤ i) (hn : i < ns.length) : atI (iv ns) i = some (.int (Clk.S ns i)) := by
  obtain ⟨j, rfl⟩ := Int.eq_ofNat_of_zero_le h0
  have hj : j < ns.length := by omega
  rw [Clk.S_get hj]
  exact atI_nat (iv_get hj)
end Hn
namespace Hn
open PySem L2
/-- elements that are drawn -/
theorem lc_drawR {b : Addr} {lo : Int} {n : Nat} {te : TE} {j : Nat} {σ : L2.St} {H1 : Hp} {D : Addr} {Qd : Hp → Prop} (Pr : Nat → Int → Prop) (hb : Bag H1 b) (nD : H1 D = none) (hz : n ≤ 10000)
    (he : ∀ i (_ : i < n) (H : Hp) (R : VK), Drew b H1 H → (∀ H4 v, Drew b H H4 → Pr i v → R (.int v) H4) → te ((wipe σ [j]).set j (some (.int (lo + i)))) H R)
    (hd : ∀ H vs, Drew b H1 H → H D = some (.lst (iv vs)) → vs.length = n → (∀ i (h : i < vs.length), Pr i vs[i]) → Qd H) : LcG (Itr lo n) (gName j) tYes te [j] σ H1 D Qd := by
  refine lc_range (lo := lo) (n := n) (fun i H => ∃ vs : List Int, Drew b H1 H ∧ H D = some (.lst (iv vs)) ∧ vs.length = i ∧ ∀ k (h : k < vs.length), Pr k vs[k])
    ⟨[], Drew.of hb (same_new nD), upd_same, rfl, fun k h => nomatch h⟩ (fun i H hi ⟨vs, d, hD, hl, hp⟩ => ?_) (fun H ⟨vs, d, hD, hl, hp⟩ => hd H vs d hD hl hp)
  refine ⟨wipe_one _ _ _, he i hi H _ d fun H4 v d4 pv => ?_⟩
  refine ⟨iv vs, d4.but _ _ (hb.ne nD) hD, by rw [iv_len]; exact small_line (by omega), vs ++ [v], (d.trans d4).put nD, ?_, by rw [List.length_append, hl]; rfl, fun k h => ?_⟩
  · rw [upd_same]
    unfold iv
    rw [List.map_append]
    rfl
  · rw [List.length_append] at h
    by_cases hk : k < vs.length
    · rw [List.getElem_append_left hk]
      exact hp k hk
    · have e : k = vs.length := by
        have : [v].length = 1 := rfl
        omega
      subst e
      rw [List.getElem_append_right (Nat.le_refl _)]
      simp only [Nat.sub_self, List.getElem_cons_zero]
      rw [hl]
      exact pv
end Hn

/-! Dat -/
/-! data compared: lists of ints, of bools, rows of these -/
namespace Hn
open PySem L2
abbrev dI (ns : List Int) : PyData := .list (ns.map PyData.int)
abbrev dB (bs : List Bool) : PyData := .list (bs.map PyData.bool)
theorem dpI {K : PySem.W.Frag} {H : Hp} : ∀ ns : List Int, DpAll K H (iv ns) (ns.map PyData.int)
  | [] => .nil
  | x :: r => .cons (.int x) (dpI r)
theorem dpB {K : PySem.W.Frag} {H : Hp} : ∀ bs : List Bool, DpAll K H (bv bs) (bs.map PyData.bool)
  | [] => .nil
  | x :: r => .cons (.bl x) (dpB r)
theorem Dp.ints {K : PySem.W.Frag} {H : Hp} {a : Addr} {ns : List Int} (h : SqL K H a (iv ns)) : Dp K H (.ref a) (dI ns) := .lst h (dpI ns)
theorem Dp.bools {K : PySem.W.Frag} {H : Hp} {a : Addr} {bs : List Bool} (h : SqL K H a (bv bs)) : Dp K H (.ref a) (dB bs) := .lst h (dpB bs)
theorem lay_all : ∀ {ds : List PyData}, (∀ d ∈ ds, d.canLay0 = true) → PyData.canLayAll0 ds = true
  | [], _ => rfl
  | d :: r, h => by
    show (d.canLay0 && PyData.canLayAll0 r) = true
    rw [h d (List.mem_cons_self ..), lay_all fun x hx => h x (List.mem_cons_of_mem _ hx)]
    rfl
theorem depth_all {n : Nat} : ∀ {ds : List PyData}, (∀ d ∈ ds, d.depth ≤ n) → PyData.depthAll ds ≤ n
  | [], _ => Nat.zero_le _
  | d :: r, h => by
    show max d.depth (PyData.depthAll r) ≤ n
    exact Nat.max_le.mpr ⟨h d (List.mem_cons_self ..), depth_all fun x hx => h x (List.mem_cons_of_mem _ hx)⟩
end Hn
namespace Hn
open PySem L2
theorem shaped_list {ds : List PyData} (h : ∀ d ∈ ds, d.canLay0 = true ∧ d.depth ≤ 10) : SeqAt.shaped (.list ds) = true := by
  unfold SeqAt.shaped
  rw [show (PyData.list ds).canLay0 = PyData.canLayAll0 ds from rfl, lay_all fun d hd => (h d hd).1, Bool.true_and]
  refine decide_eq_true ?_
  show PyData.depthAll ds + 1 ≤ 64
  have := depth_all (n := 10) fun d hd => (h d hd).2
  omega
theorem lay_I (ns : List Int) : (dI ns).canLay0 = true := lay_all fun d hd => by
  obtain ⟨i, _, rfl⟩ := List.mem_map.mp hd
  rfl
theorem lay_B (ns : List Bool) : (dB ns).canLay0 = true := lay_all fun d hd => by
  obtain ⟨i, _, rfl⟩ := List.mem_map.mp hd
  rfl
theorem dep_I (ns : List Int) : (dI ns).depth ≤ 1 := Nat.succ_le_succ (depth_all fun d hd => by
  obtain ⟨i, _, rfl⟩ := List.mem_map.mp hd
  exact Nat.le_refl 0)
theorem dep_B (ns : List Bool) : (dB ns).depth ≤ 1 := Nat.succ_le_succ (depth_all fun d hd => by
  obtain ⟨i, _, rfl⟩ := List.mem_map.mp hd
  exact Nat.le_refl 0)
theorem shaped_I (ns : List Int) : SeqAt.shaped (dI ns) = true := shaped_list fun d hd => by
  obtain ⟨i, _, rfl⟩ := List.mem_map.mp hd
  exact ⟨rfl, Nat.zero_le _⟩
theorem shaped_B (ns : List Bool) : SeqAt.shaped (dB ns) = true := shaped_list fun d hd => by
  obtain ⟨i, _, rfl⟩ := List.mem_map.mp hd
  exact ⟨rfl, Nat.zero_le _⟩
theorem eqv_same {d : PyData} (h : SeqAt.shaped d = true) : PyData.eqv d d = true := SeqAt.eqv_refl d (SeqAt.canLay_of_shaped h)
theorem eqvAll_I : ∀ a b : List Int, PyData.eqvAll (a.map PyData.int) (b.map PyData.int) = decide (a = b)
  | [], [] => rfl
  | [], y :: r => rfl
  | x :: r, [] => rfl
  | x :: r, y :: t => by
    show ((x == y) && PyData.eqvAll (r.map PyData.int) (t.map PyData.int)) = decide (x :: r = y :: t)
    rw [eqvAll_I r t]
    by_cases h : x = y
    · subst h
      simp
    · simp [h]
theorem eqv_I (a b : List Int) : PyData.eqv (dI a) (dI b) = decide (a = b) := eqvAll_I a b
theorem dpAll_of {K : PySem.W.Frag} {H : Hp} : ∀ {xs : List V} {ds : List PyData}, xs.length = ds.length → (∀ i (h1 : i < xs.length) (h2 : i < ds.length), Dp K H xs[i] ds[i]) → DpAll K H xs ds
  | [], [], _, _ => .nil
  | x :: r, d :: t, hl, h => .cons (h 0 (Nat.zero_lt_succ _) (Nat.zero_lt_succ _)) (dpAll_of (Nat.succ.inj hl) fun i h1 h2 => h (i + 1) (Nat.succ_lt_succ h1) (Nat.succ_lt_succ h2))
end Hn
namespace Hn
open PySem L2
theorem at_row {n : Nat} {f : Int → Int} {i : Int} (h0 : 0 ≤ i) (hn : i < n) : atI (iv (Clk.row n f)) i = some (.int (f i)) := by
  obtain ⟨j, rfl⟩ := Int.eq_ofNat_of_zero_le h0
  have hj : j < n := by omega
  refine atI_nat ?_
  unfold iv
  rw [List.getElem?_map, Clk.row_get hj]
  rfl
theorem at_width {ns : List Int} {i : Int} (h0 : 0 ≤ i) (hn : i < ns.length) : atI (iv (Clk.widths ns)) i = some (.int (Clk.wd ns i)) := at_row h0 hn
/-- l != l : not so -/
theorem ne_same {d : PyData} (h : SeqAt.shaped d = true) : (!PyData.eqv d d) = false := by
  rw [eqv_same h]
  rfl
end Hn
namespace Hn
open PySem L2
/-- elements that are new objects: over n turns, objects f 0, f 1, .. -/
theorem lc_newR {lo : Int} {n : Nat} {te : TE} {j : Nat} {σ : L2.St} {H1 : Hp} {D : Addr} {Qd : Hp → Prop} (f : Nat → HO) (nD : H1 D = none) (hz : n ≤ 10000)
    (he : ∀ i (_ : i < n) (H : Hp) (R : VK), Same H1 H → (∀ H4 p, Same H H4 → H p = none → H4 p = some (f i) → R (.ref p) H4) → te ((wipe σ [j]).set j (some (.int (lo + i)))) H R)
    (hd : ∀ H (as : List Addr), Same H1 H → H D = some (.lst (as.map V.ref)) → as.length = n → (∀ k (h : k < as.length), H as[k] = some (f k)) → Qd H) : LcG (Itr lo n) (gName j) tYes te [j] σ H1 D Qd := by
  refine lc_range (lo := lo) (n := n) (fun i H => ∃ as : List Addr, Same H1 H ∧ H D = some (.lst (as.map V.ref)) ∧ as.length = i ∧ ∀ k (h : k < as.length), as[k] ≠ D ∧ H as[k] = some (f k))
    ⟨[], same_new nD, upd_same, rfl, fun k h => nomatch h⟩ (fun i H hi ⟨as, sm, hD, hl, hp⟩ => ?_) (fun H ⟨as, sm, hD, hl, hp⟩ => hd H as sm hD hl fun k h => (hp k h).2)
  refine ⟨wipe_one _ _ _, he i hi H _ sm fun H4 p s4 np hp4 => ?_⟩
  have hD4 := s4 _ _ hD
  have npD : p ≠ D := (ne_of_none hD np).symm
  refine ⟨as.map V.ref, hD4, by rw [List.length_map]; exact small_line (by omega), as ++ [p], fun b o e => ?_, ?_, by rw [List.length_append, hl]; rfl, fun k h => ?_⟩
  · rw [upd_ne (ne_of_none e nD)]
    exact s4 _ _ (sm _ _ e)
  · rw [upd_same, List.map_append]
    rfl
  · rw [List.length_append] at h
    by_cases hk : k < as.length
    · rw [List.getElem_append_left hk]
      obtain ⟨q1, q2⟩ := hp k hk
      exact ⟨q1, by rw [upd_ne q1]; exact s4 _ _ q2⟩
    · have e : k = as.length := by
        have : [p].length = 1 := rfl
        omega
      subst e
      rw [List.getElem_append_right (Nat.le_refl _)]
      simp only [Nat.sub_self, List.getElem_cons_zero]
      rw [hl]
      exact ⟨npD, by rw [upd_ne npD]; exact hp4⟩
theorem inV_int (x : Int) (ns : List Int) : inV (.int x) (iv ns) = decide (x ∈ ns) := by
  induction ns with
  | nil => rfl
  | cons y r ih =>
    have e : inV (.int x) (iv (y :: r)) = (decide (y = x) || inV (.int x) (iv r)) := rfl
    rw [e, ih]
    by_cases h : y = x
    · subst h
      simp
    · have h2 : ¬ x = y := fun z => h z.symm
      simp [h, h2]
theorem flat_iv (ns : List Int) : (iv ns).all flatV = true := List.all_eq_true.mpr fun x hx => by
  obtain ⟨i, _, rfl⟩ := List.mem_map.mp hx
  rfl
end Hn
namespace Hn
open PySem L2
theorem at_refs {as : List Addr} {i : Nat} (h : i < as.length) : atI (as.map V.ref) (i : Int) = some (.ref as[i]) := atI_nat (by rw [List.getElem?_map, List.getElem?_eq_getElem h]; rfl)
/-- a table of truths -/
def dT (n : Nat) (f : Nat → Nat → Bool) : PyData := .list ((List.range n).map fun h => .list ((List.range n).map fun b => .bool (f h b)))
theorem shaped_T (n : Nat) (f : Nat → Nat → Bool) : SeqAt.shaped (dT n f) = true := shaped_list fun d hd => by
  obtain ⟨h, _, rfl⟩ := List.mem_map.mp hd
  refine ⟨lay_all fun d hd => ?_, ?_⟩
  · obtain ⟨b, _, rfl⟩ := List.mem_map.mp hd
    rfl
  · show PyData.depthAll _ + 1 ≤ 10
    have := depth_all (n := 0) (ds := (List.range n).map fun b => .bool (f h b)) fun d hd => by
      obtain ⟨b, _, rfl⟩ := List.mem_map.mp hd
      exact Nat.le_refl 0
    omega
theorem dp_T {K : PySem.W.Frag} {H : Hp} {D : Addr} {as : List Addr} {n : Nat} {f : Nat → Nat → Bool} (hD : H D = some (.lst (as.map V.ref))) (hl : as.length = n)
    (hk : ∀ k (h : k < as.length), H as[k] = some (.lst ((List.range n).map fun b => .bl (f k b)))) : Dp K H (.ref D) (dT n f) := by
  refine .lst (SqL.of hD) (dpAll_of (by rw [List.length_map, List.length_map, List.length_range]; exact hl) fun i h1 h2 => ?_)
  rw [List.length_map] at h1
  rw [List.getElem_map, List.getElem_map, List.getElem_range]
  refine .lst (SqL.of (hk i h1)) (dpAll_of (by rw [List.length_map, List.length_map]) fun b g1 g2 => ?_)
  rw [List.getElem_map, List.getElem_map]
  exact .bl _
theorem getD_iv {ns : List Int} {i : Nat} (h : i < (iv ns).length) : (iv ns)[i] = V.int (ns.getD i 0) := by
  have h' : i < ns.length := by rwa [iv_len] at h
  rw [List.getElem_map, List.getD_eq_getElem?_getD, List.getElem?_eq_getElem h']
  rfl
theorem map_iv (ns : List Int) (g : Int → Int) : (List.range (iv ns).length).map (fun i => V.int (g (ns.getD i 0))) = iv (ns.map g) := by
  rw [iv_len]
  unfold iv
  rw [List.map_map]
  refine range_get fun i hi => ?_
  rw [List.getD_eq_getElem?_getD, List.getElem?_eq_getElem hi]
  rfl
end Hn

namespace Hn
open PySem L2
def topS (i : Nat) : Stmt := PySem.Challenge.pw_hourneeds_k15_whole_served_and_serving.main.body.getD i (.Pass ⟨0, 0, 0, 0⟩)
abbrev s_lbag : Stmt := topS 22
abbrev s_ltake : Stmt := topS 23
abbrev s_lstays : Stmt := topS 25
abbrev s_is_row : Stmt := topS 12
abbrev s_is_integer : Stmt := topS 8
abbrev s_is_from_one : Stmt := topS 17
abbrev s_are_stays : Stmt := topS 18
abbrev s_check_nobody_overtaken : Stmt := topS 19
abbrev s_Clock_init : Stmt := inClass (topS 16) 0
abbrev s_lclock : Stmt := topS 26
abbrev s_lmixed : Stmt := topS 24
abbrev s_Clock_hours : Stmt := inClass (topS 16) 2
abbrev s_width : Stmt := topS 20
abbrev s_Clock_widths : Stmt := inClass (topS 16) 8
abbrev s_Clock_mirrored : Stmt := inClass (topS 16) 13
abbrev s_turned_row : Stmt := topS 14
abbrev s_Clock_turned : Stmt := inClass (topS 16) 12
abbrev s_lfar : Stmt := topS 27
abbrev s_Clock_stays : Stmt := inClass (topS 16) 7
abbrev s_is_count : Stmt := topS 9
abbrev s_is_hour : Stmt := topS 10
abbrev s_check_hour : Stmt := topS 13
abbrev s_Clock_served : Stmt := inClass (topS 16) 9
abbrev s_Clock_serving : Stmt := inClass (topS 16) 10
abbrev s_Clock_getitem : Stmt := inClass (topS 16) 5
abbrev s_lrows_right : Stmt := topS 28
abbrev s_law : Stmt := topS 29
/-- a def of the text: where it stands, its object, its name, how its arguments bind -/
structure DefAt (K : PySem.W.Frag) (mg : Str → Option Value) (x : Str) (st : Stmt) (ps : List Str) where
  f : Addr
  fd : FuncData
  F : Fun K x x st f fd
  m : mg x = some (.ref f)
  b : Binds K fd ps []
/-- a method of the class at C -/
structure MethAt (K : PySem.W.Frag) (C : Addr) (x qual : Str) (st : Stmt) (ps : List Str) where
  f : Addr
  fd : FuncData
  F : Fun K x qual st f fd
  b : Binds K fd ps []
structure ExcAt (K : PySem.W.Frag) (mg : Str → Option Value) (x : Str) where
  C : Addr
  mg : mg x = some (.ref C)
structure ClsAt (K : PySem.W.Frag) (mg : Str → Option Value) (x : Str) where
  C : Addr
  cl : Cls K C
  mg : mg x = some (.ref C)
structure Env (K : PySem.W.Frag) (mg : Str → Option Value) where
  C_Clock : ClsAt K mg "Clock"
  lbag : DefAt K mg "_law_bag" s_lbag ["_law_script"]
  ltake : DefAt K mg "_law_take" s_ltake ["_law_bag_here", "_law_upto"]
  lstays : DefAt K mg "_law_stays" s_lstays ["_law_bag_here", "_law_many"]
  is_row : DefAt K mg "is_row" s_is_row ["thing"]
  is_integer : DefAt K mg "is_integer" s_is_integer ["thing"]
  is_from_one : DefAt K mg "_is_from_one" s_is_from_one ["most", "thing"]
  are_stays : DefAt K mg "_are_stays" s_are_stays ["thing"]
  check_nobody_overtaken : DefAt K mg "_check_nobody_overtaken" s_check_nobody_overtaken ["stays"]
  Clock_init : MethAt K C_Clock.C "__init__" "Clock.__init__" s_Clock_init ["self", "stays"]
  mk_Clock : Mk K C_Clock.C Clock_init.f
  lclock : DefAt K mg "_law_clock" s_lclock ["_law_bag_here", "_law_stays_here"]
  lmixed : DefAt K mg "_law_mixed" s_lmixed ["_law_bag_here", "_law_things"]
  Clock_hours : MethAt K C_Clock.C "hours" "Clock.hours" s_Clock_hours ["self"]
  p_Clock_hours_p : Addr
  p_Clock_hours : PropOf K C_Clock.C "hours" p_Clock_hours_p Clock_hours.f
  width : DefAt K mg "_width" s_width ["stays", "hour"]
  Clock_widths : MethAt K C_Clock.C "widths" "Clock.widths" s_Clock_widths ["self"]
  m_Clock_widths : Meth K C_Clock.C "widths" Clock_widths.f
  Clock_mirrored : MethAt K C_Clock.C "mirrored" "Clock.mirrored" s_Clock_mirrored ["self"]
  m_Clock_mirrored : Meth K C_Clock.C "mirrored" Clock_mirrored.f
  turned_row : DefAt K mg "turned_row" s_turned_row ["row", "by"]
  Clock_turned : MethAt K C_Clock.C "turned" "Clock.turned" s_Clock_turned ["self", "by"]
  m_Clock_turned : Meth K C_Clock.C "turned" Clock_turned.f
  lfar : DefAt K mg "_law_far" s_lfar ["_law_bag_here"]
  Clock_stays : MethAt K C_Clock.C "stays" "Clock.stays" s_Clock_stays ["self"]
  m_Clock_stays : Meth K C_Clock.C "stays" Clock_stays.f
  is_count : DefAt K mg "is_count" s_is_count ["thing"]
  is_hour : DefAt K mg "is_hour" s_is_hour ["hours", "thing"]
  check_hour : DefAt K mg "check_hour" s_check_hour ["hours", "thing"]
  Clock_served : MethAt K C_Clock.C "served" "Clock.served" s_Clock_served ["self", "hour"]
  m_Clock_served : Meth K C_Clock.C "served" Clock_served.f
  Clock_serving : MethAt K C_Clock.C "serving" "Clock.serving" s_Clock_serving ["self", "hour"]
  m_Clock_serving : Meth K C_Clock.C "serving" Clock_serving.f
  Clock_getitem : MethAt K C_Clock.C "__getitem__" "Clock.__getitem__" s_Clock_getitem ["self", "at"]
  m_Clock_getitem : Meth K C_Clock.C "__getitem__" Clock_getitem.f
  lrows_right : DefAt K mg "_law_rows_right" s_lrows_right ["_law_clock_here", "_law_many"]
  law : DefAt K mg "law" s_law ["_law_script"]
  n_Clock__stays : NoAttr K C_Clock.C "_stays"
  t_MOST_HOURS : Tok
  c_MOST_HOURS : mg "MOST_HOURS" = some (.int 48 t_MOST_HOURS)
  n_len : mg "len" = none
  n_range : mg "range" = none
  n_abs : mg "abs" = none
  n_int : mg "int" = none
  n_bool : mg "bool" = none
  n_list : mg "list" = none
  n_tuple : mg "tuple" = none
  n_isinstance : mg "isinstance" = none
  n_all : mg "all" = none
  n_min : mg "min" = none
  n_sum : mg "sum" = none
  n_enumerate : mg "enumerate" = none
  n_iter : mg "iter" = none
theorem sc_lbag : FnScope ["_law_script", "_law_cell"] ["_law_script"] (defScope s_lbag) := ⟨rfl, rfl, rfl, by decide +kernel, rfl, by decide +kernel, by decide +kernel⟩
theorem sc_ltake : FnScope ["_law_bag_here", "_law_upto", "_law_early", "_law_second", "_law_cell", "_law_mixed_here", "_law_drawn"] ["_law_bag_here", "_law_upto"] (defScope s_ltake) := ⟨rfl, rfl, rfl, by decide +kernel, rfl, by decide +kernel, by decide +kernel⟩
theorem sc_lstays : FnScope ["_law_bag_here", "_law_many", "_law_most", "_law_drawn", "_law_hour", "_law_ahead"] ["_law_bag_here", "_law_many"] (defScope s_lstays) := ⟨rfl, rfl, rfl, by decide +kernel, rfl, by decide +kernel, by decide +kernel⟩
theorem sc_is_row : FnScope ["thing"] ["thing"] (defScope s_is_row) := ⟨rfl, rfl, rfl, by decide +kernel, rfl, by decide +kernel, by decide +kernel⟩
theorem sc_is_integer : FnScope ["thing"] ["thing"] (defScope s_is_integer) := ⟨rfl, rfl, rfl, by decide +kernel, rfl, by decide +kernel, by decide +kernel⟩
theorem sc_is_from_one : FnScope ["most", "thing"] ["most", "thing"] (defScope s_is_from_one) := ⟨rfl, rfl, rfl, by decide +kernel, rfl, by decide +kernel, by decide +kernel⟩
theorem sc_are_stays : FnScope ["thing", "item"] ["thing"] (defScope s_are_stays) := ⟨rfl, rfl, rfl, by decide +kernel, rfl, by decide +kernel, by decide +kernel⟩
theorem sc_check_nobody_overtaken : FnScope ["stays", "hour", "stay"] ["stays"] (defScope s_check_nobody_overtaken) := ⟨rfl, rfl, rfl, by decide +kernel, rfl, by decide +kernel, by decide +kernel⟩
theorem sc_Clock_init : FnScope ["self", "stays"] ["self", "stays"] (defScope s_Clock_init) := ⟨rfl, rfl, rfl, by decide +kernel, rfl, by decide +kernel, by decide +kernel⟩
theorem sc_lclock : FnScope ["_law_bag_here", "_law_stays_here", "_law_row", "_law_clock_here"] ["_law_bag_here", "_law_stays_here"] (defScope s_lclock) := ⟨rfl, rfl, rfl, by decide +kernel, rfl, by decide +kernel, by decide +kernel⟩
theorem sc_lmixed : FnScope ["_law_bag_here", "_law_things", "_law_found", "_law_thing"] ["_law_bag_here", "_law_things"] (defScope s_lmixed) := ⟨rfl, rfl, rfl, by decide +kernel, rfl, by decide +kernel, by decide +kernel⟩
theorem sc_Clock_hours : FnScope ["self"] ["self"] (defScope s_Clock_hours) := ⟨rfl, rfl, rfl, by decide +kernel, rfl, by decide +kernel, by decide +kernel⟩
theorem sc_width : FnScope ["stays", "hour", "width"] ["stays", "hour"] (defScope s_width) := ⟨rfl, rfl, rfl, by decide +kernel, rfl, by decide +kernel, by decide +kernel⟩
theorem sc_Clock_widths : FnScope ["self", "hour"] ["self"] (defScope s_Clock_widths) := ⟨rfl, rfl, rfl, by decide +kernel, rfl, by decide +kernel, by decide +kernel⟩
theorem sc_Clock_mirrored : FnScope ["self"] ["self"] (defScope s_Clock_mirrored) := ⟨rfl, rfl, rfl, by decide +kernel, rfl, by decide +kernel, by decide +kernel⟩
theorem sc_turned_row : FnScope ["row", "by", "first"] ["row", "by"] (defScope s_turned_row) := ⟨rfl, rfl, rfl, by decide +kernel, rfl, by decide +kernel, by decide +kernel⟩
theorem sc_Clock_turned : FnScope ["self", "by"] ["self", "by"] (defScope s_Clock_turned) := ⟨rfl, rfl, rfl, by decide +kernel, rfl, by decide +kernel, by decide +kernel⟩
theorem sc_lfar : FnScope ["_law_bag_here", "_law_great"] ["_law_bag_here"] (defScope s_lfar) := ⟨rfl, rfl, rfl, by decide +kernel, rfl, by decide +kernel, by decide +kernel⟩
theorem sc_Clock_stays : FnScope ["self"] ["self"] (defScope s_Clock_stays) := ⟨rfl, rfl, rfl, by decide +kernel, rfl, by decide +kernel, by decide +kernel⟩
theorem sc_is_count : FnScope ["thing"] ["thing"] (defScope s_is_count) := ⟨rfl, rfl, rfl, by decide +kernel, rfl, by decide +kernel, by decide +kernel⟩
theorem sc_is_hour : FnScope ["hours", "thing"] ["hours", "thing"] (defScope s_is_hour) := ⟨rfl, rfl, rfl, by decide +kernel, rfl, by decide +kernel, by decide +kernel⟩
theorem sc_check_hour : FnScope ["hours", "thing"] ["hours", "thing"] (defScope s_check_hour) := ⟨rfl, rfl, rfl, by decide +kernel, rfl, by decide +kernel, by decide +kernel⟩
theorem sc_Clock_served : FnScope ["self", "hour", "at"] ["self", "hour"] (defScope s_Clock_served) := ⟨rfl, rfl, rfl, by decide +kernel, rfl, by decide +kernel, by decide +kernel⟩
theorem sc_Clock_serving : FnScope ["self", "hour", "first", "at"] ["self", "hour"] (defScope s_Clock_serving) := ⟨rfl, rfl, rfl, by decide +kernel, rfl, by decide +kernel, by decide +kernel⟩
theorem sc_Clock_getitem : FnScope ["self", "at"] ["self", "at"] (defScope s_Clock_getitem) := ⟨rfl, rfl, rfl, by decide +kernel, rfl, by decide +kernel, by decide +kernel⟩
theorem sc_lrows_right : FnScope ["_law_clock_here", "_law_many", "_law_hour", "_law_later", "_law_hours_of", "_law_holders", "_law_k"] ["_law_clock_here", "_law_many"] (defScope s_lrows_right) := ⟨rfl, rfl, rfl, by decide +kernel, rfl, by decide +kernel, by decide +kernel⟩
theorem sc_law : FnScope ["_law_script", "_law_bag_here", "_law_turn", "_law_many", "_law_stays_here", "_law_clock_here", "_law_way", "_law_hours_of", "_law_holders", "_law_table", "_law_glass", "_law_hour", "_law_one", "_law_turned", "_law_begin"] ["_law_script"] (defScope s_law) := ⟨rfl, rfl, rfl, by decide +kernel, rfl, by decide +kernel, by decide +kernel⟩
end Hn

namespace Hn
open PySem L2
section
variable {P : Program} {w : World} {K : PySem.W.Frag} {mg : Str → Option Value} {base : Heap}

def spBag (K : PySem.W.Frag) : Sp := fun vs H Q _ => ∃ (a : Addr) (ns : List Int), vs = [.ref a] ∧ SqL K H a (iv ns) ∧ ns.length ≤ 63 ∧ ∀ b H', H b = none → Same H H' → Bag H' b → Q (.ref b) H'
theorem ok_lbag (T : Env K mg) : FnOk P w K mg base CX0 1 T.lbag.f T.lbag.fd ["_law_script"] (spBag K) := by
  refine T.lbag.F.ok sc_lbag (fun vs H Q E h => ?_) (fun cdv A outer s H vs Q E hr h => ?_)
  · obtain ⟨a, ns, rfl, _⟩ := h
    rfl
  · obtain ⟨a, ns, rfl, hS, hl, q⟩ := h
    refine ⟨_, (pss_one (ps_ret (pe_lst (pa_cons pe_int (pa_cons pe_int (pa_cons pe_int (pa_cons (pe_lc (own := [("_law_cell", 1)]) (g := gName 1) (tt := tYes) (by rfl) sc_lbag.nd  (K_pil (K := K) rfl (pe_slice (K_slL (K := K) rfl) (pv 0) po_none (po_some pe_int))) (blkOk_by (N := ["_law_script", "_law_cell"]) (sc := defScope s_lbag) (by decide +kernel)) (fun _ _ _ _ _ => pg_name (i := 1) sc_lbag.nd rfl (by first | exact Or.inl rfl | exact Or.inr rfl)) (fun _ _ _ _ _ => pts_nil) (fun _ _ _ _ _ => (pe_callB call_abs (by rfl) T.n_abs (by decide +kernel) (pa_cons (pv 1) pa_nil)))) pa_nil))))))), ?_⟩
    refine ⟨.ref a, rfl, 63, rfl, a, iv ns, rfl, hS, fun c nc => ?_⟩
    have ec : cutV (iv ns) none (some ((63 : Nat) : Int)) = iv ns := by
      unfold cutV
      rw [HT.sIx_none, HT.sIx_nat, iv_len]
      exact List.take_of_length_le (by rw [List.drop_zero, iv_len]; omega)
    have ec' : cutV (iv ns) none (some 63) = iv ns := ec
    rw [ec']
    have s1 : Same H (upd H c (.lst (iv ns))) := same_new nc
    refine ⟨c, rfl, ⟨_, SqL.of upd_same⟩, fun D nD => ?_⟩
    refine lc_mapL (K := K) (a := c) (xs := iv ns) (fun i => .int (if ns.getD i 0 < 0 then -(ns.getD i 0) else ns.getD i 0)) (SqL.of upd_same) nD (by rw [iv_len]; omega) (fun i hi H' R sm k => ?_) (fun H' sm hD => ?_)
    · rw [iv_len] at hi
      refine ⟨.int (ns.getD i 0), ?_, _, rfl, k _ (Same.refl _)⟩
      rw [List.getElem_map, List.getD_eq_getElem?_getD, List.getElem?_eq_getElem hi]
      rfl
    · refine ⟨by show 4 ≤ sizeLine; decide, fun b nb => ?_⟩
      have s2 : Same H (upd H' b (.lst [.int 0, .int 1234567891, .int 0, .ref D])) := (s1.trans sm).trans (same_new nb)
      refine q b _ ((s1.trans sm).free nb) s2 ⟨D, ns.map fun x => if x < 0 then -x else x, 0, 1234567891, 0, upd_same, ?_, by decide, by decide, by decide, by decide, fun x hx => ?_⟩
      · rw [upd_ne (ne_of_none hD nb), hD, iv_len]
        congr 2
        unfold iv
        rw [List.map_map]
        refine range_get fun i hi => ?_
        rw [List.getD_eq_getElem?_getD, List.getElem?_eq_getElem hi]
        rfl
      · obtain ⟨y, _, rfl⟩ := List.mem_map.mp hx
        by_cases h : y < 0
        · rw [if_pos h]
          omega
        · rw [if_neg h]
          omega

def spTake : Sp := fun vs H Q _ => ∃ (b : Addr) (u : Int), vs = [.ref b, .int u] ∧ Bag H b ∧ 1 ≤ u ∧ u < 1073741824 ∧ ∀ H' v, Drew b H H' → 0 ≤ v → v < u → Q (.int v) H'
/-- the bag as it stands within -/
def BagOf (H0 H : Hp) (b c : Addr) (cs : List Int) (g m i : Int) : Prop := H b = some (.lst [.int g, .int m, .int i, .ref c]) ∧ H c = some (.lst (iv cs)) ∧ But b H0 H
theorem BagOf.put {H0 H : Hp} {b c : Addr} {cs : List Int} {g m i g' m' i' : Int} (h : BagOf H0 H b c cs g m i) (n : c ≠ b) : BagOf H0 (upd H b (.lst [.int g', .int m', .int i', .ref c])) b c cs g' m' i' :=
  ⟨upd_same, by rw [upd_ne n]; exact h.2.1, h.2.2.upd⟩
theorem BagOf.drew {H0 H : Hp} {b c : Addr} {cs : List Int} {g m i : Int} (h : BagOf H0 H b c cs g m i) (h1 : 0 ≤ g) (h2 : 0 ≤ m) (h3 : m < 2147483647) (h4 : 0 ≤ i) (h5 : BagAt H0 b c cs) : Drew b H0 H := by
  refine ⟨h.2.2, fun c' cs' h' => ?_, ⟨c, cs, h5⟩⟩
  obtain ⟨g0, m0, i0, e1, e2, _⟩ := h5
  obtain ⟨g1, m1, i1, k1, k2, _, _, _, _, k3⟩ := h'
  rw [e1] at k1
  have z := V_lst_inj k1
  have zc : c = c' := by
    injection z with _ z
    injection z with _ z
    injection z with _ z
    injection z with z _
    exact V.ref.inj z
  subst zc
  rw [e2] at k2
  exact ⟨g, m, i, h.1, h.2.1.trans (congrArg (fun z => some (HO.lst z)) (V_lst_inj k2)), h1, h2, h3, h4, k3⟩
theorem at4 (x y z w : V) : atI [x, y, z, w] 0 = some x ∧ atI [x, y, z, w] 1 = some y ∧ atI [x, y, z, w] 2 = some z ∧ atI [x, y, z, w] 3 = some w := ⟨rfl, rfl, rfl, rfl⟩
theorem ok_ltake (T : Env K mg) : FnOk P w K mg base CX0 1 T.ltake.f T.ltake.fd ["_law_bag_here", "_law_upto"] spTake := by
  refine T.ltake.F.ok sc_ltake (fun vs H Q E h => ?_) (fun cdv A outer s H vs Q E hr h => ?_)
  · obtain ⟨b, u, rfl, _⟩ := h
    rfl
  · obtain ⟨b, u, rfl, hb, hu1, hu2, q⟩ := h
    obtain ⟨c, cs, hb⟩ := hb
    obtain ⟨g, m, i, e1, e2, g0, m0, m1, i0, cs0⟩ := id hb
    have ncb : c ≠ b := by
      rintro rfl
      rw [e1] at e2
      have z := List.map_eq_cons_iff.mp (V_lst_inj e2).symm
      obtain ⟨x1, l1, rfl, _, z⟩ := z
      have z2 := List.map_eq_cons_iff.mp z
      obtain ⟨x2, l2, rfl, _, z⟩ := z2
      have z3 := List.map_eq_cons_iff.mp z
      obtain ⟨x3, l3, rfl, _, z⟩ := z3
      have z4 := List.map_eq_cons_iff.mp z
      obtain ⟨x4, l4, rfl, z5, z⟩ := z4
      cases z5
    have B0 : BagOf H H b c cs g m i := ⟨e1, e2, But.refl b H⟩
    refine ⟨_, (C8.pss_cut (ps_if (pt_cmpR op_eq (pe_ix (K_ixL (K := K) rfl) (pv 0) pe_int (fun _ _ => rfl)) pe_int (nomark _)) (pss_cons (ps_set (i := 4) sc_ltake.nd rfl (by first | exact Or.inl rfl | exact Or.inr rfl) pe_int)
      (C8.pss_cut (ps_if (pt_cmpR op_lt (pe_ix (K_ixL (K := K) rfl) (pv 0) pe_int (fun _ _ => rfl)) (pe_callB (K_len (K := K) rfl) (by rfl) T.n_len PySem.boot_len (pa_cons (pe_ix (K_ixL (K := K) rfl) (pv 0) pe_int (fun _ _ => rfl)) pa_nil)) (nomark _)) (pss_one (ps_set (i := 4) sc_ltake.nd rfl (by first | exact Or.inl rfl | exact Or.inr rfl) (pe_ix (K_ixL (K := K) rfl) (pe_ix (K_ixL (K := K) rfl) (pv 0) pe_int (fun _ _ => rfl)) (pe_ix (K_ixL (K := K) rfl) (pv 0) pe_int (fun _ _ => rfl)) (fun _ _ => rfl)))) pss_nil)
      (pss_cons (ps_augS (pv 0) pe_int (K_get (K := K) rfl) pe_int ip_add set_list)
      (C8.pss_cut (ps_if (pt_cmpR op_ge (pv 4) pe_int (nomark _)) (pss_one (ps_asg (pv 4) (pg_sub (pv 0) pe_int set_list))) pss_nil)
      (pss_cons (ps_set (i := 5) sc_ltake.nd rfl (by first | exact Or.inl rfl | exact Or.inr rfl) (pe_op op_add (pe_op op_add (pe_op op_mul (pe_ix (K_ixL (K := K) rfl) (pv 0) pe_int (fun _ _ => rfl)) pe_int) (pe_op op_mod (pe_callTy call_int1 (by rfl) T.n_int (by decide +kernel) (pa_cons (pv 4) pa_nil)) pe_int)) (pe_op op_mul pe_int (pe_ix (K_ixL (K := K) rfl) (pv 0) pe_int (fun _ _ => rfl)))))
      (pss_one (ps_asg (pe_op op_mod (pe_callTy call_int1 (by rfl) T.n_int (by decide +kernel) (pa_cons (pv 5) pa_nil)) pe_int) (pg_sub (pv 0) pe_int set_list)))))))) pss_nil)
      (pss_cons (ps_if (pt_cmpR op_gt (pe_ix (K_ixL (K := K) rfl) (pv 0) pe_int (fun _ _ => rfl)) pe_int (nomark _)) (pss_cons (ps_set (i := 6) sc_ltake.nd rfl (by first | exact Or.inl rfl | exact Or.inr rfl) (pe_op op_mod (pe_callTy call_int1 (by rfl) T.n_int (by decide +kernel) (pa_cons (pe_ix (K_ixL (K := K) rfl) (pv 0) pe_int (fun _ _ => rfl)) pa_nil)) (pv 1)))
      (pss_cons (ps_asg (pe_op op_fdiv (pe_callTy call_int1 (by rfl) T.n_int (by decide +kernel) (pa_cons (pe_ix (K_ixL (K := K) rfl) (pv 0) pe_int (fun _ _ => rfl)) pa_nil)) (pv 1)) (pg_sub (pv 0) pe_int set_list))
      (pss_one (ps_ret (pv 6))))) pss_nil)
      (pss_cons (ps_set (i := 2) sc_ltake.nd rfl (by first | exact Or.inl rfl | exact Or.inr rfl) (pe_op op_mod (pe_callTy call_int1 (by rfl) T.n_int (by decide +kernel) (pa_cons (pe_op op_mul (pe_op op_add (pe_ix (K_ixL (K := K) rfl) (pv 0) pe_int (fun _ _ => rfl)) pe_int) pe_int) pa_nil)) pe_int))
      (pss_cons (ps_set (i := 3) sc_ltake.nd rfl (by first | exact Or.inl rfl | exact Or.inr rfl) (pe_op op_mod (pe_callTy call_int1 (by rfl) T.n_int (by decide +kernel) (pa_cons (pe_op op_mul (pe_op op_mod (pe_callTy call_int1 (by rfl) T.n_int (by decide +kernel) (pa_cons (pe_op op_mul (pv 2) (pv 2)) pa_nil)) pe_int) pe_int) pa_nil)) pe_int))
      (pss_one (ps_ret (pe_op op_mod (pe_callTy call_int1 (by rfl) T.n_int (by decide +kernel) (pa_cons (pe_op op_fdiv (pv 3) pe_int) pa_nil)) (pv 1)))))))), ?_⟩
    refine ⟨fun σ H' => ∃ y4 y5 g' m' i', σ = [some (.ref b), some (.int u), none, none, y4, y5, none] ∧ BagOf H H' b c cs g' m' i' ∧ 0 ≤ g' ∧ 0 ≤ m' ∧ m' < 2147483647 ∧ 0 ≤ i', ?_, ?_⟩
    · -- a cell is taken
      refine ⟨.ref b, rfl, b, _, 0, _, rfl, rfl, SqL.of e1, rfl, rfl, _, rfl, ite2 (fun _ => ?_) (fun _ => ⟨none, none, g, m, i, rfl, B0, g0, m0, m1, i0⟩)⟩
      refine ⟨fun σ H' => ∃ x : Int, 0 ≤ x ∧ σ = [some (.ref b), some (.int u), none, none, some (.int x), none, none] ∧ H' = H, ?_, ?_⟩
      · refine ⟨.ref b, rfl, b, _, 2, _, rfl, rfl, SqL.of e1, rfl, .ref b, rfl, b, _, 3, _, rfl, rfl, SqL.of e1, rfl, c, _, rfl, .inl (SqL.of e2), _, _, rfl, rfl, _, rfl, ?_⟩
        rw [iv_len]
        refine ite2 (fun e => ?_) (fun _ => ⟨0, Int.le_refl _, rfl, rfl⟩)
        have e' : i < cs.length := of_decide_eq_true e
        obtain ⟨j, rfl⟩ := Int.eq_ofNat_of_zero_le i0
        have hj : j < cs.length := by omega
        refine ⟨.ref b, rfl, b, _, 3, _, rfl, rfl, SqL.of e1, rfl, .ref b, rfl, b, _, 2, _, rfl, rfl, SqL.of e1, rfl, c, _, _, .int cs[j], rfl, rfl, SqL.of e2, atI_nat (iv_get hj), cs[j], cs0 _ (List.getElem_mem hj), rfl, rfl⟩
      · rintro σ H' ⟨x, hx, rfl, rfl⟩
        -- bag[2] += 1
        refine ⟨.ref b, rfl, b, _, 2, _, rfl, rfl, SqL.of e1, rfl, _, _, rfl, rfl, b, _, 2, 2, rfl, rfl, e1, rfl, ?_⟩
        have B1 : BagOf H' (upd H' b (.lst [.int g, .int m, .int (i + 1), .ref c])) b c cs g m (i + 1) := B0.put ncb
        refine ⟨fun σ H'' => ∃ g' : Int, 0 ≤ g' ∧ σ = [some (.ref b), some (.int u), none, none, some (.int x), none, none] ∧ BagOf H' H'' b c cs g' m (i + 1), ?_, ?_⟩
        · refine ⟨.int x, rfl, _, _, rfl, rfl, _, rfl, ite2 (fun _ => ?_) (fun _ => ⟨g, g0, rfl, B1⟩)⟩
          exact ⟨.int x, rfl, .ref b, rfl, b, _, 0, 0, rfl, rfl, upd_same, rfl, x, hx, rfl, by rw [upd_upd]; exact B0.put ncb⟩
        · rintro σ H2 ⟨g', hg', rfl, B2⟩
          refine ⟨.ref b, rfl, b, _, 1, _, rfl, rfl, SqL.of B2.1, rfl, m, _, rfl, rfl, .inr ⟨by decide, by decide⟩, ?_⟩
          refine ⟨.int x, rfl, .inl ⟨x, rfl, x, _, rfl, rfl, (by show (0 : Int) < 2147483647; decide), _, _, rfl, rfl, .ref b, rfl, b, _, 2, _, rfl, rfl, SqL.of B2.1, rfl, _, _, rfl, rfl, .inl ⟨by decide, by decide⟩, _, _, rfl, rfl, ?_⟩⟩
          refine ⟨_, rfl, .inl ⟨_, rfl, _, _, rfl, rfl, (by show (0 : Int) < 2147483647; decide), .ref b, rfl, b, _, 1, 1, rfl, rfl, B2.1, rfl, ?_⟩⟩
          refine ⟨_, _, g', _, i + 1, rfl, B2.put ncb, hg', Int.emod_nonneg _ (by decide), Int.emod_lt_of_pos _ (by decide), by omega⟩
    · rintro σ H1 ⟨y4, y5, g, m, i, rfl, B, g0, m0, m1, i0⟩
      refine ⟨.ref b, rfl, b, _, 0, _, rfl, rfl, SqL.of B.1, rfl, _, _, rfl, rfl, _, rfl, ite2 (fun _ => ?_) (fun _ => ?_)⟩
      · -- drawn from the number
        refine ⟨.ref b, rfl, b, _, 0, _, rfl, rfl, SqL.of B.1, rfl, .inl ⟨_, rfl, _, rfl, _, _, rfl, rfl, by omega, ?_⟩⟩
        refine ⟨.ref b, rfl, b, _, 0, _, rfl, rfl, SqL.of B.1, rfl, .inl ⟨_, rfl, _, rfl, _, _, rfl, rfl, ⟨by omega, hu2⟩, .ref b, rfl, b, _, 0, 0, rfl, rfl, B.1, rfl, ?_⟩⟩
        exact ⟨_, rfl, q _ _ ((B.put ncb).drew (Int.ediv_nonneg g0 (by omega)) m0 m1 i0 hb) (Int.emod_nonneg _ (by omega)) (Int.emod_lt_of_pos _ (by omega))⟩
      · -- drawn from the mix
        refine ⟨.ref b, rfl, b, _, 1, _, rfl, rfl, SqL.of B.1, rfl, _, _, rfl, rfl, _, _, rfl, rfl, .inr ⟨by decide, by decide⟩, .inl ⟨_, rfl, _, _, rfl, rfl, (by show (0 : Int) < 1000000007; decide), ?_⟩⟩
        refine ⟨_, rfl, _, rfl, (m + 1) * 39373 % 1000000007, _, rfl, rfl, .inl ⟨by omega, by omega⟩, .inl ⟨_, rfl, _, _, rfl, rfl, (by show (0 : Int) < 998244353; decide), _, _, rfl, rfl, .inr ⟨by decide, by decide⟩, .inl ⟨_, rfl, _, _, rfl, rfl, (by show (0 : Int) < 998244353; decide), ?_⟩⟩⟩
        refine ⟨_, rfl, _, _, rfl, rfl, ⟨(by show (0 : Int) < 7; decide), (by show (7 : Int) < 1073741824; decide)⟩, .inl ⟨_, rfl, _, rfl, _, _, rfl, rfl, (by show 0 < u; omega), ?_⟩⟩
        exact q _ _ (B.drew g0 m0 m1 i0 hb) (Int.emod_nonneg _ (by omega)) (Int.emod_lt_of_pos _ (by omega))

def spDraw (K : PySem.W.Frag) : Sp := fun vs H Q _ => ∃ (b : Addr) (n : Nat), vs = [.ref b, .int n] ∧ Bag H b ∧ 0 < n ∧ n ≤ 48 ∧ ∀ H' l ns, H l = none → Drew b H H' → H' l = some (.lst (iv ns)) → ns.length = n → Clk.Valid ns → Q (.ref l) H'
theorem flat_rep (n : Nat) (c : Int) : (List.replicate n [V.int c]).flatten = iv (List.replicate n c) := by
  unfold iv
  induction n with
  | zero => rfl
  | succ n ih =>
    rw [List.replicate_succ, List.replicate_succ, List.flatten_cons, List.map_cons, ih]
    rfl
theorem ok_lstays (T : Env K mg) : FnOk P w K mg base CX0 2 T.lstays.f T.lstays.fd ["_law_bag_here", "_law_many"] (spDraw K) := by
  refine T.lstays.F.ok sc_lstays (fun vs H Q E h => ?_) (fun cdv A outer s H vs Q E hr h => ?_)
  · obtain ⟨b, n, rfl, _⟩ := h
    rfl
  · obtain ⟨b, n, rfl, hb, n0, n48, q⟩ := h
    refine ⟨_, (pss_cons (ps_if (pt_cmpR op_eq (pe_call (ok_ltake T) (hr.mono (by decide)) (by rfl) T.ltake.m T.ltake.F.kp T.ltake.b .nil pass0 (pa_cons (pv 0) (pa_cons pe_int pa_nil))) pe_int (nomark _)) (pss_one (ps_ret (pe_op op_rep (pe_lst (pa_cons (pe_op op_add pe_int (pe_call (ok_ltake T) (hr.mono (by decide)) (by rfl) T.ltake.m T.ltake.F.kp T.ltake.b .nil pass0 (pa_cons (pv 0) (pa_cons (pv 1) pa_nil)))) pa_nil)) (pv 1)))) pss_nil)
      (pss_cons (ps_set (i := 2) sc_lstays.nd rfl (by first | exact Or.inl rfl | exact Or.inr rfl) (pe_op op_add pe_int (pe_call (ok_ltake T) (hr.mono (by decide)) (by rfl) T.ltake.m T.ltake.F.kp T.ltake.b .nil pass0 (pa_cons (pv 0) (pa_cons (pv 1) pa_nil)))))
      (pss_cons (ps_set (i := 3) sc_lstays.nd rfl (by first | exact Or.inl rfl | exact Or.inr rfl) (pe_lc (own := [("_law_hour", 4)]) (g := gName 4) (tt := tYes) (by rfl) sc_lstays.nd  (pi_range1 (by rfl) T.n_range (pa_cons (pv 1) pa_nil)) (blkOk_by (N := ["_law_bag_here", "_law_many", "_law_most", "_law_drawn", "_law_hour", "_law_ahead"]) (sc := defScope s_lstays) (by decide +kernel)) (fun _ _ _ _ _ => pg_name (i := 4) sc_lstays.nd rfl (by first | exact Or.inl rfl | exact Or.inr rfl)) (fun _ _ _ _ _ => pts_nil) (fun _ _ _ _ _ => (pe_op op_add pe_int (pe_call (ok_ltake T) (hr.mono (by decide)) (by rfl) T.ltake.m T.ltake.F.kp T.ltake.b .nil pass0 (pa_cons (pv 0) (pa_cons (pv 2) pa_nil)))))))
      (pss_one (ps_ret (pe_lc (own := [("_law_hour", 4)]) (g := gName 4) (tt := tYes) (by rfl) sc_lstays.nd  (pi_range1 (by rfl) T.n_range (pa_cons (pv 1) pa_nil)) (blkOk_by (N := ["_law_bag_here", "_law_many", "_law_most", "_law_drawn", "_law_hour", "_law_ahead"]) (sc := defScope s_lstays) (by decide +kernel)) (fun _ _ _ _ _ => pg_name (i := 4) sc_lstays.nd rfl (by first | exact Or.inl rfl | exact Or.inr rfl)) (fun _ _ _ _ _ => pts_nil) (fun _ _ _ _ _ => (pe_callB (K_min (K := K) rfl rfl) (by rfl) T.n_min (by decide +kernel) (pa_cons (pe_lc (own := [("_law_ahead", 5)]) (g := gName 5) (tt := tYes) (by rfl) sc_lstays.nd  (pi_range1 (by rfl) T.n_range (pa_cons (pv 1) pa_nil)) (blkOk_by (N := ["_law_bag_here", "_law_many", "_law_most", "_law_drawn", "_law_hour", "_law_ahead"]) (sc := relS _ (defScope s_lstays)) (by decide +kernel)) (fun _ _ _ _ _ => pg_name (i := 5) sc_lstays.nd rfl (by first | exact Or.inl rfl | exact Or.inr rfl)) (fun _ _ _ _ _ => pts_nil) (fun _ _ _ _ _ => (pe_op op_add (pe_ix (K_ixL (K := K) rfl) (pv 3) (pe_op op_mod (pe_callTy call_int1 (by rfl) T.n_int (by decide +kernel) (pa_cons (pe_op op_add (pv 4) (pv 5)) pa_nil)) (pv 1)) (fun _ _ => rfl)) (pv 5)))) pa_nil))))))))), ?_⟩
    refine ⟨.ref b, rfl, b, 4, rfl, hb, by decide, by decide, fun H1 v d1 v0 v1 => ⟨rfl, _, rfl, ite2 (fun _ => ?_) (fun _ => ?_)⟩⟩
    · refine ⟨.ref b, rfl, .int n, rfl, b, n, rfl, d1.bag, by omega, by omega, fun H2 c d2 c0 c1 => ⟨_, _, rfl, rfl, by show 1 ≤ sizeLine; decide, fun p np => ⟨.int n, rfl, p, n, _, rfl, rfl, upd_same, by omega, by omega, ?_, fun l nl => ?_⟩⟩⟩
      · rw [Int.toNat_natCast]
        exact small_line' (by simp; omega)
      · have d3 := (d1.trans d2).new (o := .lst [.int (1 + c)]) np
        have nl0 : H l = none := d3.free nl
        refine q _ l (List.replicate n (1 + c)) nl0 (d3.new nl) ?_ List.length_replicate (Clk.even_valid n0 n48 (by omega) (by omega))
        rw [upd_same, Int.toNat_natCast, flat_rep]
    · refine ⟨.ref b, rfl, .int n, rfl, b, n, rfl, d1.bag, by omega, by omega, fun H2 c d2 c0 c1 => ⟨_, _, rfl, rfl, .int n, rfl, n, rfl, by omega, by omega, fun D nD => ?_⟩⟩
      have d12 := d1.trans d2
      refine lc_drawR (b := b) (n := ((n : Int) - 0).toNat) (fun _ v => 1 ≤ v ∧ v ≤ n) d2.bag nD (by omega) (fun i hi H' R d k => ?_) (fun H' ds d hD hl hp => ?_)
      · refine ⟨.ref b, rfl, .int (1 + c), rfl, b, 1 + c, rfl, d.bag, by omega, by omega, fun H4 z d4 z0 z1 => ⟨_, _, rfl, rfl, ?_⟩⟩
        exact k H4 (1 + z) d4 ⟨by omega, by omega⟩
      · have hl' : ds.length = n := by omega
        have d13 := d12.trans d
        have rS : ∀ x, 1 ≤ Clk.S ds x ∧ Clk.S ds x ≤ ds.length := fun x => by
          obtain ⟨h, e⟩ := Clk.S_at (ns := ds) (by omega) x
          have z := hp _ h
          rw [← e] at z
          omega
        refine ⟨.int n, rfl, n, rfl, by omega, by omega, fun D2 nD2 => ?_⟩
        refine lc_mapR (n := ((n : Int) - 0).toNat) (fun i => .int (Clk.made ds (i : Int))) nD2 (by omega) (fun i hi H3 R sm k => ?_) (fun H3 sm hD3 => ?_)
        · refine ⟨.int n, rfl, n, rfl, by omega, by omega, fun D3 nD3 => ?_⟩
          refine lc_mapR (n := ((n : Int) - 0).toNat) (fun a => .int (Clk.S ds ((i : Int) + (a : Int)) + (a : Int))) nD3 (by omega) (fun a ha H4 R4 sm4 k4 => ?_) (fun H4 sm4 hD4 => ?_)
          · refine ⟨.ref D, rfl, _, rfl, _, rfl, _, _, rfl, rfl, .inl ⟨_, rfl, .int n, rfl, _, _, rfl, rfl, (by show (0 : Int) < n; omega), ?_⟩⟩
            refine ⟨D, iv ds, _, .int (Clk.S ds ((i : Int) + (a : Int))), rfl, rfl, SqL.of (sm4 _ _ (sm _ _ hD)), ?_, .int a, ?_, _, _, rfl, rfl, ?_⟩
            · have z := at_round (ns := ds) (by omega) ((i : Int) + (a : Int))
              rw [hl'] at z
              rw [show (0 : Int) + (i : Int) = i by omega, show (0 : Int) + (a : Int) = a by omega]
              exact z
            · rw [show (0 : Int) + (a : Int) = a by omega]
              rfl
            · exact k4 _ (Same.refl _)
          · refine ⟨D3, Clk.row n fun a => Clk.S ds ((i : Int) + a) + a, rfl, SqL.of ?_, by rw [Clk.row_len]; exact n0, fun m hm hle => ?_⟩
            · rw [hD4, show ((n : Int) - 0).toNat = n by omega]
              exact congrArg (fun z => some (HO.lst z)) (range_row n fun a => Clk.S ds ((i : Int) + a) + a)
            · have e : m = Clk.made ds i := by
                unfold Clk.made
                rw [hl']
                exact Clk.least_is hm hle
              rw [e]
              exact k _ sm4
        · have dF := (d13.same sm)
          refine q H3 D2 (Clk.row ds.length (Clk.made ds)) (d13.free nD2) dF ?_ (by rw [Clk.row_len]; exact hl') (Clk.made_valid (by omega) (by omega) rS)
          rw [hD3, hl', show ((n : Int) - 0).toNat = n by omega]
          exact congrArg (fun z => some (HO.lst z)) (range_row n (Clk.made ds))

def spIsRow (K : PySem.W.Frag) : Sp := fun vs H Q _ => ∃ (a : Addr) (xs : List V), vs = [.ref a] ∧ (SqL K H a xs ∨ SqT K H a xs) ∧ ∀ H', Same H H' → Q (.bl (decide (1 ≤ xs.length) && decide (xs.length ≤ 48))) H'
theorem ok_is_row (T : Env K mg) : FnOk P w K mg base CX0 1 T.is_row.f T.is_row.fd ["thing"] (spIsRow K) := by
  refine T.is_row.F.ok sc_is_row (fun vs H Q E h => ?_) (fun cdv A outer s H vs Q E hr h => ?_)
  · obtain ⟨a, xs, rfl, _⟩ := h
    rfl
  · obtain ⟨a, xs, rfl, hI, q⟩ := h
    refine ⟨_, (pss_one (ps_ret (pe_and (pe_callB (K_isiT (K := K) rfl) (by rfl) T.n_isinstance (by decide +kernel) (pa_cons (pv 0) (pa_cons (pe_tup (pa_cons (pe_bltn (v := .ty "list") (by rfl) T.n_list (by decide +kernel) rfl) (pa_cons (pe_bltn (v := .ty "tuple") (by rfl) T.n_tuple (by decide +kernel) rfl) pa_nil))) pa_nil))) (pe_one (pe_chain  op_le op_le pe_int (pe_callB (K_len (K := K) rfl) (by rfl) T.n_len PySem.boot_len (pa_cons (pv 0) pa_nil)) (pe_glob (v := .int 48) (by rfl) T.c_MOST_HOURS ⟨_, rfl⟩)))))), ?_⟩
    refine ⟨.ref a, rfl, by show 2 ≤ sizeLine; decide, fun p np => ?_⟩
    have s1 : Same H (upd H p (.tup [.ty "list", .ty "tuple"])) := same_new np
    have hI1 : SqL K (upd H p (.tup [.ty "list", .ty "tuple"])) a xs ∨ SqT K (upd H p (.tup [.ty "list", .ty "tuple"])) a xs := hI.elim (fun h => .inl (s1.seq h)) fun h => .inr (Same.set s1 h)
    obtain ⟨t, ht, kt⟩ := kit_seq hI1
    refine ⟨.ref a, p, _, t, _, true, rfl, upd_same, .cons (.ty _) (.cons (.ty _) .nil), ht, kt, true, rfl, iteT ?_⟩
    refine ⟨.ref a, rfl, a, _, rfl, hI1, 1, _, rfl, rfl, _, rfl, ?_⟩
    by_cases h : 1 ≤ xs.length
    · refine dec_t (by omega) ⟨_, 48, rfl, rfl, ?_⟩
      have z := q _ s1
      rw [decide_eq_true h, Bool.true_and] at z
      show Q (.bl (decide ((xs.length : Int) ≤ 48))) _
      rw [show decide ((xs.length : Int) ≤ 48) = decide (xs.length ≤ 48) from decide_eq_decide.mpr (by omega)]
      exact z
    · refine dec_f (by omega) ?_
      have z := q _ s1
      rw [decide_eq_false h, Bool.false_and] at z
      exact z

def spIsInteger : Sp := fun vs H Q _ => ∃ i : Int, vs = [.int i] ∧ Q (.bl true) H
theorem ok_is_integer (T : Env K mg) : FnOk P w K mg base CX0 1 T.is_integer.f T.is_integer.fd ["thing"] spIsInteger := by
  refine T.is_integer.F.ok sc_is_integer (fun vs H Q E h => ?_) (fun cdv A outer s H vs Q E hr h => ?_)
  · obtain ⟨i, rfl, _⟩ := h
    rfl
  · obtain ⟨i, rfl, q⟩ := h
    refine ⟨_, (pss_one (ps_ret (pe_and (pe_callB (K_isi (K := K) rfl) (by rfl) T.n_isinstance (by decide +kernel) (pa_cons (pv 0) (pa_cons (pe_bltn (v := .ty "int") (by rfl) T.n_int (by decide +kernel) rfl) pa_nil))) (pe_one (pe_not (pe_callB (K_isi (K := K) rfl) (by rfl) T.n_isinstance (by decide +kernel) (pa_cons (pv 0) (pa_cons (pe_bltn (v := .ty "bool") (by rfl) T.n_bool (by decide +kernel) rfl) pa_nil)))))))), ?_⟩
    refine ⟨_, rfl, .int i, .ty "int", .type "int", .type "int", true, rfl, .ty _, .base (.int i), kit_ty (by decide +kernel), true, rfl, ?_⟩
    refine iteT ⟨_, rfl, .int i, .ty "bool", .type "int", .type "bool", false, rfl, .ty _, .base (.int i), kit_ty (by decide +kernel), false, rfl, ?_⟩
    exact q

def spIsFromOne : Sp := fun vs H Q _ => ∃ n i : Int, vs = [.int n, .int i] ∧ Q (.bl (decide (1 ≤ i) && decide (i ≤ n))) H
theorem ok_is_from_one (T : Env K mg) : FnOk P w K mg base CX0 2 T.is_from_one.f T.is_from_one.fd ["most", "thing"] spIsFromOne := by
  refine T.is_from_one.F.ok sc_is_from_one (fun vs H Q E h => ?_) (fun cdv A outer s H vs Q E hr h => ?_)
  · obtain ⟨n, i, rfl, _⟩ := h
    rfl
  · obtain ⟨n, i, rfl, q⟩ := h
    refine ⟨_, (pss_one (ps_ret (pe_and (pe_call (ok_is_integer T) (hr.mono (by decide)) (by rfl) T.is_integer.m T.is_integer.F.kp T.is_integer.b .nil pass0 (pa_cons (pv 1) pa_nil)) (pe_one (pe_chain  op_le op_le pe_int (pv 1) (pv 0)))))), ?_⟩
    refine ⟨_, rfl, i, rfl, true, rfl, iteT ⟨_, rfl, _, _, rfl, rfl, _, rfl, ?_⟩⟩
    cases e : decide (1 ≤ i) with
    | true =>
      rw [e] at q
      exact iteT ⟨_, rfl, _, _, rfl, rfl, q⟩
    | false =>
      rw [e] at q
      exact iteF q

def okStay (n i : Int) : Bool := decide (1 ≤ i) && decide (i ≤ n)
def spAreStays (K : PySem.W.Frag) : Sp := fun vs H Q _ => ∃ (a : Addr) (ns : List Int), vs = [.ref a] ∧ Ints K H a ns ∧ 1 ≤ ns.length ∧ ns.length ≤ 48 ∧ ∀ H', Same H H' → Q (.bl (ns.all (okStay ns.length))) H'
theorem ok_are_stays (T : Env K mg) : FnOk P w K mg base CX0 3 T.are_stays.f T.are_stays.fd ["thing"] (spAreStays K) := by
  refine T.are_stays.F.ok sc_are_stays (fun vs H Q E h => ?_) (fun cdv A outer s H vs Q E hr h => ?_)
  · obtain ⟨a, ns, rfl, _⟩ := h
    rfl
  · obtain ⟨a, ns, rfl, hI, h1, h48, q⟩ := h
    refine ⟨_, (pss_one (ps_ret (pe_and (pe_call (ok_is_row T) (hr.mono (by decide)) (by rfl) T.is_row.m T.is_row.F.kp T.is_row.b .nil pass0 (pa_cons (pv 0) pa_nil)) (pe_one (pe_callB (K_all (K := K) rfl rfl) (by rfl) T.n_all (by decide +kernel) (pa_cons (pe_lc (own := [("item", 1)]) (g := gName 1) (tt := tYes) (by rfl) sc_are_stays.nd  (K_piq (K := K) rfl (pv 0)) (blkOk_by (N := ["thing", "item"]) (sc := defScope s_are_stays) (by decide +kernel)) (fun _ _ _ _ _ => pg_name (i := 1) sc_are_stays.nd rfl (by first | exact Or.inl rfl | exact Or.inr rfl)) (fun _ _ _ _ _ => pts_nil) (fun _ _ _ _ _ => (pe_call (ok_is_from_one T) (hr.mono (by decide)) (by rfl) T.is_from_one.m T.is_from_one.F.kp T.is_from_one.b .nil pass0 (pa_cons (pe_callB (K_len (K := K) rfl) (by rfl) T.n_len PySem.boot_len (pa_cons (pv 0) pa_nil)) (pa_cons (pv 1) pa_nil))))) pa_nil)))))), ?_⟩
    refine ⟨.ref a, rfl, a, iv ns, rfl, hI, fun H1 s1 => ?_⟩
    rw [iv_len, decide_eq_true h1, decide_eq_true h48]
    refine ⟨true, rfl, iteT ?_⟩
    have hI1 := hI.same s1
    have fin : ∀ (D : Addr) (H' : Hp), Same H1 H' → H' D = some (.lst ((List.range (iv ns).length).map fun i => .bl (okStay ns.length (ns.getD i 0)))) → ∃ (a : Addr) (bs : List Bool), [V.ref D] = [V.ref a] ∧ SqL K H' a (bv bs) ∧ Q (.bl (bs.all id)) H' := by
      intro D H' sm hD
      have e : (List.range (iv ns).length).map (fun i => V.bl (okStay ns.length (ns.getD i 0))) = bv (ns.map (okStay ns.length)) := by
        rw [iv_len, bv, List.map_map]
        refine range_get fun i hi => ?_
        rw [List.getD_eq_getElem?_getD, List.getElem?_eq_getElem hi]
        rfl
      rw [e] at hD
      refine ⟨D, _, rfl, SqL.of hD, ?_⟩
      rw [List.all_map]
      exact q _ (s1.trans sm)
    have turn : ∀ i (hi : i < (iv ns).length), (iv ns)[i] = V.int (ns.getD i 0) := fun i hi => by
      rw [iv_len] at hi
      rw [List.getElem_map, List.getD_eq_getElem?_getD, List.getElem?_eq_getElem hi]
      rfl
    rcases hI1 with hI1 | hI1
    · refine .inl ⟨.ref a, rfl, a, rfl, ⟨_, hI1⟩, fun D nD => ?_⟩
      refine lc_mapL (fun i => .bl (okStay ns.length (ns.getD i 0))) hI1 nD (by rw [iv_len]; omega) (fun i hi H' R sm k => ?_) (fun H' sm hD => fin D H' sm hD)
      rw [turn i hi]
      refine ⟨.ref a, rfl, a, _, rfl, .inl (sm.seq hI1), _, rfl, _, _, rfl, ?_⟩
      rw [iv_len]
      exact k _ (Same.refl _)
    · refine .inr ⟨.ref a, rfl, a, rfl, ⟨_, hI1⟩, fun D nD => ?_⟩
      refine lc_mapT (fun i => .bl (okStay ns.length (ns.getD i 0))) hI1 nD (by rw [iv_len]; omega) (fun i hi H' R sm k => ?_) (fun H' sm hD => fin D H' sm hD)
      rw [turn i hi]
      refine ⟨.ref a, rfl, a, _, rfl, .inr (Same.set sm hI1), _, rfl, _, _, rfl, ?_⟩
      rw [iv_len]
      exact k _ (Same.refl _)

def spNobody (K : PySem.W.Frag) : Sp := fun vs H Q _ => ∃ (a : Addr) (ns : List Int), vs = [.ref a] ∧ Ints K H a ns ∧ 0 < ns.length ∧ (∀ i : Nat, i < ns.length → Clk.S ns i ≤ Clk.S ns ((i : Int) + 1) + 1) ∧ ∀ H', Same H H' → Q .non H'
theorem ok_check_nobody_overtaken (T : Env K mg) : FnOk P w K mg base CX0 1 T.check_nobody_overtaken.f T.check_nobody_overtaken.fd ["stays"] (spNobody K) := by
  refine T.check_nobody_overtaken.F.ok sc_check_nobody_overtaken (fun vs H Q E h => ?_) (fun cdv A outer s H vs Q E hr h => ?_)
  · obtain ⟨a, ns, rfl, _⟩ := h
    rfl
  · obtain ⟨a, ns, rfl, hI, hp, near, q⟩ := h
    refine ⟨_, (pss_one (ps_for PassesOwn.never rfl (pi_enumQ (by rfl) T.n_enumerate (pa_cons (pv 0) pa_nil)) (pg_tup rfl (pgs_cons (pg_name (i := 1) sc_check_nobody_overtaken.nd rfl (by first | exact Or.inl rfl | exact Or.inr rfl)) (pgs_cons (pg_name (i := 2) sc_check_nobody_overtaken.nd rfl (by first | exact Or.inl rfl | exact Or.inr rfl)) pgs_nil)))
      (pss_one (ps_if (pt_cmpR op_gt (pv 2) (pe_op op_add (pe_ix (K_ixQ (K := K) rfl) (pv 0) (pe_op op_mod (pe_op op_add (pv 1) pe_int) (pe_callB (K_len (K := K) rfl) (by rfl) T.n_len PySem.boot_len (pa_cons (pv 0) pa_nil))) (fun _ _ => rfl)) pe_int) (nomark _)) (pss_one ps_never) pss_nil)))), ?_⟩
    rcases hI with hI | hI
    · refine .inl ⟨.ref a, rfl, a, _, rfl, hI, ?_⟩
      refine for_enumL (K := K) (a := a) (xs := iv ns) (fun i σ H' => ∃ x y, σ = [some (.ref a), x, y] ∧ Same H H') ⟨none, none, rfl, Same.refl H⟩ (fun i σ H' ⟨_, _, _, sm⟩ => sm.seq hI) ?_ (fun σ H' ⟨_, _, _, sm⟩ => q H' sm)
      rintro i hi σ H' p ⟨x, y, rfl, sm⟩ np
      have hi' : i < ns.length := by rwa [iv_len] at hi
      have s2 : Same H (upd H' p (.tup [.int (i : Nat), (iv ns)[i]])) := sm.trans (same_new np)
      have ei : (iv ns)[i] = V.int (Clk.S ns i) := by rw [List.getElem_map, Clk.S_get hi']
      rw [ei] at s2 ⊢
      refine ⟨p, _, rfl, .inl (.inl upd_same), rfl, _, _, rfl, _, _, rfl, rfl, ?_⟩
      refine ⟨_, rfl, .ref a, rfl, _, rfl, _, _, rfl, rfl, .ref a, rfl, a, _, rfl, .inl (s2.seq hI), _, _, rfl, rfl, ?_⟩
      rw [iv_len]
      refine ⟨(by omega), a, _, _, _, rfl, rfl, .inl (s2.seq hI), at_round hp _, _, _, rfl, rfl, _, _, rfl, rfl, _, rfl, ?_⟩
      exact dec_f (by have := near i hi'; omega) ⟨_, _, rfl, s2⟩
    · refine .inr ⟨.ref a, rfl, a, _, rfl, hI, ?_⟩
      refine for_enumT (K := K) (a := a) (xs := iv ns) (fun i σ H' => ∃ x y, σ = [some (.ref a), x, y] ∧ Same H H') ⟨none, none, rfl, Same.refl H⟩ (fun i σ H' ⟨_, _, _, sm⟩ => Same.set sm hI) ?_ (fun σ H' ⟨_, _, _, sm⟩ => q H' sm)
      rintro i hi σ H' p ⟨x, y, rfl, sm⟩ np
      have hi' : i < ns.length := by rwa [iv_len] at hi
      have s2 : Same H (upd H' p (.tup [.int (i : Nat), (iv ns)[i]])) := sm.trans (same_new np)
      have ei : (iv ns)[i] = V.int (Clk.S ns i) := by rw [List.getElem_map, Clk.S_get hi']
      rw [ei] at s2 ⊢
      refine ⟨p, _, rfl, .inl (.inl upd_same), rfl, _, _, rfl, _, _, rfl, rfl, ?_⟩
      refine ⟨_, rfl, .ref a, rfl, _, rfl, _, _, rfl, rfl, .ref a, rfl, a, _, rfl, .inr (Same.set s2 hI), _, _, rfl, rfl, ?_⟩
      rw [iv_len]
      refine ⟨(by omega), a, _, _, _, rfl, rfl, .inr (Same.set s2 hI), at_round hp _, _, _, rfl, rfl, _, _, rfl, rfl, _, rfl, ?_⟩
      exact dec_f (by have := near i hi'; omega) ⟨_, _, rfl, s2⟩

theorem all_ok {ns : List Int} (v : Clk.Valid ns) : ns.all (okStay ns.length) = true := List.all_eq_true.mpr fun x hx => by
  obtain ⟨h1, h2⟩ := v.mem hx
  unfold okStay
  rw [decide_eq_true h1, decide_eq_true h2]
  rfl
def spInit (K : PySem.W.Frag) (C : Addr) : Sp := fun vs H Q _ => ∃ (p dx a : Addr) (ns : List Int), vs = [.ref p, .ref a] ∧ H p = some (.ins C dx []) ∧ Ints K H a ns ∧ Clk.Valid ns ∧
  ∀ H' : Hp, (∀ b o, b ≠ p → H b = some o → H' b = some o) → ClkAt K C H' p ns → Q .non H'
theorem ok_Clock_init (T : Env K mg) : FnOk P w K mg base CX0 4 T.Clock_init.f T.Clock_init.fd ["self", "stays"] (spInit K T.C_Clock.C) := by
  refine T.Clock_init.F.ok sc_Clock_init (fun vs H Q E h => ?_) (fun cdv A outer s H vs Q E hr h => ?_)
  · obtain ⟨p, dx, a, ns, rfl, _⟩ := h
    rfl
  · obtain ⟨p, dx, a, ns, rfl, hp, hI, hv, q⟩ := h
    refine ⟨_, (pss_cons (ps_if (pt_not (pt_val (pe_call (ok_are_stays T) (hr.mono (by decide)) (by rfl) T.are_stays.m T.are_stays.F.kp T.are_stays.b .nil pass0 (pa_cons (pv 1) pa_nil)))) (pss_one ps_never) pss_nil)
      (pss_cons (ps_expr (pe_call (ok_check_nobody_overtaken T) (hr.mono (by decide)) (by rfl) T.check_nobody_overtaken.m T.check_nobody_overtaken.F.kp T.check_nobody_overtaken.b .nil pass0 (pa_cons (pv 1) pa_nil)))
      (pss_one (ps_fld (pv 0) (pe_callTy (K_tuple (K := K) rfl) (by rfl) T.n_tuple (by decide +kernel) (pa_cons (pv 1) pa_nil)) rfl)))), ?_⟩
    refine ⟨.ref a, rfl, a, ns, rfl, hI, hv.pos, hv.top, fun H1 s1 => ⟨_, rfl, ?_⟩⟩
    rw [all_ok hv]
    refine iteF ⟨.ref a, rfl, a, ns, rfl, hI.same s1, hv.pos, fun i _ => hv.near i, fun H2 s2 => ?_⟩
    have s12 := s1.trans s2
    have hp2 := s12 _ _ hp
    have fin : ∀ (t : Addr) (H3 : Hp), Same H H3 → SqT K H3 t (iv ns) → Q .non (upd H3 p (.ins T.C_Clock.C dx (putF "_stays" (.ref t) []))) := fun t H3 s3 hT => by
      have h3 := s3 _ _ hp
      refine q _ (fun b o nb e => by rw [upd_ne nb]; exact s3 _ _ e) ⟨hv, dx, t, by rw [upd_same]; rfl, ?_⟩
      rcases hT with (h | ⟨o, h⟩) | h
      · exact .inl (.inl (by rw [upd_ne (ne_of h h3 fun z => nomatch z)]; exact h))
      · exact .inl (.inr ⟨o, by rw [upd_ne (ne_of h h3 fun z => nomatch z)]; exact h⟩)
      · exact .inr h
    refine ⟨.ref a, rfl, a, iv ns, rfl, ?_⟩
    rcases hI.same s12 with hI2 | hI2
    · refine .inl ⟨hI2, fun t nt => ?_⟩
      have s3 : Same H (upd H2 t (.tup (iv ns))) := s12.trans (same_new nt)
      exact ⟨_, rfl, p, _, dx, [], rfl, s3 _ _ hp, T.C_Clock.cl, T.n_Clock__stays, (by show 0 < 1000; decide), fin t _ s3 (.inl (.inl upd_same))⟩
    · exact .inr ⟨hI2, _, rfl, p, _, dx, [], rfl, hp2, T.C_Clock.cl, T.n_Clock__stays, (by show 0 < 1000; decide), fin a _ s12 hI2⟩

def spClock (K : PySem.W.Frag) (C : Addr) : Sp := fun vs H Q _ => ∃ (b a : Addr) (ns : List Int), vs = [.ref b, .ref a] ∧ Bag H b ∧ SqL K H a (iv ns) ∧ a ≠ b ∧ Clk.Valid ns ∧ ∀ H' r, H r = none → Drew b H H' → ClkAt K C H' r ns → Q (.ref r) H'
theorem ok_lclock (T : Env K mg) : FnOk P w K mg base CX0 6 T.lclock.f T.lclock.fd ["_law_bag_here", "_law_stays_here"] (spClock K T.C_Clock.C) := by
  refine T.lclock.F.ok sc_lclock (fun vs H Q E h => ?_) (fun cdv A outer s H vs Q E hr h => ?_)
  · obtain ⟨b, a, ns, rfl, _⟩ := h
    rfl
  · obtain ⟨b, a, ns, rfl, hb, hS, nab, hv, q⟩ := h
    refine ⟨_, (pss_cons (ps_if (pt_cmpR op_eq (pe_call (ok_ltake T) (hr.mono (by decide)) (by rfl) T.ltake.m T.ltake.F.kp T.ltake.b .nil pass0 (pa_cons (pv 0) (pa_cons pe_int pa_nil))) pe_int (nomark _)) (pss_one (ps_ret (pe_make T.mk_Clock (ok_Clock_init T) (hr.mono (by decide)) (by rfl) T.C_Clock.mg T.Clock_init.b .nil pass0 (pa_cons (pe_callTy (K_tuple (K := K) rfl) (by rfl) T.n_tuple (by decide +kernel) (pa_cons (pv 1) pa_nil)) pa_nil)))) pss_nil)
      (pss_cons (ps_set (i := 2) sc_lclock.nd rfl (by first | exact Or.inl rfl | exact Or.inr rfl) (pe_callTy (K_list (K := K) rfl) (by rfl) T.n_list (by decide +kernel) (pa_cons (pv 1) pa_nil)))
      (pss_cons (ps_set (i := 3) sc_lclock.nd rfl (by first | exact Or.inl rfl | exact Or.inr rfl) (pe_make T.mk_Clock (ok_Clock_init T) (hr.mono (by decide)) (by rfl) T.C_Clock.mg T.Clock_init.b .nil pass0 (pa_cons (pv 2) pa_nil)))
      (pss_cons (ps_asg pe_int (pg_sub (pv 2) pe_int set_list))
      (pss_cons (ps_expr (pe_bm PySem.F.plainAttrs_list PySem.F.slot_list_append PySem.F.type_list_append mt_append (pv 2) (pa_cons pe_int pa_nil)))
      (pss_one (ps_ret (pv 3)))))))), ?_⟩
    refine ⟨.ref b, rfl, b, 2, rfl, hb, by decide, by decide, fun H1 v d1 v0 v1 => ⟨rfl, _, rfl, ite2 (fun _ => ?_) (fun _ => ?_)⟩⟩
    · have hS1 := d1.but.seq nab hS
      refine ⟨.ref a, rfl, a, iv ns, rfl, .inl ⟨hS1, fun t nt => ?_⟩⟩
      intro x dx nx nd nex
      have s2 : Same H1 (upd H1 t (.tup (iv ns))) := same_new nt
      refine ⟨x, dx, t, ns, rfl, upd_same, made_ints nx nd (.inr (.inl (.inl upd_same))), hv, fun H' kb hC => ⟨rfl, ?_⟩⟩
      have s3 := s2.trans (made_same nx nd kb)
      exact q H' x (d1.free (s2.free nx)) (d1.same s3) hC
    · have hS1 := d1.but.seq nab hS
      refine ⟨.ref a, rfl, a, iv ns, rfl, .inl hS1, fun l nl => ?_⟩
      have s2 : Same H1 (upd H1 l (.lst (iv ns))) := same_new nl
      refine ⟨.ref l, rfl, fun x dx nx nd nex => ?_⟩
      refine ⟨x, dx, l, ns, rfl, upd_same, made_ints nx nd (.inl (SqL.of upd_same)), hv, fun H' kb hC => ⟨rfl, ?_⟩⟩
      have s3 := made_same nx nd kb
      have hl : H' l = some (.lst (iv ns)) := s3 _ _ upd_same
      have hp := hv.pos
      have hz := hv.top
      have lz : (iv ns).length = ns.length := iv_len ns
      have hj : ixN (iv ns).length 0 = some 0 := by
        unfold ixN
        rw [if_pos (Int.le_refl 0), if_pos (by rw [lz]; omega)]
        rfl
      refine ⟨.ref l, rfl, l, _, 0, 0, rfl, rfl, hl, hj, ?_⟩
      refine ⟨.ref l, rfl, .inl ⟨rfl, _, SqL.of upd_same⟩, l, _, _, rfl, rfl, upd_same, ?_, ?_⟩
      · rw [List.length_set, lz]
        exact small_line (by omega)
      · have d3 : Drew b H H' := d1.same (s2.trans s3)
        have nl0 : H l = none := d1.free nl
        refine ⟨.ref x, rfl, q _ x (d1.free (s2.free nx)) ((d3.put nl0).put nl0) ?_⟩
        exact (hC.but ⟨_, hl⟩ (But.refl l H').upd).but ⟨_, upd_same⟩ (But.refl l _).upd

def spMixed (K : PySem.W.Frag) : Sp := fun vs H Q _ => ∃ (b a : Addr) (xs : List V), vs = [.ref b, .ref a] ∧ Bag H b ∧ SqL K H a xs ∧ a ≠ b ∧ xs.length ≤ 1000 ∧
  ∀ H' l ys, H l = none → Drew b H H' → H' l = some (.lst ys) → ys.Perm xs → Q (.ref l) H'
theorem perm_put {ys zs : List V} {y : V} (i : Nat) (h : ys.Perm zs) : (ys.take i ++ [y] ++ ys.drop i).Perm (zs ++ [y]) := by
  have h1 : (ys.take i ++ [y] ++ ys.drop i).Perm (ys.take i ++ ys.drop i ++ [y]) := by
    rw [List.append_assoc, List.append_assoc]
    exact List.Perm.append_left _ List.perm_append_comm
  rw [List.take_append_drop] at h1
  exact h1.trans (h.append_right _)
theorem ok_lmixed (T : Env K mg) : FnOk P w K mg base CX0 2 T.lmixed.f T.lmixed.fd ["_law_bag_here", "_law_things"] (spMixed K) := by
  refine T.lmixed.F.ok sc_lmixed (fun vs H Q E h => ?_) (fun cdv A outer s H vs Q E hr h => ?_)
  · obtain ⟨b, a, xs, rfl, _⟩ := h
    rfl
  · obtain ⟨b, a, xs, rfl, hb, hS, nab, hl, q⟩ := h
    refine ⟨_, (pss_cons (ps_set (i := 2) sc_lmixed.nd rfl (by first | exact Or.inl rfl | exact Or.inr rfl) (pe_lst pa_nil))
      (pss_cons (ps_for PassesOwn.never rfl (K_pil (K := K) rfl (pv 1)) (pg_name (i := 3) sc_lmixed.nd rfl (by first | exact Or.inl rfl | exact Or.inr rfl))
      (pss_one (ps_expr (pe_bm PySem.F.plainAttrs_list PySem.F.slot_list_insert PySem.F.type_list_insert mt_insert (pv 2) (pa_cons (pe_call (ok_ltake T) (hr.mono (by decide)) (by rfl) T.ltake.m T.ltake.F.kp T.ltake.b .nil pass0 (pa_cons (pv 0) (pa_cons (pe_op op_add (pe_callB (K_len (K := K) rfl) (by rfl) T.n_len PySem.boot_len (pa_cons (pv 2) pa_nil)) pe_int) pa_nil))) (pa_cons (pv 3) pa_nil))))))
      (pss_one (ps_ret (pv 2))))), ?_⟩
    refine ⟨Nat.zero_le _, fun l nl => ?_⟩
    have nlb : l ≠ b := hb.ne nl
    have D0 : Drew b H (upd H l (.lst [])) := Drew.of hb (same_new nl)
    refine ⟨.ref a, rfl, a, rfl, ⟨_, D0.but.seq nab hS⟩, for_list (K := K) (a := a) (xs := xs) (fun i σ H' => ∃ x3 ys, σ = [some (.ref b), some (.ref a), some (.ref l), x3] ∧ Drew b H H' ∧ H' l = some (.lst ys) ∧ ys.Perm (xs.take i))
      ⟨none, [], rfl, D0, upd_same, .nil⟩ (fun i σ H' _ ⟨_, _, _, D, _⟩ => D.but.seq nab hS) ?_ ?_⟩
    · rintro i x σ H' hx ⟨x3, ys, rfl, D, hy, hp⟩
      have hi : i < xs.length := (List.getElem?_eq_some_iff.mp hx).1
      have ly : ys.length = i := by rw [hp.length_eq, List.length_take]; omega
      refine ⟨.ref l, rfl, .inl ⟨rfl, _, SqL.of hy⟩, .ref b, rfl, .ref l, rfl, l, _, rfl, .inl (SqL.of hy), _, _, rfl, rfl, ?_⟩
      refine ⟨b, _, rfl, D.bag, by omega, by omega, fun H2 v D2 v0 v1 => ?_⟩
      have hy2 := D2.but _ _ nlb hy
      refine ⟨x, rfl, l, _, v, x, rfl, rfl, hy2, small_line (by omega), v0, by omega, ?_⟩
      have D3 : Drew b H (upd H2 l (.lst (ys.take v.toNat ++ [x] ++ ys.drop v.toNat))) := (D.trans D2).put nl
      refine ⟨_, _, rfl, D3, upd_same, ?_⟩
      rw [take_next hi, ← (List.getElem?_eq_some_iff.mp hx).2]
      exact perm_put _ hp
    · rintro σ H' ⟨x3, ys, rfl, D, hy, hp⟩
      rw [List.take_length] at hp
      exact ⟨.ref l, rfl, q H' l ys nl D hy hp⟩

def spHours (K : PySem.W.Frag) (C : Addr) : Sp := fun vs H Q _ => ∃ (p : Addr) (ns : List Int), vs = [.ref p] ∧ ClkAt K C H p ns ∧ Q (.int ns.length) H
theorem ok_Clock_hours (T : Env K mg) : FnOk P w K mg base CX0 1 T.Clock_hours.f T.Clock_hours.fd ["self"] (spHours K T.C_Clock.C) := by
  refine T.Clock_hours.F.ok sc_Clock_hours (fun vs H Q E h => ?_) (fun cdv A outer s H vs Q E hr h => ?_)
  · obtain ⟨p, ns, rfl, _⟩ := h
    rfl
  · obtain ⟨p, ns, rfl, hc, q⟩ := h
    obtain ⟨dx, t, h1, h2⟩ := hc.ex
    refine ⟨_, (pss_one (ps_ret (pe_callB (K_len (K := K) rfl) (by rfl) T.n_len PySem.boot_len (pa_cons (K_fld (K := K) rfl (pv 0) rfl) pa_nil)))), ?_⟩
    refine ⟨_, rfl, p, _, dx, _, .ref t, rfl, h1, T.C_Clock.cl, T.n_Clock__stays, rfl, t, _, rfl, .inr h2, ?_⟩
    rw [iv_len]
    exact q

def spWidth (K : PySem.W.Frag) : Sp := fun vs H Q _ => ∃ (a : Addr) (ns : List Int) (x : Int), vs = [.ref a, .int x] ∧ SqT K H a (iv ns) ∧ Clk.Valid ns ∧ Q (.int (Clk.wd ns x)) H
theorem ok_width (T : Env K mg) : FnOk P w K mg base CX0 1 T.width.f T.width.fd ["stays", "hour"] (spWidth K) := by
  refine T.width.F.ok sc_width (fun vs H Q E h => ?_) (fun cdv A outer s H vs Q E hr h => ?_)
  · obtain ⟨a, ns, x, rfl, _⟩ := h
    rfl
  · obtain ⟨a, ns, x, rfl, hS, hv, q⟩ := h
    refine ⟨_, (pss_cons (ps_set (i := 2) sc_width.nd rfl (by first | exact Or.inl rfl | exact Or.inr rfl) pe_int)
      (pss_cons (ps_while PassesOwn.never (pt_cmpR op_gt (pe_ix (K_ixT (K := K) rfl) (pv 0) (pe_op op_mod (pe_op op_sub (pv 1) (pv 2)) (pe_callB (K_len (K := K) rfl) (by rfl) T.n_len PySem.boot_len (pa_cons (pv 0) pa_nil))) (fun _ _ => rfl)) (pv 2) (nomark _)) (pss_one (ps_aug (i := 2) sc_width.nd rfl (by first | exact Or.inl rfl | exact Or.inr rfl) pe_int ip_add)))
      (pss_one (ps_ret (pv 2))))), ?_⟩
    have hp := hv.pos
    refine ⟨fun m σ H' => ∃ w : Nat, σ = [some (.ref a), some (.int x), some (.int w)] ∧ H' = H ∧ 1 ≤ w ∧ w ≤ ns.length ∧ m = ns.length - w ∧ ∀ b, b < w → (b : Int) < Clk.S ns (x - b), ⟨_, 1, rfl, rfl, Nat.le_refl _, hp, rfl, fun b hb => ?_⟩, ?_⟩
    · obtain rfl : b = 0 := by omega
      have := hv.lo (x - ((0 : Nat) : Int))
      show (0 : Int) < _
      omega
    · rintro m σ H' ⟨w, rfl, rfl, h1, h2, rfl, all⟩
      refine ⟨.ref a, rfl, .int x, rfl, .int w, rfl, _, _, rfl, rfl, .ref a, rfl, a, _, rfl, .inr hS, _, _, rfl, rfl, ?_⟩
      rw [iv_len]
      refine ⟨(by omega), a, _, _, _, rfl, rfl, hS, at_round hp _, .int w, rfl, _, _, rfl, rfl, _, rfl, ite2 (fun e => ?_) (fun e => ?_)⟩
      · have e' := of_decide_eq_true e
        have hw : w < ns.length := by
          have := hv.hi (x - w)
          omega
        refine ⟨fun σ' H'' => σ' = [some (.ref a), some (.int x), some (.int ((w + 1 : Nat) : Int))] ∧ H'' = H', ?_, ?_⟩
        · rintro σ' H'' ⟨rfl, rfl⟩
          refine ⟨ns.length - (w + 1), by omega, w + 1, rfl, rfl, by omega, hw, rfl, fun b hb => ?_⟩
          by_cases hbw : b < w
          · exact all b hbw
          · obtain rfl : b = w := by omega
            exact e'
        · exact ⟨_, rfl, _, _, rfl, rfl, rfl, rfl⟩
      · have e' : ¬ (w : Int) < Clk.S ns (x - w) := fun z => e (decide_eq_true z)
        have ew := Clk.wd_found hv x h1 h2 all e'
        rw [ew] at q
        exact ⟨_, rfl, q⟩

def spWidths (K : PySem.W.Frag) (C : Addr) : Sp := fun vs H Q _ => ∃ (p : Addr) (ns : List Int), vs = [.ref p] ∧ ClkAt K C H p ns ∧ ∀ l H', H l = none → Same H H' → H' l = some (.lst (iv (Clk.widths ns))) → Q (.ref l) H'
theorem ok_Clock_widths (T : Env K mg) : FnOk P w K mg base CX0 3 T.Clock_widths.f T.Clock_widths.fd ["self"] (spWidths K T.C_Clock.C) := by
  refine T.Clock_widths.F.ok sc_Clock_widths (fun vs H Q E h => ?_) (fun cdv A outer s H vs Q E hr h => ?_)
  · obtain ⟨p, ns, rfl, _⟩ := h
    rfl
  · obtain ⟨p, ns, rfl, hc, q⟩ := h
    refine ⟨_, (pss_one (ps_ret (pe_lc (own := [("hour", 1)]) (g := gName 1) (tt := tYes) (by rfl) sc_Clock_widths.nd  (pi_range1 (by rfl) T.n_range (pa_cons (pe_prop (pv 0) T.C_Clock.cl T.p_Clock_hours (ok_Clock_hours T) (hr.mono (by decide)) T.Clock_hours.b .nil pass0 rfl) pa_nil)) (blkOk_by (N := ["self", "hour"]) (sc := defScope s_Clock_widths) (by decide +kernel)) (fun _ _ _ _ _ => pg_name (i := 1) sc_Clock_widths.nd rfl (by first | exact Or.inl rfl | exact Or.inr rfl)) (fun _ _ _ _ _ => pts_nil) (fun _ _ _ _ _ => (pe_call (ok_width T) (hr.mono (by decide)) (by rfl) T.width.m T.width.F.kp T.width.b .nil pass0 (pa_cons (K_fld (K := K) rfl (pv 0) rfl) (pa_cons (pv 1) pa_nil))))))), ?_⟩
    obtain ⟨dx, t, h1, h2⟩ := hc.ex
    have hp := hc.ok.pos
    have ht := hc.ok.top
    refine ⟨.ref p, rfl, p, dx, _, rfl, h1, p, ns, rfl, hc, ns.length, rfl, by omega, by omega, fun D nD => ?_⟩
    refine lc_mapR (n := ((ns.length : Int) - 0).toNat) (fun i => .int (Clk.wd ns i)) nD (by omega) (fun i hi H' R sm k => ?_) (fun H' sm hD => q D H' nD sm ?_)
    · refine ⟨.ref p, rfl, p, _, dx, _, .ref t, rfl, sm _ _ h1, T.C_Clock.cl, T.n_Clock__stays, rfl, _, rfl, t, ns, _, rfl, Same.set sm h2, hc.ok, ?_⟩
      rw [Int.zero_add]
      exact k _ (Same.refl _)
    · rw [hD]
      congr 2
      unfold Clk.widths Clk.row iv
      rw [List.map_map, Int.sub_zero, Int.toNat_natCast]
      rfl

def spMirrored (K : PySem.W.Frag) (C : Addr) : Sp := fun vs H Q _ => ∃ (p : Addr) (ns : List Int), vs = [.ref p] ∧ ClkAt K C H p ns ∧ ∀ r H', H r = none → Same H H' → ClkAt K C H' r (Clk.mir ns) → Q (.ref r) H'
theorem ok_Clock_mirrored (T : Env K mg) : FnOk P w K mg base CX0 6 T.Clock_mirrored.f T.Clock_mirrored.fd ["self"] (spMirrored K T.C_Clock.C) := by
  refine T.Clock_mirrored.F.ok sc_Clock_mirrored (fun vs H Q E h => ?_) (fun cdv A outer s H vs Q E hr h => ?_)
  · obtain ⟨p, ns, rfl, _⟩ := h
    rfl
  · obtain ⟨p, ns, rfl, hc, q⟩ := h
    obtain ⟨dx, t, h1, h2⟩ := hc.ex
    refine ⟨_, (pss_one (ps_ret (pe_make T.mk_Clock (ok_Clock_init T) (hr.mono (by decide)) (by rfl) T.C_Clock.mg T.Clock_init.b .nil pass0 (pa_cons (K_revL (K := K) rfl (pe_meth0 (pv 0) T.C_Clock.cl T.m_Clock_widths (ok_Clock_widths T) (hr.mono (by decide)) T.Clock_widths.b .nil pass0)) pa_nil)))), ?_⟩
    refine ⟨.ref p, rfl, p, dx, _, rfl, h1, rfl, p, ns, rfl, hc, fun l H1 nl s1 hl => ⟨l, _, rfl, SqL.of hl, fun m nm => ?_⟩⟩
    have s2 : Same H (upd H1 m (.lst (iv (Clk.widths ns)).reverse)) := s1.trans (same_new nm)
    intro x dx nx nd nex
    have e : (iv (Clk.widths ns)).reverse = iv (Clk.mir ns) := by
      unfold iv
      rw [← List.map_reverse, Clk.widths_rev]
    refine ⟨x, dx, m, Clk.mir ns, rfl, upd_same, made_ints nx nd (.inl (SqL.of (by rw [upd_same, e]))), Clk.valid_mir hc.ok, fun H' kb hC => ⟨rfl, ?_⟩⟩
    exact q x H' (s2.free nx) (s2.trans (made_same nx nd kb)) hC

def spTurnedRow (K : PySem.W.Frag) : Sp := fun vs H Q _ => ∃ (a : Addr) (ns : List Int) (k : Int), vs = [.ref a, .int k] ∧ SqT K H a (iv ns) ∧ 0 < ns.length ∧ ns.length ≤ 48 ∧
  ∀ t H', Same H H' → SqT K H' t (iv (Clk.trn ns k)) → Q (.ref t) H'
theorem ok_turned_row (T : Env K mg) : FnOk P w K mg base CX0 1 T.turned_row.f T.turned_row.fd ["row", "by"] (spTurnedRow K) := by
  refine T.turned_row.F.ok sc_turned_row (fun vs H Q E h => ?_) (fun cdv A outer s H vs Q E hr h => ?_)
  · obtain ⟨a, ns, k, rfl, _⟩ := h
    rfl
  · obtain ⟨a, ns, k, rfl, h2, hp, ht, q⟩ := h
    have hm0 := Int.emod_nonneg k (show (ns.length : Int) ≠ 0 by omega)
    have hm1 := Int.emod_lt_of_pos k (show (0 : Int) < ns.length by omega)
    have hcut := Clk.cut_trn hp k
    obtain ⟨f, hf⟩ := Int.eq_ofNat_of_zero_le hm0
    have hfn : f < ns.length := by omega
    have hfl : f ≤ (iv ns).length := by rw [iv_len]; omega
    rw [hf] at hcut
    have efl : (((f : Int)).toNat) = f := rfl
    rw [efl] at hcut
    refine ⟨_, (pss_cons (ps_set (i := 2) sc_turned_row.nd rfl (by first | exact Or.inl rfl | exact Or.inr rfl) (pe_op op_mod (pv 1) (pe_callB (K_len (K := K) rfl) (by rfl) T.n_len PySem.boot_len (pa_cons (pv 0) pa_nil))))
      (pss_one (ps_ret (pe_op (K_catT (K := K) rfl) (pe_slice (K_slT (K := K) rfl) (pv 0) (po_some (pv 2)) po_none) (pe_slice (K_slT (K := K) rfl) (pv 0) po_none (po_some (pv 2))))))), ?_⟩
    refine ⟨.int k, rfl, .ref a, rfl, a, iv ns, rfl, .inr h2, k, _, rfl, rfl, by rw [iv_len]; omega, ?_⟩
    dsimp only
    rw [iv_len, hf]
    refine ⟨.ref a, rfl, .int f, rfl, f, rfl, a, iv ns, rfl, h2, fun whole => ?_, fun part p1 np1 => ?_⟩
    · have hf0 : f = 0 := by
        have w := whole.1
        rw [HT.sIx_nat, iv_len, Nat.min_eq_left (Nat.le_of_lt hfn)] at w
        exact w
      subst hf0
      refine ⟨.ref a, rfl, .int (0 : Nat), rfl, _, rfl, a, iv ns, rfl, h2, fun whole2 => ?_, fun part2 p2 np2 => ?_⟩
      · exfalso
        have w := whole2.2
        rw [HT.sIx_nat, iv_len] at w
        omega
      · have s2 : Same H (upd H p2 (.tup (cutV (iv ns) none (some ((0 : Nat) : Int))))) := same_new np2
        rw [cut_hi (Nat.zero_le _)] at s2 ⊢
        have e : Clk.trn ns k = ns := by rw [← hcut]; simp
        refine ⟨a, p2, iv ns, _, rfl, rfl, Same.set s2 h2, .inl (.inl upd_same), ?_, ?_, fun _ => ?_, fun ne => absurd rfl ne⟩
        · intro z
          have := congrArg List.length z
          rw [iv_len, List.length_nil] at this
          omega
        · rw [iv_len]
          exact small_line' (by simp; omega)
        · exact q a _ s2 (by rw [e]; exact Same.set s2 h2)
    · have hf0 : f ≠ 0 := by
        rintro rfl
        refine part ⟨?_, ?_⟩
        · rw [HT.sIx_nat, Nat.zero_min]
        · rw [HT.sIx_none]
      have s1 : Same H (upd H p1 (.tup (cutV (iv ns) (some (f : Int)) none))) := same_new np1
      refine ⟨.ref a, rfl, .int f, rfl, _, rfl, a, iv ns, rfl, Same.set s1 h2, fun whole2 => ?_, fun part2 p2 np2 => ?_⟩
      · exfalso
        have w := whole2.2
        rw [HT.sIx_nat, iv_len] at w
        omega
      · have s2 := same_new (o := .tup (cutV (iv ns) none (some (f : Int)))) np2
        have s12 := s1.trans s2
        have g1 := s2 _ _ (upd_same (H := H) (a := p1) (o := .tup (cutV (iv ns) (some (f : Int)) none)))
        refine ⟨p1, p2, _, _, rfl, rfl, .inl (.inl g1), .inl (.inl upd_same), ?_, ?_, fun e => ?_, fun _ p3 np3 => ?_⟩
        · rw [cut_lo hfl]
          intro z
          have := congrArg List.length z
          rw [List.length_drop, iv_len, List.length_nil] at this
          omega
        · rw [cut_lo hfl, cut_hi hfl, List.length_drop, List.length_take, iv_len]
          exact small_line' (by omega)
        · exfalso
          rw [cut_hi hfl] at e
          have := congrArg List.length e
          rw [List.length_take, iv_len, List.length_nil] at this
          omega
        · refine q p3 _ (s12.trans (same_new np3)) (.inl (.inl ?_))
          rw [upd_same, cut_lo hfl, cut_hi hfl, ← hcut]
          unfold iv
          rw [List.map_append, List.map_drop, List.map_take]

def spTurned (K : PySem.W.Frag) (C : Addr) : Sp := fun vs H Q _ => ∃ (p : Addr) (ns : List Int) (k : Int), vs = [.ref p, .int k] ∧ ClkAt K C H p ns ∧
  ∀ r H', H r = none → Same H H' → ClkAt K C H' r (Clk.trn ns k) → Q (.ref r) H'
theorem ok_Clock_turned (T : Env K mg) : FnOk P w K mg base CX0 6 T.Clock_turned.f T.Clock_turned.fd ["self", "by"] (spTurned K T.C_Clock.C) := by
  refine T.Clock_turned.F.ok sc_Clock_turned (fun vs H Q E h => ?_) (fun cdv A outer s H vs Q E hr h => ?_)
  · obtain ⟨p, ns, k, rfl, _⟩ := h
    rfl
  · obtain ⟨p, ns, k, rfl, hc, q⟩ := h
    obtain ⟨dx, t, h1, h2⟩ := hc.ex
    refine ⟨_, (pss_one (ps_ret (pe_make T.mk_Clock (ok_Clock_init T) (hr.mono (by decide)) (by rfl) T.C_Clock.mg T.Clock_init.b .nil pass0 (pa_cons (pe_call (ok_turned_row T) (hr.mono (by decide)) (by rfl) T.turned_row.m T.turned_row.F.kp T.turned_row.b .nil pass0 (pa_cons (K_fld (K := K) rfl (pv 0) rfl) (pa_cons (pv 1) pa_nil))) pa_nil)))), ?_⟩
    refine ⟨.ref p, rfl, p, _, dx, _, .ref t, rfl, h1, T.C_Clock.cl, T.n_Clock__stays, rfl, .int k, rfl, t, ns, k, rfl, h2, hc.ok.pos, hc.ok.top, fun a H3 s3 hT => ?_⟩
    intro x dx nx nd nex
    refine ⟨x, dx, a, _, rfl, upd_same, made_ints nx nd (.inr hT), Clk.valid_trn hc.ok k, fun H' kb hC => ⟨rfl, ?_⟩⟩
    exact q x H' (s3.free nx) (s3.trans (made_same nx nd kb)) hC

def spFar : Sp := fun vs H Q _ => ∃ b : Addr, vs = [.ref b] ∧ Bag H b ∧ ∀ H' v, Drew b H H' → Q (.int v) H'
theorem great_text : ((List.range 41).all fun k => (PySem.intText? (("1" : Str) ++ Txt.mul ("0" : Str) (k : Int))).isSome && decide ((("1" : Str) ++ Txt.mul ("0" : Str) (k : Int)).length ≤ 640) && decide ((Txt.mul ("0" : Str) (k : Int)).length ≤ 640)) = true := by decide +kernel
theorem great_at {k : Nat} (h : k < 41) : ∃ n, PySem.intText? (("1" : Str) ++ Txt.mul ("0" : Str) (k : Int)) = some n ∧ (("1" : Str) ++ Txt.mul ("0" : Str) (k : Int)).length ≤ 640 ∧ (Txt.mul ("0" : Str) (k : Int)).length ≤ 640 := by
  have q := List.all_eq_true.mp great_text k (List.mem_range.mpr h)
  simp only [Bool.and_eq_true, decide_eq_true_eq] at q
  obtain ⟨⟨q1, q2⟩, q3⟩ := q
  obtain ⟨n, hn⟩ := Option.isSome_iff_exists.mp q1
  exact ⟨n, hn, q2, q3⟩
theorem ok_lfar (T : Env K mg) : FnOk P w K mg base CX0 2 T.lfar.f T.lfar.fd ["_law_bag_here"] spFar := by
  refine T.lfar.F.ok sc_lfar (fun vs H Q E h => ?_) (fun cdv A outer s H vs Q E hr h => ?_)
  · obtain ⟨b, rfl, _⟩ := h
    rfl
  · obtain ⟨b, rfl, hb, q⟩ := h
    refine ⟨_, (pss_cons (ps_set (i := 1) sc_lfar.nd rfl (by first | exact Or.inl rfl | exact Or.inr rfl) (pe_callTy call_int_str (by rfl) T.n_int (by decide +kernel) (pa_cons (pe_op op_add_str pe_str (pe_op op_mul_str pe_str (pe_call (ok_ltake T) (hr.mono (by decide)) (by rfl) T.ltake.m T.ltake.F.kp T.ltake.b .nil pass0 (pa_cons (pv 0) (pa_cons pe_int pa_nil))))) pa_nil)))
      (pss_one (ps_ret (pe_op op_add (pe_ix (K_ixL (K := K) rfl) (pe_lst (pa_cons (pe_op op_sub (pe_call (ok_ltake T) (hr.mono (by decide)) (by rfl) T.ltake.m T.ltake.F.kp T.ltake.b .nil pass0 (pa_cons (pv 0) (pa_cons pe_int pa_nil))) pe_int) (pa_cons (pe_op op_add (pv 1) (pe_call (ok_ltake T) (hr.mono (by decide)) (by rfl) T.ltake.m T.ltake.F.kp T.ltake.b .nil pass0 (pa_cons (pv 0) (pa_cons pe_int pa_nil)))) (pa_cons (pe_op op_sub pe_int (pv 1)) pa_nil)))) (pe_call (ok_ltake T) (hr.mono (by decide)) (by rfl) T.ltake.m T.ltake.F.kp T.ltake.b .nil pass0 (pa_cons (pv 0) (pa_cons pe_int pa_nil))) (fun _ _ => rfl)) (pe_call (ok_ltake T) (hr.mono (by decide)) (by rfl) T.ltake.m T.ltake.F.kp T.ltake.b .nil pass0 (pa_cons (pv 0) (pa_cons pe_int pa_nil))))))), ?_⟩
    refine ⟨.ref b, rfl, b, 40, rfl, hb, by decide, by decide, fun H1 v d1 v0 v1 => ?_⟩
    obtain ⟨k, rfl⟩ := Int.eq_ofNat_of_zero_le v0
    obtain ⟨n, hn, l1, l2⟩ := great_at (k := k) (by omega)
    refine ⟨_, _, rfl, rfl, by decide, v0, by omega, _, _, rfl, rfl, Nat.le_trans (Nat.add_le_add (show ("1" : Str).length ≤ 1 by decide) l2) (by decide), _, n, rfl, hn, l1, ?_⟩
    refine ⟨.ref b, rfl, b, 60, rfl, d1.bag, by decide, by decide, fun H2 v2 d2 _ _ => ⟨_, _, rfl, rfl, ?_⟩⟩
    refine ⟨.int n, rfl, .ref b, rfl, b, 50, rfl, d2.bag, by decide, by decide, fun H3 v3 d3 _ _ => ⟨_, _, rfl, rfl, .int n, rfl, _, _, rfl, rfl, by show 3 ≤ sizeLine; decide, fun p np => ?_⟩⟩
    have d4 := ((d1.trans d2).trans d3).new (o := .lst [.int (v2 - 30), .int (n + v3), .int (0 - n)]) np
    refine ⟨.ref b, rfl, b, 3, rfl, d4.bag, by decide, by decide, fun H5 v5 d5 w0 w1 => ?_⟩
    have nb : p ≠ b := ((d1.trans d2).trans d3).bag.ne np
    have hp := d5.but p _ nb upd_same
    have w : v5 = 0 ∨ v5 = 1 ∨ v5 = 2 := by omega
    obtain ⟨z, hz⟩ : ∃ z : Int, atI [V.int (v2 - 30), V.int (n + v3), V.int (0 - n)] v5 = some (.int z) := by
      rcases w with rfl | rfl | rfl
      · exact ⟨_, rfl⟩
      · exact ⟨_, rfl⟩
      · exact ⟨_, rfl⟩
    exact ⟨p, _, v5, .int z, rfl, rfl, SqL.of hp, hz, .ref b, rfl, b, 10, rfl, d5.bag, by decide, by decide, fun H6 v6 d6 _ _ => ⟨z, v6, rfl, rfl, q H6 (z + v6) ((d4.trans d5).trans d6)⟩⟩

def spStays (K : PySem.W.Frag) (C : Addr) : Sp := fun vs H Q _ => ∃ (p : Addr) (ns : List Int), vs = [.ref p] ∧ ClkAt K C H p ns ∧ ∀ l, H l = none → Q (.ref l) (upd H l (.lst (iv ns)))
theorem ok_Clock_stays (T : Env K mg) : FnOk P w K mg base CX0 1 T.Clock_stays.f T.Clock_stays.fd ["self"] (spStays K T.C_Clock.C) := by
  refine T.Clock_stays.F.ok sc_Clock_stays (fun vs H Q E h => ?_) (fun cdv A outer s H vs Q E hr h => ?_)
  · obtain ⟨p, ns, rfl, _⟩ := h
    rfl
  · obtain ⟨p, ns, rfl, hc, q⟩ := h
    obtain ⟨dx, t, h1, h2⟩ := hc.ex
    refine ⟨_, (pss_one (ps_ret (pe_callTy (K_list (K := K) rfl) (by rfl) T.n_list (by decide +kernel) (pa_cons (K_fld (K := K) rfl (pv 0) rfl) pa_nil)))), ?_⟩
    exact ⟨_, rfl, p, _, dx, _, .ref t, rfl, h1, T.C_Clock.cl, T.n_Clock__stays, rfl, t, _, rfl, .inr h2, q⟩

def spIsCount : Sp := fun vs H Q _ => ∃ i : Int, vs = [.int i] ∧ Q (.bl (decide (0 ≤ i))) H
theorem ok_is_count (T : Env K mg) : FnOk P w K mg base CX0 2 T.is_count.f T.is_count.fd ["thing"] spIsCount := by
  refine T.is_count.F.ok sc_is_count (fun vs H Q E h => ?_) (fun cdv A outer s H vs Q E hr h => ?_)
  · obtain ⟨i, rfl, _⟩ := h
    rfl
  · obtain ⟨i, rfl, q⟩ := h
    refine ⟨_, (pss_one (ps_ret (pe_and (pe_call (ok_is_integer T) (hr.mono (by decide)) (by rfl) T.is_integer.m T.is_integer.F.kp T.is_integer.b .nil pass0 (pa_cons (pv 0) pa_nil)) (pe_one (pe_cmpR op_ge (pv 0) pe_int (nomark _)))))), ?_⟩
    refine ⟨_, rfl, i, rfl, true, rfl, iteT ⟨_, rfl, _, _, rfl, rfl, q⟩⟩

def spIsHour : Sp := fun vs H Q _ => ∃ n i : Int, vs = [.int n, .int i] ∧ Q (.bl (decide (0 ≤ i) && decide (i < n))) H
theorem ok_is_hour (T : Env K mg) : FnOk P w K mg base CX0 3 T.is_hour.f T.is_hour.fd ["hours", "thing"] spIsHour := by
  refine T.is_hour.F.ok sc_is_hour (fun vs H Q E h => ?_) (fun cdv A outer s H vs Q E hr h => ?_)
  · obtain ⟨n, i, rfl, _⟩ := h
    rfl
  · obtain ⟨n, i, rfl, q⟩ := h
    refine ⟨_, (pss_one (ps_ret (pe_and (pe_call (ok_is_count T) (hr.mono (by decide)) (by rfl) T.is_count.m T.is_count.F.kp T.is_count.b .nil pass0 (pa_cons (pv 1) pa_nil)) (pe_one (pe_cmpR op_lt (pv 1) (pv 0) (nomark _)))))), ?_⟩
    refine ⟨_, rfl, i, rfl, _, rfl, ?_⟩
    cases e : decide (0 ≤ i) with
    | true =>
      rw [e] at q
      exact iteT ⟨_, rfl, _, rfl, _, _, rfl, rfl, q⟩
    | false =>
      rw [e] at q
      exact iteF q

def spCheckHour : Sp := fun vs H Q _ => ∃ n i : Int, vs = [.int n, .int i] ∧ 0 ≤ i ∧ i < n ∧ Q .non H
theorem ok_check_hour (T : Env K mg) : FnOk P w K mg base CX0 4 T.check_hour.f T.check_hour.fd ["hours", "thing"] spCheckHour := by
  refine T.check_hour.F.ok sc_check_hour (fun vs H Q E h => ?_) (fun cdv A outer s H vs Q E hr h => ?_)
  · obtain ⟨n, i, rfl, _⟩ := h
    rfl
  · obtain ⟨n, i, rfl, h0, hn, q⟩ := h
    refine ⟨_, (pss_one (ps_if (pt_not (pt_val (pe_call (ok_is_hour T) (hr.mono (by decide)) (by rfl) T.is_hour.m T.is_hour.F.kp T.is_hour.b .nil pass0 (pa_cons (pv 0) (pa_cons (pv 1) pa_nil))))) (pss_one ps_never) pss_nil)), ?_⟩
    refine ⟨_, rfl, _, rfl, n, i, rfl, _, rfl, ?_⟩
    rw [decide_eq_true h0, decide_eq_true hn]
    exact iteF q

def spServed (K : PySem.W.Frag) (C : Addr) : Sp := fun vs H Q _ => ∃ (p : Addr) (ns : List Int) (i : Int), vs = [.ref p, .int i] ∧ ClkAt K C H p ns ∧ 0 ≤ i ∧ i < ns.length ∧
  ∀ l H', H l = none → Same H H' → H' l = some (.lst (iv (Clk.served ns i))) → Q (.ref l) H'
theorem ok_Clock_served (T : Env K mg) : FnOk P w K mg base CX0 5 T.Clock_served.f T.Clock_served.fd ["self", "hour"] (spServed K T.C_Clock.C) := by
  refine T.Clock_served.F.ok sc_Clock_served (fun vs H Q E h => ?_) (fun cdv A outer s H vs Q E hr h => ?_)
  · obtain ⟨p, ns, i, rfl, _⟩ := h
    rfl
  · obtain ⟨p, ns, i, rfl, hc, h0, hn, q⟩ := h
    obtain ⟨dx, t, h1, h2⟩ := hc.ex
    have ht := hc.ok.top
    have hl := hc.ok.lo i
    have hh := hc.ok.hi i
    refine ⟨_, (pss_cons (ps_expr (pe_call (ok_check_hour T) (hr.mono (by decide)) (by rfl) T.check_hour.m T.check_hour.F.kp T.check_hour.b .nil pass0 (pa_cons (pe_callB (K_len (K := K) rfl) (by rfl) T.n_len PySem.boot_len (pa_cons (K_fld (K := K) rfl (pv 0) rfl) pa_nil)) (pa_cons (pv 1) pa_nil))))
      (pss_one (ps_ret (pe_lc (own := [("at", 2)]) (g := gName 2) (tt := tYes) (by rfl) sc_Clock_served.nd  (pi_range2 (by rfl) T.n_range (pa_cons (pv 1) (pa_cons (pe_op op_add (pv 1) (pe_ix (K_ixT (K := K) rfl) (K_fld (K := K) rfl (pv 0) rfl) (pv 1) (fun _ _ => rfl))) pa_nil))) (blkOk_by (N := ["self", "hour", "at"]) (sc := defScope s_Clock_served) (by decide +kernel)) (fun _ _ _ _ _ => pg_name (i := 2) sc_Clock_served.nd rfl (by first | exact Or.inl rfl | exact Or.inr rfl)) (fun _ _ _ _ _ => pts_nil) (fun _ _ _ _ _ => (pe_op op_mod (pv 2) (pe_prop (pv 0) T.C_Clock.cl T.p_Clock_hours (ok_Clock_hours T) (hr.mono (by decide)) T.Clock_hours.b .nil pass0 rfl))))))), ?_⟩
    refine ⟨_, rfl, p, _, dx, _, .ref t, rfl, h1, T.C_Clock.cl, T.n_Clock__stays, rfl, t, _, rfl, .inr h2, _, rfl, _, i, rfl, h0, (by rw [iv_len]; exact hn), ?_⟩
    refine ⟨_, rfl, _, rfl, _, rfl, p, _, dx, _, .ref t, rfl, h1, T.C_Clock.cl, T.n_Clock__stays, rfl, _, rfl, t, _, i, _, rfl, rfl, h2, at_hour h0 hn, i, _, rfl, rfl, i, i + Clk.S ns i, rfl, ⟨by omega, by omega, by omega, by omega⟩, fun D nD => ?_⟩
    refine lc_mapR (lo := i) (n := (i + Clk.S ns i - i).toNat) (fun k => .int ((i + (k : Int)) % (ns.length : Int))) nD (by omega) (fun k hk H' R sm k' => ?_) (fun H' sm hD => q D H' nD sm ?_)
    · refine ⟨_, rfl, .ref p, rfl, p, dx, _, rfl, sm _ _ h1, p, ns, rfl, hc.same sm, _, _, rfl, rfl, ?_⟩
      exact ⟨(by omega), k' _ (Same.refl _)⟩
    · rw [hD, show i + Clk.S ns i - i = Clk.S ns i by omega]
      exact congrArg (fun z => some (HO.lst z)) (range_row _ fun k => (i + k) % (ns.length : Int))

def spServing (K : PySem.W.Frag) (C : Addr) : Sp := fun vs H Q _ => ∃ (p : Addr) (ns : List Int) (i : Int), vs = [.ref p, .int i] ∧ ClkAt K C H p ns ∧ 0 ≤ i ∧ i < ns.length ∧
  ∀ l H', H l = none → Same H H' → H' l = some (.lst (iv (Clk.serving ns i))) → Q (.ref l) H'
theorem ok_Clock_serving (T : Env K mg) : FnOk P w K mg base CX0 5 T.Clock_serving.f T.Clock_serving.fd ["self", "hour"] (spServing K T.C_Clock.C) := by
  refine T.Clock_serving.F.ok sc_Clock_serving (fun vs H Q E h => ?_) (fun cdv A outer s H vs Q E hr h => ?_)
  · obtain ⟨p, ns, i, rfl, _⟩ := h
    rfl
  · obtain ⟨p, ns, i, rfl, hc, h0, hn, q⟩ := h
    obtain ⟨dx, t, h1, h2⟩ := hc.ex
    have ht := hc.ok.top
    have hl := Clk.wd_pos hc.ok i
    have hh := Clk.wd_le ns i
    refine ⟨_, (pss_cons (ps_expr (pe_call (ok_check_hour T) (hr.mono (by decide)) (by rfl) T.check_hour.m T.check_hour.F.kp T.check_hour.b .nil pass0 (pa_cons (pe_callB (K_len (K := K) rfl) (by rfl) T.n_len PySem.boot_len (pa_cons (K_fld (K := K) rfl (pv 0) rfl) pa_nil)) (pa_cons (pv 1) pa_nil))))
      (pss_cons (ps_set (i := 2) sc_Clock_serving.nd rfl (by first | exact Or.inl rfl | exact Or.inr rfl) (pe_op op_add (pe_op op_sub (pv 1) (pe_call (ok_width T) (hr.mono (by decide)) (by rfl) T.width.m T.width.F.kp T.width.b .nil pass0 (pa_cons (K_fld (K := K) rfl (pv 0) rfl) (pa_cons (pv 1) pa_nil)))) pe_int))
      (pss_one (ps_ret (pe_lc (own := [("at", 3)]) (g := gName 3) (tt := tYes) (by rfl) sc_Clock_serving.nd  (pi_range2 (by rfl) T.n_range (pa_cons (pv 2) (pa_cons (pe_op op_add (pv 1) pe_int) pa_nil))) (blkOk_by (N := ["self", "hour", "first", "at"]) (sc := defScope s_Clock_serving) (by decide +kernel)) (fun _ _ _ _ _ => pg_name (i := 3) sc_Clock_serving.nd rfl (by first | exact Or.inl rfl | exact Or.inr rfl)) (fun _ _ _ _ _ => pts_nil) (fun _ _ _ _ _ => (pe_op op_mod (pv 3) (pe_prop (pv 0) T.C_Clock.cl T.p_Clock_hours (ok_Clock_hours T) (hr.mono (by decide)) T.Clock_hours.b .nil pass0 rfl)))))))), ?_⟩
    refine ⟨_, rfl, p, _, dx, _, .ref t, rfl, h1, T.C_Clock.cl, T.n_Clock__stays, rfl, t, _, rfl, .inr h2, _, rfl, _, i, rfl, h0, (by rw [iv_len]; exact hn), ?_⟩
    refine ⟨_, rfl, _, rfl, p, _, dx, _, .ref t, rfl, h1, T.C_Clock.cl, T.n_Clock__stays, rfl, _, rfl, t, ns, i, rfl, h2, hc.ok, i, _, rfl, rfl, _, _, rfl, rfl, ?_⟩
    refine ⟨_, rfl, _, rfl, i, _, rfl, rfl, i - Clk.wd ns i + 1, i + 1, rfl, ⟨by omega, by omega, by omega, by omega⟩, fun D nD => ?_⟩
    refine lc_mapR (lo := i - Clk.wd ns i + 1) (n := (i + 1 - (i - Clk.wd ns i + 1)).toNat) (fun k => .int ((i - Clk.wd ns i + 1 + (k : Int)) % (ns.length : Int))) nD (by omega) (fun k hk H' R sm k' => ?_) (fun H' sm hD => q D H' nD sm ?_)
    · refine ⟨_, rfl, .ref p, rfl, p, dx, _, rfl, sm _ _ h1, p, ns, rfl, hc.same sm, _, _, rfl, rfl, ?_⟩
      exact ⟨(by omega), k' _ (Same.refl _)⟩
    · rw [hD, show i + 1 - (i - (Clk.wd ns i : Int) + 1) = (Clk.wd ns i : Int) by omega]
      exact congrArg (fun z => some (HO.lst z)) (range_row _ fun k => (i - Clk.wd ns i + 1 + k) % (ns.length : Int))

def spGetitem (K : PySem.W.Frag) (C : Addr) : Sp := fun vs H Q _ => ∃ (p : Addr) (ns : List Int) (i : Int), vs = [.ref p, .int i] ∧ ClkAt K C H p ns ∧ 0 ≤ i ∧ i < ns.length ∧ Q (.int (Clk.S ns i)) H
theorem ok_Clock_getitem (T : Env K mg) : FnOk P w K mg base CX0 5 T.Clock_getitem.f T.Clock_getitem.fd ["self", "at"] (spGetitem K T.C_Clock.C) := by
  refine T.Clock_getitem.F.ok sc_Clock_getitem (fun vs H Q E h => ?_) (fun cdv A outer s H vs Q E hr h => ?_)
  · obtain ⟨p, ns, i, rfl, _⟩ := h
    rfl
  · obtain ⟨p, ns, i, rfl, hc, h0, hn, q⟩ := h
    obtain ⟨dx, t, h1, h2⟩ := hc.ex
    refine ⟨_, (pss_cons (ps_expr (pe_call (ok_check_hour T) (hr.mono (by decide)) (by rfl) T.check_hour.m T.check_hour.F.kp T.check_hour.b .nil pass0 (pa_cons (pe_callB (K_len (K := K) rfl) (by rfl) T.n_len PySem.boot_len (pa_cons (K_fld (K := K) rfl (pv 0) rfl) pa_nil)) (pa_cons (pv 1) pa_nil))))
      (pss_one (ps_ret (pe_ix (K_ixT (K := K) rfl) (K_fld (K := K) rfl (pv 0) rfl) (pv 1) (fun _ _ => rfl))))), ?_⟩
    refine ⟨_, rfl, p, _, dx, _, .ref t, rfl, h1, T.C_Clock.cl, T.n_Clock__stays, rfl, t, _, rfl, .inr h2, _, rfl, _, i, rfl, h0, (by rw [iv_len]; exact hn), ?_⟩
    exact ⟨_, rfl, p, _, dx, _, .ref t, rfl, h1, T.C_Clock.cl, T.n_Clock__stays, rfl, _, rfl, t, _, i, _, rfl, rfl, h2, at_hour h0 hn, q⟩

def spRows (K : PySem.W.Frag) (C : Addr) : Sp := fun vs H Q _ => ∃ (p : Addr) (ns : List Int), vs = [.ref p, .int ns.length] ∧ ClkAt K C H p ns ∧ ∀ H', Same H H' → Q (.bl true) H'
theorem ok_lrows_right (T : Env K mg) : FnOk P w K mg base CX0 7 T.lrows_right.f T.lrows_right.fd ["_law_clock_here", "_law_many"] (spRows K T.C_Clock.C) := by
  refine T.lrows_right.F.ok sc_lrows_right (fun vs H Q E h => ?_) (fun cdv A outer s H vs Q E hr h => ?_)
  · obtain ⟨p, ns, rfl, _⟩ := h
    rfl
  · obtain ⟨p, ns, rfl, hc0, q⟩ := h
    refine ⟨_, (pss_cons (ps_for PassesOwn.never rfl (pi_range1 (by rfl) T.n_range (pa_cons (pv 1) pa_nil)) (pg_name (i := 2) sc_lrows_right.nd rfl (by first | exact Or.inl rfl | exact Or.inr rfl))
      (pss_cons (ps_par (i := 4) (j := 5) (by rfl) sc_lrows_right.nd rfl rfl (by decide) rfl rfl (pa_cons (pe_meth (pv 0) T.C_Clock.cl T.m_Clock_served (ok_Clock_served T) (hr.mono (by decide)) T.Clock_served.b .nil pass0 (pa_cons (pv 2) pa_nil)) (pa_cons (pe_meth (pv 0) T.C_Clock.cl T.m_Clock_serving (ok_Clock_serving T) (hr.mono (by decide)) T.Clock_serving.b .nil pass0 (pa_cons (pv 2) pa_nil)) pa_nil)) (by rfl))
      (pss_cons (ps_if (pt_cmpR (K_neD (K := K) hr.units rfl) (pv 4) (pe_lc (own := [("_law_k", 6)]) (g := gName 6) (tt := tYes) (by rfl) sc_lrows_right.nd  (pi_range1 (by rfl) T.n_range (pa_cons (pe_own (pv 0) (pv 2) T.m_Clock_getitem (fnIn_of T.Clock_getitem.F) (ok_Clock_getitem T) (hr.mono (by decide)) T.Clock_getitem.b pass0) pa_nil)) (blkOk_by (N := ["_law_clock_here", "_law_many", "_law_hour", "_law_later", "_law_hours_of", "_law_holders", "_law_k"]) (sc := defScope s_lrows_right) (by decide +kernel)) (fun _ _ _ _ _ => pg_name (i := 6) sc_lrows_right.nd rfl (by first | exact Or.inl rfl | exact Or.inr rfl)) (fun _ _ _ _ _ => pts_nil) (fun _ _ _ _ _ => (pe_op op_mod (pe_callTy call_int1 (by rfl) T.n_int (by decide +kernel) (pa_cons (pe_op op_add (pv 2) (pv 6)) pa_nil)) (pv 1)))) (nomark _)) (pss_one (ps_ret pe_bl)) pss_nil)
      (pss_cons (ps_if (pt_cmpR (K_neD (K := K) hr.units rfl) (pv 5) (K_revL (K := K) rfl (pe_lc (own := [("_law_k", 6)]) (g := gName 6) (tt := tYes) (by rfl) sc_lrows_right.nd  (pi_range1 (by rfl) T.n_range (pa_cons (pe_ix (K_ixL (K := K) rfl) (pe_meth0 (pv 0) T.C_Clock.cl T.m_Clock_widths (ok_Clock_widths T) (hr.mono (by decide)) T.Clock_widths.b .nil pass0) (pv 2) (fun _ _ => rfl)) pa_nil)) (blkOk_by (N := ["_law_clock_here", "_law_many", "_law_hour", "_law_later", "_law_hours_of", "_law_holders", "_law_k"]) (sc := defScope s_lrows_right) (by decide +kernel)) (fun _ _ _ _ _ => pg_name (i := 6) sc_lrows_right.nd rfl (by first | exact Or.inl rfl | exact Or.inr rfl)) (fun _ _ _ _ _ => pts_nil) (fun _ _ _ _ _ => (pe_op op_mod (pe_callTy call_int1 (by rfl) T.n_int (by decide +kernel) (pa_cons (pe_op op_sub (pv 2) (pv 6)) pa_nil)) (pv 1))))) (nomark _)) (pss_one (ps_ret pe_bl)) pss_nil)
      (pss_cons (ps_set (i := 3) sc_lrows_right.nd rfl (by first | exact Or.inl rfl | exact Or.inr rfl) (pe_op op_mod (pe_callTy call_int1 (by rfl) T.n_int (by decide +kernel) (pa_cons (pe_op op_add (pv 2) pe_int) pa_nil)) (pv 1)))
      (pss_one (ps_if (PW.pt (pw_or (pt_cmpR op_gt (pe_ix (K_ixL (K := K) rfl) (pe_meth0 (pv 0) T.C_Clock.cl T.m_Clock_stays (ok_Clock_stays T) (hr.mono (by decide)) T.Clock_stays.b .nil pass0) (pv 2) (fun _ _ => rfl)) (pe_op op_add pe_int (pe_ix (K_ixL (K := K) rfl) (pe_meth0 (pv 0) T.C_Clock.cl T.m_Clock_stays (ok_Clock_stays T) (hr.mono (by decide)) T.Clock_stays.b .nil pass0) (pv 3) (fun _ _ => rfl))) (nomark _)) (pw_or1 (pt_cmpR op_gt (pe_ix (K_ixL (K := K) rfl) (pe_meth0 (pv 0) T.C_Clock.cl T.m_Clock_widths (ok_Clock_widths T) (hr.mono (by decide)) T.Clock_widths.b .nil pass0) (pv 3) (fun _ _ => rfl)) (pe_op op_add pe_int (pe_ix (K_ixL (K := K) rfl) (pe_meth0 (pv 0) T.C_Clock.cl T.m_Clock_widths (ok_Clock_widths T) (hr.mono (by decide)) T.Clock_widths.b .nil pass0) (pv 2) (fun _ _ => rfl))) (nomark _))))) (pss_one (ps_ret pe_bl)) pss_nil)))))))
      (pss_one (ps_ret pe_bl))), ?_⟩
    have hp := hc0.ok.pos
    have ht := hc0.ok.top
    refine ⟨.int ns.length, rfl, ns.length, rfl, by omega, by omega, ?_⟩
    refine for_range (n := (ns.length : Int).toNat) (fun i σ H' => ∃ x2 x3 x4 x5, σ = [some (.ref p), some (.int ns.length), x2, x3, x4, x5, none] ∧ Same H H') ⟨none, none, none, none, rfl, Same.refl H⟩ ?_ (fun σ H' ⟨_, _, _, _, _, sm⟩ => q H' sm)
    rintro i σ H' hi ⟨x2, x3, x4, x5, rfl, sm⟩
    rw [show (0 : Int) + (i : Int) = i by omega]
    have h0 : (0 : Int) ≤ i := by omega
    have hn : (i : Int) < ns.length := by omega
    have hc := hc0.same sm
    obtain ⟨dx, t, h1, h2⟩ := hc.ex
    -- served, serving
    refine ⟨.ref p, rfl, p, dx, _, rfl, h1, rfl, .int i, rfl, p, ns, i, rfl, hc, h0, hn, fun l1 H1 nl1 s1 e1 => ?_⟩
    refine ⟨.ref p, rfl, p, dx, _, rfl, s1 _ _ h1, rfl, .int i, rfl, p, ns, i, rfl, hc.same s1, h0, hn, fun l2 H2 nl2 s2 e2 => ⟨_, _, rfl, ?_⟩⟩
    have s12 := s1.trans s2
    have e1' := s2 _ _ e1
    -- the hours served
    have hlo := hc.ok.lo i
    have hhi := hc.ok.hi i
    refine ⟨.ref l1, rfl, .ref p, rfl, .int i, rfl, p, dx, _, rfl, s12 _ _ h1, p, ns, i, rfl, hc.same s12, h0, hn, Clk.S ns i, rfl, by omega, by omega, fun D nD => ?_⟩
    refine lc_mapR (n := (Clk.S ns i).toNat) (fun k => .int (((i : Int) + (k : Int)) % (ns.length : Int))) nD (by omega) (fun k hk H3 R sm3 kk => ?_) (fun H3 s3 hD => ?_)
    · refine ⟨.int i, rfl, _, rfl, _, _, rfl, rfl, .inl ⟨_, rfl, .int ns.length, rfl, _, _, rfl, rfl, (by show (0 : Int) < ns.length; omega), ?_⟩⟩
      rw [show (0 : Int) + (k : Int) = k by omega]
      exact kk _ (Same.refl _)
    · have eD : H3 D = some (.lst (iv (Clk.served ns i))) := by
        rw [hD]
        exact congrArg (fun z => some (HO.lst z)) (range_row _ fun k => ((i : Int) + k) % (ns.length : Int))
      refine ⟨_, _, Dp.ints (SqL.of (s3 _ _ e1')), Dp.ints (SqL.of eD), shaped_I _, shaped_I _, _, rfl, ?_⟩
      rw [ne_same (shaped_I _)]
      refine iteF ?_
      have s13 := s12.trans s3
      -- the hours of the window
      refine ⟨.ref l2, rfl, .ref p, rfl, p, dx, _, rfl, s13 _ _ h1, rfl, p, ns, rfl, hc.same s13, fun l4 H4 nl4 s4 e4 => ?_⟩
      have s14 := s13.trans s4
      have wle := Clk.wd_le ns i
      refine ⟨.int i, rfl, l4, _, i, _, rfl, rfl, SqL.of e4, at_width h0 hn, Clk.wd ns i, rfl, by omega, by omega, fun D5 nD5 => ?_⟩
      refine lc_mapR (n := (Clk.wd ns i : Int).toNat) (fun k => .int (((i : Int) - (k : Int)) % (ns.length : Int))) nD5 (by omega) (fun k hk H5 R sm5 kk => ?_) (fun H5 s5 hD5 => ?_)
      · refine ⟨.int i, rfl, _, rfl, _, _, rfl, rfl, .inl ⟨_, rfl, .int ns.length, rfl, _, _, rfl, rfl, (by show (0 : Int) < ns.length; omega), ?_⟩⟩
        rw [show (0 : Int) + (k : Int) = k by omega]
        exact kk _ (Same.refl _)
      · have eD5 : H5 D5 = some (.lst (iv (Clk.row (Clk.wd ns i) fun k => ((i : Int) - k) % (ns.length : Int)))) := by
          rw [hD5, Int.toNat_natCast]
          exact congrArg (fun z => some (HO.lst z)) (range_row _ fun k => ((i : Int) - k) % (ns.length : Int))
        refine ⟨D5, _, rfl, SqL.of eD5, fun r nr => ?_⟩
        have s6 := same_new (o := .lst (iv (Clk.row (Clk.wd ns i) fun k => ((i : Int) - k) % (ns.length : Int))).reverse) nr
        have er : upd H5 r (.lst (iv (Clk.row (Clk.wd ns i) fun k => ((i : Int) - k) % (ns.length : Int))).reverse) r = some (.lst (iv (Clk.serving ns i))) := by
          rw [upd_same]
          unfold iv
          rw [← List.map_reverse, Clk.serving_rev]
        generalize upd H5 r (.lst (iv (Clk.row (Clk.wd ns i) fun k => ((i : Int) - k) % (ns.length : Int))).reverse) = H6 at s6 er ⊢
        have s26 := ((s3.trans s4).trans s5).trans s6
        refine ⟨_, _, Dp.ints (SqL.of (s26 _ _ e2)), Dp.ints (SqL.of er), shaped_I _, shaped_I _, _, rfl, ?_⟩
        rw [ne_same (shaped_I _)]
        refine iteF ?_
        have s16 := s12.trans s26
        -- the next hour
        have m0 : 0 ≤ ((i : Int) + 1) % (ns.length : Int) := Int.emod_nonneg _ (by omega)
        have m1 : ((i : Int) + 1) % (ns.length : Int) < ns.length := Int.emod_lt_of_pos _ (by omega)
        refine ⟨.int i, rfl, _, _, rfl, rfl, .inl ⟨_, rfl, .int ns.length, rfl, _, _, rfl, rfl, (by show (0 : Int) < ns.length; omega), ?_⟩⟩
        refine ⟨.ref p, rfl, p, dx, _, rfl, s16 _ _ h1, rfl, p, ns, rfl, hc.same s16, fun l7 nl7 => ?_⟩
        have s17 := s16.trans (same_new (o := .lst (iv ns)) nl7)
        refine ⟨.int i, rfl, l7, _, i, _, rfl, rfl, SqL.of upd_same, at_hour h0 hn, ?_⟩
        refine ⟨.ref p, rfl, p, dx, _, rfl, s17 _ _ h1, rfl, p, ns, rfl, hc.same s17, fun l8 nl8 => ?_⟩
        have s18 := s17.trans (same_new (o := .lst (iv ns)) nl8)
        refine ⟨_, rfl, l8, _, _, _, rfl, rfl, SqL.of upd_same, at_hour m0 m1, _, _, rfl, rfl, _, _, rfl, rfl, _, rfl, ?_⟩
        have near := hc.ok.near i
        have eS : Clk.S ns (((i : Int) + 1) % (ns.length : Int)) = Clk.S ns ((i : Int) + 1) := Clk.S_mod (Int.emod_emod_of_dvd _ (Int.dvd_refl _))
        have eW : Clk.wd ns (((i : Int) + 1) % (ns.length : Int)) = Clk.wd ns ((i : Int) + 1) := Clk.wd_mod (Int.emod_emod_of_dvd _ (Int.dvd_refl _))
        refine dec_f (by omega) ?_
        refine ⟨.ref p, rfl, p, dx, _, rfl, s18 _ _ h1, rfl, p, ns, rfl, hc.same s18, fun l9 H9 nl9 s9 e9 => ?_⟩
        have s19 := s18.trans s9
        refine ⟨_, rfl, l9, _, _, _, rfl, rfl, SqL.of e9, at_width m0 m1, ?_⟩
        refine ⟨.ref p, rfl, p, dx, _, rfl, s19 _ _ h1, rfl, p, ns, rfl, hc.same s19, fun l10 H10 nl10 s10 e10 => ?_⟩
        refine ⟨.int i, rfl, l10, _, _, _, rfl, rfl, SqL.of e10, at_width h0 hn, _, _, rfl, rfl, _, _, rfl, rfl, _, rfl, ?_⟩
        have nw := Clk.wd_next hc.ok i
        refine dec_f (by omega) ?_
        exact ⟨_, _, _, _, rfl, sm.trans (s19.trans s10)⟩

def spLaw (K : PySem.W.Frag) : Sp := fun vs H Q _ => ∃ (a : Addr) (ns : List Int), vs = [.ref a] ∧ SqL K H a (ns.map V.int) ∧ ns.length ≤ 63 ∧ ∀ H', Q (.bl true) H'
theorem ok_law (T : Env K mg) : FnOk P w K mg base CX0 8 T.law.f T.law.fd ["_law_script"] (spLaw K) := by
  refine T.law.F.ok sc_law (fun vs H Q E h => ?_) (fun cdv A outer s H vs Q E hr h => ?_)
  · obtain ⟨a, ns, rfl, _⟩ := h
    rfl
  · obtain ⟨a, ns, rfl, hS, hl, q⟩ := h
    refine ⟨_, (pss_cons (ps_set (i := 1) sc_law.nd rfl (by first | exact Or.inl rfl | exact Or.inr rfl) (pe_call (ok_lbag T) (hr.mono (by decide)) (by rfl) T.lbag.m T.lbag.F.kp T.lbag.b .nil pass0 (pa_cons (pv 0) pa_nil)))
      (pss_cons (ps_for PassesOwn.never rfl (pi_range1 (by rfl) T.n_range (pa_cons pe_int pa_nil)) (pg_name (i := 2) sc_law.nd rfl (by first | exact Or.inl rfl | exact Or.inr rfl))
      (pss_cons (ps_set (i := 3) sc_law.nd rfl (by first | exact Or.inl rfl | exact Or.inr rfl) (pe_op op_add pe_int (pe_call (ok_ltake T) (hr.mono (by decide)) (by rfl) T.ltake.m T.ltake.F.kp T.ltake.b .nil pass0 (pa_cons (pv 1) (pa_cons (pe_ix (K_ixL (K := K) rfl) (pe_lst (pa_cons pe_int (pa_cons pe_int (pa_cons pe_int (pa_cons pe_int (pa_cons pe_int pa_nil)))))) (pv 2) (fun _ _ => rfl)) pa_nil)))))
      (pss_cons (ps_set (i := 4) sc_law.nd rfl (by first | exact Or.inl rfl | exact Or.inr rfl) (pe_call (ok_lstays T) (hr.mono (by decide)) (by rfl) T.lstays.m T.lstays.F.kp T.lstays.b .nil pass0 (pa_cons (pv 1) (pa_cons (pv 3) pa_nil))))
      (pss_cons (ps_set (i := 5) sc_law.nd rfl (by first | exact Or.inl rfl | exact Or.inr rfl) (pe_call (ok_lclock T) (hr.mono (by decide)) (by rfl) T.lclock.m T.lclock.F.kp T.lclock.b .nil pass0 (pa_cons (pv 1) (pa_cons (pv 4) pa_nil))))
      (pss_cons (ps_for PassesOwn.never rfl (K_pil (K := K) rfl (pe_call (ok_lmixed T) (hr.mono (by decide)) (by rfl) T.lmixed.m T.lmixed.F.kp T.lmixed.b .nil pass0 (pa_cons (pv 1) (pa_cons (pe_lst (pa_cons pe_int (pa_cons pe_int (pa_cons pe_int (pa_cons pe_int pa_nil))))) pa_nil)))) (pg_name (i := 6) sc_law.nd rfl (by first | exact Or.inl rfl | exact Or.inr rfl))
      (C8.pss_cut (ps_set (i := 12) sc_law.nd rfl (by first | exact Or.inl rfl | exact Or.inr rfl) (pe_ifExp (pt_cmpR op_eq (pv 6) pe_int (nomark _)) (pv 5) (pe_ifExp (pt_cmpR op_eq (pv 6) pe_int (nomark _)) (pe_meth0 (pv 5) T.C_Clock.cl T.m_Clock_mirrored (ok_Clock_mirrored T) (hr.mono (by decide)) T.Clock_mirrored.b .nil pass0) (pe_meth (pv 5) T.C_Clock.cl T.m_Clock_turned (ok_Clock_turned T) (hr.mono (by decide)) T.Clock_turned.b .nil pass0 (pa_cons (pe_call (ok_lfar T) (hr.mono (by decide)) (by rfl) T.lfar.m T.lfar.F.kp T.lfar.b .nil pass0 (pa_cons (pv 1) pa_nil)) pa_nil)))))
      (pss_one (ps_if (PW.pt (pw_or (pt_cmpR op_ne (pe_callB (K_sum (K := K) rfl rfl) (by rfl) T.n_sum (by decide +kernel) (pa_cons (pe_meth0 (pv 12) T.C_Clock.cl T.m_Clock_stays (ok_Clock_stays T) (hr.mono (by decide)) T.Clock_stays.b .nil pass0) pa_nil)) (pe_callB (K_sum (K := K) rfl rfl) (by rfl) T.n_sum (by decide +kernel) (pa_cons (pe_meth0 (pv 12) T.C_Clock.cl T.m_Clock_widths (ok_Clock_widths T) (hr.mono (by decide)) T.Clock_widths.b .nil pass0) pa_nil)) (nomark _)) (pw_or1 (pt_not (pt_val (pe_call (ok_lrows_right T) (hr.mono (by decide)) (by rfl) T.lrows_right.m T.lrows_right.F.kp T.lrows_right.b .nil pass0 (pa_cons (pv 12) (pa_cons (pv 3) pa_nil)))))))) (pss_one (ps_ret pe_bl)) pss_nil))))
      (pss_cons (ps_set (i := 7) sc_law.nd rfl (by first | exact Or.inl rfl | exact Or.inr rfl) (pe_lc (own := [("_law_hour", 11)]) (g := gName 11) (tt := tYes) (by rfl) sc_law.nd  (pi_range1 (by rfl) T.n_range (pa_cons (pv 3) pa_nil)) (blkOk_by (N := ["_law_script", "_law_bag_here", "_law_turn", "_law_many", "_law_stays_here", "_law_clock_here", "_law_way", "_law_hours_of", "_law_holders", "_law_table", "_law_glass", "_law_hour", "_law_one", "_law_turned", "_law_begin"]) (sc := defScope s_law) (by decide +kernel)) (fun _ _ _ _ _ => pg_name (i := 11) sc_law.nd rfl (by first | exact Or.inl rfl | exact Or.inr rfl)) (fun _ _ _ _ _ => pts_nil) (fun _ _ _ _ _ => (pe_meth (pv 5) T.C_Clock.cl T.m_Clock_served (ok_Clock_served T) (hr.mono (by decide)) T.Clock_served.b .nil pass0 (pa_cons (pv 11) pa_nil)))))
      (pss_cons (ps_set (i := 8) sc_law.nd rfl (by first | exact Or.inl rfl | exact Or.inr rfl) (pe_lc (own := [("_law_hour", 11)]) (g := gName 11) (tt := tYes) (by rfl) sc_law.nd  (pi_range1 (by rfl) T.n_range (pa_cons (pv 3) pa_nil)) (blkOk_by (N := ["_law_script", "_law_bag_here", "_law_turn", "_law_many", "_law_stays_here", "_law_clock_here", "_law_way", "_law_hours_of", "_law_holders", "_law_table", "_law_glass", "_law_hour", "_law_one", "_law_turned", "_law_begin"]) (sc := defScope s_law) (by decide +kernel)) (fun _ _ _ _ _ => pg_name (i := 11) sc_law.nd rfl (by first | exact Or.inl rfl | exact Or.inr rfl)) (fun _ _ _ _ _ => pts_nil) (fun _ _ _ _ _ => (pe_meth (pv 5) T.C_Clock.cl T.m_Clock_serving (ok_Clock_serving T) (hr.mono (by decide)) T.Clock_serving.b .nil pass0 (pa_cons (pv 11) pa_nil)))))
      (pss_cons (ps_setLc (i := 9) (own := [("_law_hour", 11)]) (g := gName 11) (tt := tYes) (by rfl) sc_law.nd rfl rfl (sw_true rfl rfl rfl (by decide +kernel)) (pi_range1 (by rfl) T.n_range (pa_cons (pv 3) pa_nil)) (blkOk_by (N := ["_law_script", "_law_bag_here", "_law_turn", "_law_many", "_law_stays_here", "_law_clock_here", "_law_way", "_law_hours_of", "_law_holders", "_law_table", "_law_glass", "_law_hour", "_law_one", "_law_turned", "_law_begin"]) (sc := defScope s_law) (by decide +kernel)) (fun _ _ _ _ _ => pg_name (i := 11) sc_law.nd rfl (by first | exact Or.inl rfl | exact Or.inr rfl)) (fun _ _ _ _ _ => pts_nil) (fun _ _ _ _ _ => (pe_lc (own := [("_law_begin", 14)]) (g := gName 14) (tt := tYes) (by rfl) sc_law.nd  (pi_range1 (by rfl) T.n_range (pa_cons (pv 3) pa_nil)) (blkOk_by (N := ["_law_script", "_law_bag_here", "_law_turn", "_law_many", "_law_stays_here", "_law_clock_here", "_law_way", "_law_hours_of", "_law_holders", "_law_table", "_law_glass", "_law_hour", "_law_one", "_law_turned", "_law_begin"]) (sc := relS _ (defScope s_law)) (by decide +kernel)) (fun _ _ _ _ _ => pg_name (i := 14) sc_law.nd rfl (by first | exact Or.inl rfl | exact Or.inr rfl)) (fun _ _ _ _ _ => pts_nil) (fun _ _ _ _ _ => (pe_cmpR (K_in (K := K) rfl) (pv 11) (pe_ix (K_ixL (K := K) rfl) (pv 7) (pv 14) (fun _ _ => rfl)) rfl)))))
      (pss_cons (ps_if (pt_cmpR (K_neD (K := K) hr.units rfl) (pv 9) (pe_lc (own := [("_law_hour", 11)]) (g := gName 11) (tt := tYes) (by rfl) sc_law.nd  (pi_range1 (by rfl) T.n_range (pa_cons (pv 3) pa_nil)) (blkOk_by (N := ["_law_script", "_law_bag_here", "_law_turn", "_law_many", "_law_stays_here", "_law_clock_here", "_law_way", "_law_hours_of", "_law_holders", "_law_table", "_law_glass", "_law_hour", "_law_one", "_law_turned", "_law_begin"]) (sc := defScope s_law) (by decide +kernel)) (fun _ _ _ _ _ => pg_name (i := 11) sc_law.nd rfl (by first | exact Or.inl rfl | exact Or.inr rfl)) (fun _ _ _ _ _ => pts_nil) (fun _ _ _ _ _ => (pe_lc (own := [("_law_begin", 14)]) (g := gName 14) (tt := tYes) (by rfl) sc_law.nd  (pi_range1 (by rfl) T.n_range (pa_cons (pv 3) pa_nil)) (blkOk_by (N := ["_law_script", "_law_bag_here", "_law_turn", "_law_many", "_law_stays_here", "_law_clock_here", "_law_way", "_law_hours_of", "_law_holders", "_law_table", "_law_glass", "_law_hour", "_law_one", "_law_turned", "_law_begin"]) (sc := relS _ (defScope s_law)) (by decide +kernel)) (fun _ _ _ _ _ => pg_name (i := 14) sc_law.nd rfl (by first | exact Or.inl rfl | exact Or.inr rfl)) (fun _ _ _ _ _ => pts_nil) (fun _ _ _ _ _ => (pe_cmpR (K_in (K := K) rfl) (pv 14) (pe_ix (K_ixL (K := K) rfl) (pv 8) (pv 11) (fun _ _ => rfl)) rfl))))) (nomark _)) (pss_one (ps_ret pe_bl)) pss_nil)
      (pss_cons (ps_set (i := 10) sc_law.nd rfl (by first | exact Or.inl rfl | exact Or.inr rfl) (pe_meth0 (pv 5) T.C_Clock.cl T.m_Clock_mirrored (ok_Clock_mirrored T) (hr.mono (by decide)) T.Clock_mirrored.b .nil pass0))
      (pss_one (ps_for PassesOwn.never rfl (pi_range1 (by rfl) T.n_range (pa_cons (pv 3) pa_nil)) (pg_name (i := 11) sc_law.nd rfl (by first | exact Or.inl rfl | exact Or.inr rfl))
      (pss_cons (ps_set (i := 13) sc_law.nd rfl (by first | exact Or.inl rfl | exact Or.inr rfl) (K_revL (K := K) rfl (pe_lc (own := [("_law_one", 12)]) (g := gName 12) (tt := tYes) (by rfl) sc_law.nd  (K_pil (K := K) rfl (pe_ix (K_ixL (K := K) rfl) (pv 8) (pv 11) (fun _ _ => rfl))) (blkOk_by (N := ["_law_script", "_law_bag_here", "_law_turn", "_law_many", "_law_stays_here", "_law_clock_here", "_law_way", "_law_hours_of", "_law_holders", "_law_table", "_law_glass", "_law_hour", "_law_one", "_law_turned", "_law_begin"]) (sc := defScope s_law) (by decide +kernel)) (fun _ _ _ _ _ => pg_name (i := 12) sc_law.nd rfl (by first | exact Or.inl rfl | exact Or.inr rfl)) (fun _ _ _ _ _ => pts_nil) (fun _ _ _ _ _ => (pe_op op_sub (pe_op op_sub (pv 3) pe_int) (pv 12))))))
      (pss_cons (ps_if (pt_cmpR (K_neD (K := K) hr.units rfl) (pe_meth (pv 10) T.C_Clock.cl T.m_Clock_served (ok_Clock_served T) (hr.mono (by decide)) T.Clock_served.b .nil pass0 (pa_cons (pe_op op_sub (pe_op op_sub (pv 3) pe_int) (pv 11)) pa_nil)) (pv 13) (nomark _)) (pss_one (ps_ret pe_bl)) pss_nil)
      (pss_one (ps_if (pt_cmpR (K_neD (K := K) hr.units rfl) (pe_meth (pv 10) T.C_Clock.cl T.m_Clock_serving (ok_Clock_serving T) (hr.mono (by decide)) T.Clock_serving.b .nil pass0 (pa_cons (pe_op op_sub (pe_op op_sub (pv 3) pe_int) (pv 11)) pa_nil)) (K_revL (K := K) rfl (pe_lc (own := [("_law_one", 12)]) (g := gName 12) (tt := tYes) (by rfl) sc_law.nd  (K_pil (K := K) rfl (pe_ix (K_ixL (K := K) rfl) (pv 7) (pv 11) (fun _ _ => rfl))) (blkOk_by (N := ["_law_script", "_law_bag_here", "_law_turn", "_law_many", "_law_stays_here", "_law_clock_here", "_law_way", "_law_hours_of", "_law_holders", "_law_table", "_law_glass", "_law_hour", "_law_one", "_law_turned", "_law_begin"]) (sc := defScope s_law) (by decide +kernel)) (fun _ _ _ _ _ => pg_name (i := 12) sc_law.nd rfl (by first | exact Or.inl rfl | exact Or.inr rfl)) (fun _ _ _ _ _ => pts_nil) (fun _ _ _ _ _ => (pe_op op_sub (pe_op op_sub (pv 3) pe_int) (pv 12))))) (nomark _)) (pss_one (ps_ret pe_bl)) pss_nil))))))))))))))))
      (pss_one (ps_ret pe_bl)))), ?_⟩
    refine ⟨.ref a, rfl, a, ns, rfl, hS, hl, fun b H1 nb s1 hb1 => ?_⟩
    refine ⟨5, rfl, by decide, by decide, ?_⟩
    refine for_range (n := 5) (fun i σ H' => ∃ x2 x3 x4 x5 x6 x7 x8 x9 x10 x11 x12 x13, σ = [some (.ref a), some (.ref b), x2, x3, x4, x5, x6, x7, x8, x9, x10, x11, x12, x13, none] ∧ Bag H' b)
      ⟨none, none, none, none, none, none, none, none, none, none, none, none, rfl, hb1⟩ ?_ (fun σ H' _ => q H')
    rintro t σ H2 ht ⟨x2, x3, x4, x5, x6, x7, x8, x9, x10, x11, x12, x13, rfl, hb⟩
    -- how many hours
    refine ⟨.ref b, rfl, by show 5 ≤ sizeLine; decide, fun p np => ?_⟩
    obtain ⟨m, hm, m1, m48⟩ : ∃ m : Int, atI [V.int 24, V.int 9, V.int 6, V.int 3, V.int 48] (0 + (t : Int)) = some (.int m) ∧ 1 ≤ m ∧ m ≤ 48 := by
      have w : t = 0 ∨ t = 1 ∨ t = 2 ∨ t = 3 ∨ t = 4 := by omega
      rcases w with rfl | rfl | rfl | rfl | rfl
      · exact ⟨24, rfl, by decide, by decide⟩
      · exact ⟨9, rfl, by decide, by decide⟩
      · exact ⟨6, rfl, by decide, by decide⟩
      · exact ⟨3, rfl, by decide, by decide⟩
      · exact ⟨48, rfl, by decide, by decide⟩
    have hbp := hb.same (same_new (o := .lst [V.int 24, V.int 9, V.int 6, V.int 3, V.int 48]) np)
    refine ⟨.int (0 + (t : Int)), rfl, p, _, _, .int m, rfl, rfl, SqL.of upd_same, hm, b, m, rfl, hbp, m1, by omega, fun H3 v d3 v0 v1 => ⟨_, _, rfl, rfl, ?_⟩⟩
    obtain ⟨n', hn'⟩ := Int.eq_ofNat_of_zero_le (show 0 ≤ 1 + v by omega)
    have n0 : 0 < n' := by omega
    have n48 : n' ≤ 48 := by omega
    dsimp only
    rw [hn']
    -- the stays
    refine ⟨.ref b, rfl, .int n', rfl, b, n', rfl, d3.bag, n0, n48, fun H4 l4 ns4 nl4 d4 e4 hlen hv => ?_⟩
    have nb4 : l4 ≠ b := d3.bag.ne nl4
    -- the clock
    refine ⟨.ref b, rfl, .ref l4, rfl, b, l4, ns4, rfl, d4.bag, SqL.of e4, nb4, hv, fun H5 c nc d5 hC => ?_⟩
    subst hlen
    have np6 : ∀ p6 : Addr, H5 p6 = none → Bag (upd H5 p6 (.lst [.int 0, .int 1, .int 2, .int 0])) b := fun p6 h => d5.bag.same (same_new h)
    refine ⟨.ref b, rfl, by show 4 ≤ sizeLine; decide, fun p6 n6 => ?_⟩
    have hC6 := hC.same (same_new (o := .lst [.int 0, .int 1, .int 2, .int 0]) n6)
    refine ⟨b, p6, _, rfl, np6 p6 n6, SqL.of upd_same, d5.bag.ne n6, by show 4 ≤ 1000; decide, fun H7 l7 ys nl7 d7 e7 hperm => ?_⟩
    have hC7 := hC6.drew (np6 p6 n6) d7
    have nb7 : l7 ≠ b := (np6 p6 n6).ne nl7
    refine ⟨l7, rfl, ⟨_, SqL.of e7⟩, for_list (K := K) (a := l7) (xs := ys) (fun i σ H' => ∃ x6 x12, σ = [some (.ref a), some (.ref b), some (.int (0 + (t : Int))), some (.int (ns4.length : Nat)), some (.ref l4), some (.ref c), x6, x7, x8, x9, x10, x11, x12, x13, none] ∧ Drew b H7 H')
      ⟨x6, x12, rfl, Drew.refl d7.bag⟩ (fun i σ H' _ ⟨_, _, _, d⟩ => d.but.seq nb7 (SqL.of e7)) ?_ ?_⟩
    · rintro i y σ H' hy ⟨y6, y12, rfl, d8⟩
      have hC8 := hC7.drew d7.bag d8
      obtain ⟨dx, tp, h1, h2⟩ := hC8.ex
      refine ⟨fun σ' H'' => ∃ r ms y6, σ' = [some (.ref a), some (.ref b), some (.int (0 + (t : Int))), some (.int (ns4.length : Nat)), some (.ref l4), some (.ref c), y6, x7, x8, x9, x10, x11, some (.ref r), x13, none] ∧ Drew b H7 H'' ∧ ClkAt K T.C_Clock.C H'' r ms ∧ ms.length = ns4.length, ?_, ?_⟩
      · have hm : y ∈ [V.int 0, V.int 1, V.int 2, V.int 0] := hperm.mem_iff.mp (List.mem_of_getElem? hy)
        have w : y = .int 0 ∨ y = .int 1 ∨ y = .int 2 := by
          simp only [List.mem_cons, List.not_mem_nil, or_false] at hm
          rcases hm with rfl | rfl | rfl | rfl
          · exact .inl rfl
          · exact .inr (.inl rfl)
          · exact .inr (.inr rfl)
          · exact .inl rfl
        rcases w with rfl | rfl | rfl
        · refine ⟨.int 0, rfl, rfl, _, rfl, dec_t rfl ?_⟩
          exact ⟨.ref c, rfl, c, ns4, _, rfl, d8, hC8, rfl⟩
        · refine ⟨.int 1, rfl, rfl, _, rfl, dec_f (by decide) ⟨.int 1, rfl, rfl, _, rfl, dec_t rfl ?_⟩⟩
          refine ⟨.ref c, rfl, c, dx, _, rfl, h1, rfl, c, ns4, rfl, hC8, fun r H9 nr sm hR => ?_⟩
          exact ⟨r, _, _, rfl, d8.same sm, hR, Clk.mir_len _⟩
        · refine ⟨.int 2, rfl, rfl, _, rfl, dec_f (by decide) ⟨.int 2, rfl, rfl, _, rfl, dec_f (by decide) ?_⟩⟩
          refine ⟨.ref c, rfl, c, dx, _, rfl, h1, rfl, .ref b, rfl, b, rfl, d8.bag, fun H9 v9 d9 => ?_⟩
          refine ⟨c, ns4, v9, rfl, hC8.drew d8.bag d9, fun r H10 nr sm hR => ?_⟩
          exact ⟨r, _, _, rfl, (d8.trans d9).same sm, hR, Clk.trn_len _ _⟩
      · rintro σ' H9 ⟨r, ms, y6', rfl, d9, hR, hml⟩
        obtain ⟨dr, tr, g1, g2⟩ := hR.ex
        refine ⟨.ref r, rfl, r, dr, _, rfl, g1, rfl, r, ms, rfl, hR, fun l10 n10 => ⟨l10, ms, rfl, SqL.of upd_same, ?_⟩⟩
        have s10 := same_new (o := .lst (iv ms)) n10
        refine ⟨.ref r, rfl, r, dr, _, rfl, s10 _ _ g1, rfl, r, ms, rfl, hR.same s10, fun l11 H11 n11 s11 e11 => ⟨l11, _, rfl, SqL.of e11, rfl, _, rfl, ?_⟩⟩
        rw [Clk.sum_widths hR.ok, decide_eq_true rfl]
        refine iteF ?_
        have s12 := s10.trans s11
        refine ⟨.ref r, rfl, _, rfl, r, ms, by rw [hml]; rfl, hR.same s12, fun H12 s13 => ⟨true, rfl, iteF ?_⟩⟩
        exact ⟨_, _, rfl, d9.same (s12.trans s13)⟩
    · rintro σ H8 ⟨y6, y12, rfl, d8⟩
      have hC8 := hC7.drew d7.bag d8
      have hp := hC8.ok.pos
      have ht48 := hC8.ok.top
      have hb8 := d8.bag
      clear d8 d7 hC7
      -- the hours served, those of the windows
      refine ⟨_, rfl, (ns4.length : Nat), rfl, by omega, by omega, fun D7 nD7 => ?_⟩
      refine lc_newR (n := ((ns4.length : Nat) : Int).toNat) (fun k => .lst (iv (Clk.served ns4 (k : Int)))) nD7 (by omega) (fun k hk H' R sm kk => ?_) (fun H9 as7 s9 eD7 l7' e7' => ?_)
      · rw [show (0 : Int) + (k : Int) = k by omega]
        obtain ⟨dx, tp, h1, h2⟩ := hC8.ex
        exact ⟨.ref c, rfl, c, dx, _, rfl, sm _ _ h1, rfl, _, rfl, c, ns4, k, rfl, hC8.same sm, by omega, by omega, fun l H' nl s' hl => kk H' l s' nl hl⟩
      have hC9 := hC8.same s9
      refine ⟨_, rfl, (ns4.length : Nat), rfl, by omega, by omega, fun D8 nD8 => ?_⟩
      refine lc_newR (n := ((ns4.length : Nat) : Int).toNat) (fun k => .lst (iv (Clk.serving ns4 (k : Int)))) nD8 (by omega) (fun k hk H' R sm kk => ?_) (fun H10 as8 s10 eD8 l8' e8' => ?_)
      · rw [show (0 : Int) + (k : Int) = k by omega]
        obtain ⟨dx, tp, h1, h2⟩ := hC9.ex
        exact ⟨.ref c, rfl, c, dx, _, rfl, sm _ _ h1, rfl, _, rfl, c, ns4, k, rfl, hC9.same sm, by omega, by omega, fun l H' nl s' hl => kk H' l s' nl hl⟩
      have hC10 := hC9.same s10
      rw [Int.toNat_natCast] at l7' l8'
      -- the table
      have key : ∀ h b : Nat, h < ns4.length → b < ns4.length → decide ((h : Int) ∈ Clk.served ns4 (b : Int)) = decide ((b : Int) ∈ Clk.serving ns4 (h : Int)) := fun h b hh hb => by
        have z := Clk.served_serving hC8.ok (b := b) (h := h) (by omega) (by omega) (by omega) (by omega)
        by_cases y : (h : Int) ∈ Clk.served ns4 (b : Int)
        · rw [decide_eq_true y, decide_eq_true (z.mp y)]
        · rw [decide_eq_false y, decide_eq_false fun w => y (z.mpr w)]
      refine ⟨_, rfl, (ns4.length : Nat), rfl, by omega, by omega, fun D9 nD9 => ?_⟩
      refine lc_newR (n := ((ns4.length : Nat) : Int).toNat) (fun h : Nat => .lst ((List.range ns4.length).map fun b : Nat => .bl (decide ((h : Int) ∈ Clk.served ns4 (b : Int))))) nD9 (by omega) (fun h hh H' R sm kk => ?_) (fun H11 as9 s11 eD9 l9' e9' => ?_)
      · rw [show (0 : Int) + (h : Int) = h by omega]
        refine ⟨_, rfl, (ns4.length : Nat), rfl, by omega, by omega, fun D nD => ?_⟩
        refine lc_mapR (n := ((ns4.length : Nat) : Int).toNat) (fun b : Nat => .bl (decide ((h : Int) ∈ Clk.served ns4 (b : Int)))) nD (by omega) (fun b' hb' H2' R2 sm2 kk2 => ?_) (fun H2' sm2 hD2 => ?_)
        · rw [Int.toNat_natCast] at hb'
          rw [show (0 : Int) + (b' : Int) = b' by omega]
          have s' := (s10.trans sm).trans sm2
          refine ⟨.int h, rfl, .ref D7, rfl, .int b', rfl, D7, _, b', .ref (as7[b']'(by omega)), rfl, rfl, SqL.of (s' _ _ eD7), at_refs (by omega), ?_⟩
          refine ⟨as7[b']'(by omega), iv (Clk.served ns4 b'), rfl, .inl (SqL.of (s' _ _ (e7' b' (by omega)))), rfl, flat_iv _, ?_⟩
          show R2 (.bl (inV (.int h) (iv (Clk.served ns4 b')))) H2'
          rw [inV_int]
          exact kk2 _ (Same.refl _)
        · rw [Int.toNat_natCast] at hD2
          exact kk H2' D sm2 nD hD2
      rw [Int.toNat_natCast] at l9'
      have T9 : Dp K H11 (.ref D9) (dT ns4.length fun (h b : Nat) => decide ((h : Int) ∈ Clk.served ns4 (b : Int))) := dp_T eD9 l9' e9'
      have hC11 := hC10.same s11
      refine ⟨.ref D9, rfl, _, rfl, (ns4.length : Nat), rfl, by omega, by omega, fun D10 nD10 => ?_⟩
      refine lc_newR (n := ((ns4.length : Nat) : Int).toNat) (fun h : Nat => .lst ((List.range ns4.length).map fun b : Nat => .bl (decide ((b : Int) ∈ Clk.serving ns4 (h : Int))))) nD10 (by omega) (fun h hh H' R sm kk => ?_) (fun H12 as10 s12 eD10 l10' e10' => ?_)
      · rw [Int.toNat_natCast] at hh
        rw [show (0 : Int) + (h : Int) = h by omega]
        refine ⟨_, rfl, (ns4.length : Nat), rfl, by omega, by omega, fun D nD => ?_⟩
        refine lc_mapR (n := ((ns4.length : Nat) : Int).toNat) (fun b : Nat => .bl (decide ((b : Int) ∈ Clk.serving ns4 (h : Int)))) nD (by omega) (fun b' hb' H2' R2 sm2 kk2 => ?_) (fun H2' sm2 hD2 => ?_)
        · rw [Int.toNat_natCast] at hb'
          rw [show (0 : Int) + (b' : Int) = b' by omega]
          have s' := (s11.trans sm).trans sm2
          refine ⟨.int b', rfl, .ref D8, rfl, .int h, rfl, D8, _, h, .ref (as8[h]'(by omega)), rfl, rfl, SqL.of (s' _ _ eD8), at_refs (by omega), ?_⟩
          refine ⟨as8[h]'(by omega), iv (Clk.serving ns4 h), rfl, .inl (SqL.of (s' _ _ (e8' h (by omega)))), rfl, flat_iv _, ?_⟩
          show R2 (.bl (inV (.int b') (iv (Clk.serving ns4 h)))) H2'
          rw [inV_int]
          exact kk2 _ (Same.refl _)
        · rw [Int.toNat_natCast] at hD2
          exact kk H2' D sm2 nD hD2
      rw [Int.toNat_natCast] at l10'
      have T10 : Dp K H12 (.ref D10) (dT ns4.length fun (h b : Nat) => decide ((h : Int) ∈ Clk.served ns4 (b : Int))) := by
        refine dp_T eD10 l10' fun k hk => ?_
        rw [e10' k hk]
        refine congrArg (fun z => some (HO.lst z)) (List.map_congr_left fun b' hb' => ?_)
        rw [key k b' (by omega) (List.mem_range.mp hb')]
      have T9' : Dp K H12 (.ref D9) (dT ns4.length fun (h b : Nat) => decide ((h : Int) ∈ Clk.served ns4 (b : Int))) := dp_T (s12 _ _ eD9) l9' fun k hk => s12 _ _ (e9' k hk)
      refine ⟨_, _, T9', T10, shaped_T _ _, shaped_T _ _, _, rfl, ?_⟩
      rw [ne_same (shaped_T _ _)]
      refine iteF ?_
      -- the clock the other way
      have hC12 := hC11.same s12
      obtain ⟨dx, tp, h1, h2⟩ := hC12.ex
      refine ⟨.ref c, rfl, c, dx, _, rfl, h1, rfl, c, ns4, rfl, hC12, fun g H13 ng s13 hG => ?_⟩
      have sAll : ∀ {H' : Hp}, Same H13 H' → Same H10 H' := fun s => ((s11.trans s12).trans s13).trans s
      have hb13 : Bag H13 b := hb8.same ((((s9.trans s10).trans s11).trans s12).trans s13)
      refine ⟨_, rfl, (ns4.length : Nat), rfl, by omega, by omega, ?_⟩
      refine for_range (n := ((ns4.length : Nat) : Int).toNat) (fun i σ H' => ∃ y11 y13, σ = [some (.ref a), some (.ref b), some (.int (0 + (t : Int))), some (.int (ns4.length : Nat)), some (.ref l4), some (.ref c), y6, some (.ref D7), some (.ref D8), some (.ref D9), some (.ref g), y11, y12, y13, none] ∧ Same H13 H')
        ⟨_, _, rfl, Same.refl _⟩ ?_ (fun σ H' ⟨_, _, e, sm⟩ => ⟨_, _, _, _, _, _, _, _, _, _, _, _, e, hb13.same sm⟩)
      rintro h σ H14 hh ⟨y11, y13, rfl, s14⟩
      rw [Int.toNat_natCast] at hh
      rw [show (0 : Int) + (h : Int) = h by omega]
      have hn1 : (0 : Int) ≤ (ns4.length : Nat) - 1 - (h : Int) := by omega
      have hn2 : ((ns4.length : Nat) : Int) - 1 - (h : Int) < (Clk.mir ns4).length := by
        rw [Clk.mir_len]
        omega
      have g8 := sAll s14 _ _ eD8
      have g8' := sAll s14 _ _ (e8' h (by omega))
      refine ⟨.ref D8, rfl, .int h, rfl, D8, _, h, .ref (as8[h]'(by omega)), rfl, rfl, SqL.of g8, at_refs (by omega), _, rfl, ⟨_, SqL.of g8'⟩, fun D nD => ?_⟩
      refine lc_mapL (K := K) (xs := iv (Clk.serving ns4 h)) (fun i => .int ((fun x => ((ns4.length : Nat) : Int) - 1 - x) ((Clk.serving ns4 h).getD i 0))) (SqL.of g8') nD (by rw [iv_len, Clk.serving_len]; have := Clk.wd_le ns4 h; omega) (fun i hi H' R sm kk => ?_) (fun H15 s15 eD => ?_)
      · rw [getD_iv hi]
        exact ⟨_, rfl, _, _, rfl, rfl, _, rfl, _, _, rfl, rfl, kk _ (Same.refl _)⟩
      rw [map_iv] at eD
      refine ⟨D, _, rfl, SqL.of eD, fun r nr => ?_⟩
      have s16 := same_new (o := .lst (iv ((Clk.serving ns4 h).map fun x => ((ns4.length : Nat) : Int) - 1 - x)).reverse) nr
      have er : upd H15 r (.lst (iv ((Clk.serving ns4 h).map fun x => ((ns4.length : Nat) : Int) - 1 - x)).reverse) r = some (.lst (iv (Clk.served (Clk.mir ns4) (((ns4.length : Nat) : Int) - 1 - h)))) := by
        rw [upd_same, Clk.served_mir hC8.ok]
        unfold iv
        rw [← List.map_reverse]
      generalize upd H15 r (.lst (iv ((Clk.serving ns4 h).map fun x => ((ns4.length : Nat) : Int) - 1 - x)).reverse) = H16 at s16 er ⊢
      have sg := (s14.trans s15).trans s16
      obtain ⟨dg, tg, k1, k2⟩ := (hG.same sg).ex
      refine ⟨.ref g, rfl, g, dg, _, rfl, k1, rfl, _, rfl, _, _, rfl, rfl, .int h, rfl, _, _, rfl, rfl, g, Clk.mir ns4, _, rfl, hG.same sg, hn1, hn2, fun l17 H17 n17 s17 e17 => ?_⟩
      refine ⟨.ref r, rfl, _, _, Dp.ints (SqL.of e17), Dp.ints (SqL.of (s17 _ _ er)), shaped_I _, shaped_I _, _, rfl, ?_⟩
      rw [ne_same (shaped_I _)]
      refine iteF ?_
      have sg2 := sg.trans s17
      refine ⟨.ref g, rfl, g, dg, _, rfl, s17 _ _ k1, rfl, _, rfl, _, _, rfl, rfl, .int h, rfl, _, _, rfl, rfl, g, Clk.mir ns4, _, rfl, hG.same sg2, hn1, hn2, fun l18 H18 n18 s18 e18 => ?_⟩
      have sg3 := sg2.trans s18
      have g7 := sAll sg3 _ _ (s10 _ _ eD7)
      have g7' := sAll sg3 _ _ (s10 _ _ (e7' h (by omega)))
      have sl := Clk.served_len hC8.ok h
      have sh := hC8.ok.hi h
      refine ⟨.ref D7, rfl, .int h, rfl, D7, _, h, .ref (as7[h]'(by omega)), rfl, rfl, SqL.of g7, at_refs (by omega), _, rfl, ⟨_, SqL.of g7'⟩, fun D' nD' => ?_⟩
      refine lc_mapL (K := K) (xs := iv (Clk.served ns4 h)) (fun i => .int ((fun x => ((ns4.length : Nat) : Int) - 1 - x) ((Clk.served ns4 h).getD i 0))) (SqL.of g7') nD' (by rw [iv_len]; omega) (fun i hi H' R sm kk => ?_) (fun H19 s19 eD' => ?_)
      · rw [getD_iv hi]
        exact ⟨_, rfl, _, _, rfl, rfl, _, rfl, _, _, rfl, rfl, kk _ (Same.refl _)⟩
      rw [map_iv] at eD'
      refine ⟨D', _, rfl, SqL.of eD', fun r' nr' => ?_⟩
      have s20 := same_new (o := .lst (iv ((Clk.served ns4 h).map fun x => ((ns4.length : Nat) : Int) - 1 - x)).reverse) nr'
      have er' : upd H19 r' (.lst (iv ((Clk.served ns4 h).map fun x => ((ns4.length : Nat) : Int) - 1 - x)).reverse) r' = some (.lst (iv (Clk.serving (Clk.mir ns4) (((ns4.length : Nat) : Int) - 1 - h)))) := by
        rw [upd_same, Clk.serving_mir hC8.ok]
        unfold iv
        rw [← List.map_reverse]
      generalize upd H19 r' (.lst (iv ((Clk.served ns4 h).map fun x => ((ns4.length : Nat) : Int) - 1 - x)).reverse) = H20 at s20 er' ⊢
      refine ⟨_, _, Dp.ints (SqL.of (s20 _ _ (s19 _ _ e18))), Dp.ints (SqL.of er'), shaped_I _, shaped_I _, _, rfl, ?_⟩
      rw [ne_same (shaped_I _)]
      refine iteF ?_
      exact ⟨_, _, rfl, (sg3.trans s19).trans s20⟩

end
end Hn
namespace Hn
open PySem L2
theorem all_mk {l : PySem.W.OpenLaw} {w : World} {K : PySem.W.Frag} {h : Heap} {mg : Str → Option Value} {fa C_Clock f_lbag f_ltake f_lstays f_is_row f_is_integer f_is_from_one f_are_stays f_check_nobody_overtaken f_Clock_init f_lclock f_lmixed f_Clock_hours p_Clock_hours f_width f_Clock_widths f_Clock_mirrored f_turned_row f_Clock_turned f_lfar f_Clock_stays f_is_count f_is_hour f_check_hour f_Clock_served f_Clock_serving f_Clock_getitem f_lrows_right f_law : Addr} (X : K.In h) (G : h.Ns mainGlobals mg) (hfa : mg "law" = some (.ref fa))
    {od0 an0 od1 an1 od2 an2 od3 an3 od4 an4 od5 an5 od6 an6 od7 an7 od8 an8 od9 an9 od10 an10 od11 an11 od12 an12 od13 an13 od14 an14 od15 an15 od16 an16 od17 an17 od18 an18 od19 an19 od20 an20 od21 an21 od22 an22 od23 an23 od24 an24 od25 an25 od26 an26 : Option Addr} {sl0 sl1 sl2 sl3 sl4 sl5 sl6 sl7 sl8 sl9 sl10 sl11 sl12 sl13 sl14 sl15 sl16 sl17 sl18 sl19 sl20 sl21 sl22 sl23 sl24 sl25 sl26 : Array (Option Value)} {oc0 kV0 dc0 pm0 cd0 ct0 oc1 kV1 dc1 pm1 cd1 ct1 oc2 kV2 dc2 pm2 cd2 ct2 oc3 kV3 dc3 pm3 cd3 ct3 oc4 kV4 dc4 pm4 cd4 ct4 oc5 kV5 dc5 pm5 cd5 ct5 oc6 kV6 dc6 pm6 cd6 ct6 oc7 kV7 dc7 pm7 cd7 ct7 oc8 kV8 dc8 pm8 cd8 ct8 oc9 kV9 dc9 pm9 cd9 ct9 oc10 kV10 dc10 pm10 cd10 ct10 oc11 kV11 dc11 pm11 cd11 ct11 oc12 kV12 dc12 pm12 cd12 ct12 oc13 kV13 dc13 pm13 cd13 ct13 oc14 kV14 dc14 pm14 cd14 ct14 oc15 kV15 dc15 pm15 cd15 ct15 oc16 kV16 dc16 pm16 cd16 ct16 oc17 kV17 dc17 pm17 cd17 ct17 oc18 kV18 dc18 pm18 cd18 ct18 oc19 kV19 dc19 pm19 cd19 ct19 oc20 kV20 dc20 pm20 cd20 ct20 oc21 kV21 dc21 pm21 cd21 ct21 oc22 kV22 dc22 pm22 cd22 ct22 oc23 kV23 dc23 pm23 cd23 ct23 oc24 kV24 dc24 pm24 cd24 ct24 oc25 kV25 dc25 pm25 cd25 ct25 oc26 kV26 dc26 pm26 cd26 ct26 : Value}
    (g_Clock : PySem.W.nsIn K mainGlobals "Clock" = some (some (.ref C_Clock)))
    (pg_Clock : PySem.W.plainGet K C_Clock Str.empty = true)
    (hd_Clock : PySem.W.hasDictIn K C_Clock = true)
    (po_Clock : PySem.W.plainOver K C_Clock = true)
    (sa_Clock : PySem.W.findIn K (.ref C_Clock) "__setattr__" = some (some (.builtin "object.__setattr__")))
    (ms_Clock : PySem.W.makesIn K C_Clock = true)
    (kc_Clock : PySem.W.keepIn K (.ref C_Clock) = true)
    (a0 : PySem.W.nsIn K mainGlobals "_law_bag" = some (some (.ref f_lbag)))
    (l0 : K.lookup f_lbag = some ⟨oc0, od0, .func (PySem.W.fnOf "_law_bag" "_law_bag" (defArgs s_lbag) (defBody s_lbag) (defScope s_lbag) .none kV0 dc0 pm0 an0 cd0 ct0), sl0⟩)
    (c0 : PySem.W.codeIn K cd0 "_law_bag" = true)
    (k0 : PySem.W.keepIn K (.ref f_lbag) = true)
    (a1 : PySem.W.nsIn K mainGlobals "_law_take" = some (some (.ref f_ltake)))
    (l1 : K.lookup f_ltake = some ⟨oc1, od1, .func (PySem.W.fnOf "_law_take" "_law_take" (defArgs s_ltake) (defBody s_ltake) (defScope s_ltake) .none kV1 dc1 pm1 an1 cd1 ct1), sl1⟩)
    (c1 : PySem.W.codeIn K cd1 "_law_take" = true)
    (k1 : PySem.W.keepIn K (.ref f_ltake) = true)
    (a2 : PySem.W.nsIn K mainGlobals "_law_stays" = some (some (.ref f_lstays)))
    (l2 : K.lookup f_lstays = some ⟨oc2, od2, .func (PySem.W.fnOf "_law_stays" "_law_stays" (defArgs s_lstays) (defBody s_lstays) (defScope s_lstays) .none kV2 dc2 pm2 an2 cd2 ct2), sl2⟩)
    (c2 : PySem.W.codeIn K cd2 "_law_stays" = true)
    (k2 : PySem.W.keepIn K (.ref f_lstays) = true)
    (a3 : PySem.W.nsIn K mainGlobals "is_row" = some (some (.ref f_is_row)))
    (l3 : K.lookup f_is_row = some ⟨oc3, od3, .func (PySem.W.fnOf "is_row" "is_row" (defArgs s_is_row) (defBody s_is_row) (defScope s_is_row) .none kV3 dc3 pm3 an3 cd3 ct3), sl3⟩)
    (c3 : PySem.W.codeIn K cd3 "is_row" = true)
    (k3 : PySem.W.keepIn K (.ref f_is_row) = true)
    (a4 : PySem.W.nsIn K mainGlobals "is_integer" = some (some (.ref f_is_integer)))
    (l4 : K.lookup f_is_integer = some ⟨oc4, od4, .func (PySem.W.fnOf "is_integer" "is_integer" (defArgs s_is_integer) (defBody s_is_integer) (defScope s_is_integer) .none kV4 dc4 pm4 an4 cd4 ct4), sl4⟩)
    (c4 : PySem.W.codeIn K cd4 "is_integer" = true)
    (k4 : PySem.W.keepIn K (.ref f_is_integer) = true)
    (a5 : PySem.W.nsIn K mainGlobals "_is_from_one" = some (some (.ref f_is_from_one)))
    (l5 : K.lookup f_is_from_one = some ⟨oc5, od5, .func (PySem.W.fnOf "_is_from_one" "_is_from_one" (defArgs s_is_from_one) (defBody s_is_from_one) (defScope s_is_from_one) .none kV5 dc5 pm5 an5 cd5 ct5), sl5⟩)
    (c5 : PySem.W.codeIn K cd5 "_is_from_one" = true)
    (k5 : PySem.W.keepIn K (.ref f_is_from_one) = true)
    (a6 : PySem.W.nsIn K mainGlobals "_are_stays" = some (some (.ref f_are_stays)))
    (l6 : K.lookup f_are_stays = some ⟨oc6, od6, .func (PySem.W.fnOf "_are_stays" "_are_stays" (defArgs s_are_stays) (defBody s_are_stays) (defScope s_are_stays) .none kV6 dc6 pm6 an6 cd6 ct6), sl6⟩)
    (c6 : PySem.W.codeIn K cd6 "_are_stays" = true)
    (k6 : PySem.W.keepIn K (.ref f_are_stays) = true)
    (a7 : PySem.W.nsIn K mainGlobals "_check_nobody_overtaken" = some (some (.ref f_check_nobody_overtaken)))
    (l7 : K.lookup f_check_nobody_overtaken = some ⟨oc7, od7, .func (PySem.W.fnOf "_check_nobody_overtaken" "_check_nobody_overtaken" (defArgs s_check_nobody_overtaken) (defBody s_check_nobody_overtaken) (defScope s_check_nobody_overtaken) .none kV7 dc7 pm7 an7 cd7 ct7), sl7⟩)
    (c7 : PySem.W.codeIn K cd7 "_check_nobody_overtaken" = true)
    (k7 : PySem.W.keepIn K (.ref f_check_nobody_overtaken) = true)
    (a8 : PySem.W.findIn K (.ref C_Clock) "__init__" = some (some (.ref f_Clock_init)))
    (i8 : PySem.W.isFn K (.ref f_Clock_init) = true)
    (l8 : K.lookup f_Clock_init = some ⟨oc8, od8, .func (PySem.W.fnOf "__init__" "Clock.__init__" (defArgs s_Clock_init) (defBody s_Clock_init) (defScope s_Clock_init) .none kV8 dc8 pm8 an8 cd8 ct8), sl8⟩)
    (c8 : PySem.W.codeIn K cd8 "Clock.__init__" = true)
    (k8 : PySem.W.keepIn K (.ref f_Clock_init) = true)
    (a9 : PySem.W.nsIn K mainGlobals "_law_clock" = some (some (.ref f_lclock)))
    (l9 : K.lookup f_lclock = some ⟨oc9, od9, .func (PySem.W.fnOf "_law_clock" "_law_clock" (defArgs s_lclock) (defBody s_lclock) (defScope s_lclock) .none kV9 dc9 pm9 an9 cd9 ct9), sl9⟩)
    (c9 : PySem.W.codeIn K cd9 "_law_clock" = true)
    (k9 : PySem.W.keepIn K (.ref f_lclock) = true)
    (a10 : PySem.W.nsIn K mainGlobals "_law_mixed" = some (some (.ref f_lmixed)))
    (l10 : K.lookup f_lmixed = some ⟨oc10, od10, .func (PySem.W.fnOf "_law_mixed" "_law_mixed" (defArgs s_lmixed) (defBody s_lmixed) (defScope s_lmixed) .none kV10 dc10 pm10 an10 cd10 ct10), sl10⟩)
    (c10 : PySem.W.codeIn K cd10 "_law_mixed" = true)
    (k10 : PySem.W.keepIn K (.ref f_lmixed) = true)
    (a11 : PySem.W.findIn K (.ref C_Clock) "hours" = some (some (.ref p_Clock_hours)))
    (q11 : PySem.W.specialIn K (.ref p_Clock_hours) "__get__" = some (some (.builtin "property.__get__")))
    (t11 : PySem.W.takesIn K (.ref p_Clock_hours) = some true)
    {rest11 : List Value}
    (r11 : PySem.W.recIn K p_Clock_hours "property" = some (.ref f_Clock_hours :: rest11))
    (l11 : K.lookup f_Clock_hours = some ⟨oc11, od11, .func (PySem.W.fnOf "hours" "Clock.hours" (defArgs s_Clock_hours) (defBody s_Clock_hours) (defScope s_Clock_hours) .none kV11 dc11 pm11 an11 cd11 ct11), sl11⟩)
    (c11 : PySem.W.codeIn K cd11 "Clock.hours" = true)
    (k11 : PySem.W.keepIn K (.ref f_Clock_hours) = true)
    (a12 : PySem.W.nsIn K mainGlobals "_width" = some (some (.ref f_width)))
    (l12 : K.lookup f_width = some ⟨oc12, od12, .func (PySem.W.fnOf "_width" "_width" (defArgs s_width) (defBody s_width) (defScope s_width) .none kV12 dc12 pm12 an12 cd12 ct12), sl12⟩)
    (c12 : PySem.W.codeIn K cd12 "_width" = true)
    (k12 : PySem.W.keepIn K (.ref f_width) = true)
    (a13 : PySem.W.findIn K (.ref C_Clock) "widths" = some (some (.ref f_Clock_widths)))
    (i13 : PySem.W.isFn K (.ref f_Clock_widths) = true)
    (l13 : K.lookup f_Clock_widths = some ⟨oc13, od13, .func (PySem.W.fnOf "widths" "Clock.widths" (defArgs s_Clock_widths) (defBody s_Clock_widths) (defScope s_Clock_widths) .none kV13 dc13 pm13 an13 cd13 ct13), sl13⟩)
    (c13 : PySem.W.codeIn K cd13 "Clock.widths" = true)
    (k13 : PySem.W.keepIn K (.ref f_Clock_widths) = true)
    (a14 : PySem.W.findIn K (.ref C_Clock) "mirrored" = some (some (.ref f_Clock_mirrored)))
    (i14 : PySem.W.isFn K (.ref f_Clock_mirrored) = true)
    (l14 : K.lookup f_Clock_mirrored = some ⟨oc14, od14, .func (PySem.W.fnOf "mirrored" "Clock.mirrored" (defArgs s_Clock_mirrored) (defBody s_Clock_mirrored) (defScope s_Clock_mirrored) .none kV14 dc14 pm14 an14 cd14 ct14), sl14⟩)
    (c14 : PySem.W.codeIn K cd14 "Clock.mirrored" = true)
    (k14 : PySem.W.keepIn K (.ref f_Clock_mirrored) = true)
    (a15 : PySem.W.nsIn K mainGlobals "turned_row" = some (some (.ref f_turned_row)))
    (l15 : K.lookup f_turned_row = some ⟨oc15, od15, .func (PySem.W.fnOf "turned_row" "turned_row" (defArgs s_turned_row) (defBody s_turned_row) (defScope s_turned_row) .none kV15 dc15 pm15 an15 cd15 ct15), sl15⟩)
    (c15 : PySem.W.codeIn K cd15 "turned_row" = true)
    (k15 : PySem.W.keepIn K (.ref f_turned_row) = true)
    (a16 : PySem.W.findIn K (.ref C_Clock) "turned" = some (some (.ref f_Clock_turned)))
    (i16 : PySem.W.isFn K (.ref f_Clock_turned) = true)
    (l16 : K.lookup f_Clock_turned = some ⟨oc16, od16, .func (PySem.W.fnOf "turned" "Clock.turned" (defArgs s_Clock_turned) (defBody s_Clock_turned) (defScope s_Clock_turned) .none kV16 dc16 pm16 an16 cd16 ct16), sl16⟩)
    (c16 : PySem.W.codeIn K cd16 "Clock.turned" = true)
    (k16 : PySem.W.keepIn K (.ref f_Clock_turned) = true)
    (a17 : PySem.W.nsIn K mainGlobals "_law_far" = some (some (.ref f_lfar)))
    (l17 : K.lookup f_lfar = some ⟨oc17, od17, .func (PySem.W.fnOf "_law_far" "_law_far" (defArgs s_lfar) (defBody s_lfar) (defScope s_lfar) .none kV17 dc17 pm17 an17 cd17 ct17), sl17⟩)
    (c17 : PySem.W.codeIn K cd17 "_law_far" = true)
    (k17 : PySem.W.keepIn K (.ref f_lfar) = true)
    (a18 : PySem.W.findIn K (.ref C_Clock) "stays" = some (some (.ref f_Clock_stays)))
    (i18 : PySem.W.isFn K (.ref f_Clock_stays) = true)
    (l18 : K.lookup f_Clock_stays = some ⟨oc18, od18, .func (PySem.W.fnOf "stays" "Clock.stays" (defArgs s_Clock_stays) (defBody s_Clock_stays) (defScope s_Clock_stays) .none kV18 dc18 pm18 an18 cd18 ct18), sl18⟩)
    (c18 : PySem.W.codeIn K cd18 "Clock.stays" = true)
    (k18 : PySem.W.keepIn K (.ref f_Clock_stays) = true)
    (a19 : PySem.W.nsIn K mainGlobals "is_count" = some (some (.ref f_is_count)))
    (l19 : K.lookup f_is_count = some ⟨oc19, od19, .func (PySem.W.fnOf "is_count" "is_count" (defArgs s_is_count) (defBody s_is_count) (defScope s_is_count) .none kV19 dc19 pm19 an19 cd19 ct19), sl19⟩)
    (c19 : PySem.W.codeIn K cd19 "is_count" = true)
    (k19 : PySem.W.keepIn K (.ref f_is_count) = true)
    (a20 : PySem.W.nsIn K mainGlobals "is_hour" = some (some (.ref f_is_hour)))
    (l20 : K.lookup f_is_hour = some ⟨oc20, od20, .func (PySem.W.fnOf "is_hour" "is_hour" (defArgs s_is_hour) (defBody s_is_hour) (defScope s_is_hour) .none kV20 dc20 pm20 an20 cd20 ct20), sl20⟩)
    (c20 : PySem.W.codeIn K cd20 "is_hour" = true)
    (k20 : PySem.W.keepIn K (.ref f_is_hour) = true)
    (a21 : PySem.W.nsIn K mainGlobals "check_hour" = some (some (.ref f_check_hour)))
    (l21 : K.lookup f_check_hour = some ⟨oc21, od21, .func (PySem.W.fnOf "check_hour" "check_hour" (defArgs s_check_hour) (defBody s_check_hour) (defScope s_check_hour) .none kV21 dc21 pm21 an21 cd21 ct21), sl21⟩)
    (c21 : PySem.W.codeIn K cd21 "check_hour" = true)
    (k21 : PySem.W.keepIn K (.ref f_check_hour) = true)
    (a22 : PySem.W.findIn K (.ref C_Clock) "served" = some (some (.ref f_Clock_served)))
    (i22 : PySem.W.isFn K (.ref f_Clock_served) = true)
    (l22 : K.lookup f_Clock_served = some ⟨oc22, od22, .func (PySem.W.fnOf "served" "Clock.served" (defArgs s_Clock_served) (defBody s_Clock_served) (defScope s_Clock_served) .none kV22 dc22 pm22 an22 cd22 ct22), sl22⟩)
    (c22 : PySem.W.codeIn K cd22 "Clock.served" = true)
    (k22 : PySem.W.keepIn K (.ref f_Clock_served) = true)
    (a23 : PySem.W.findIn K (.ref C_Clock) "serving" = some (some (.ref f_Clock_serving)))
    (i23 : PySem.W.isFn K (.ref f_Clock_serving) = true)
    (l23 : K.lookup f_Clock_serving = some ⟨oc23, od23, .func (PySem.W.fnOf "serving" "Clock.serving" (defArgs s_Clock_serving) (defBody s_Clock_serving) (defScope s_Clock_serving) .none kV23 dc23 pm23 an23 cd23 ct23), sl23⟩)
    (c23 : PySem.W.codeIn K cd23 "Clock.serving" = true)
    (k23 : PySem.W.keepIn K (.ref f_Clock_serving) = true)
    (a24 : PySem.W.findIn K (.ref C_Clock) "__getitem__" = some (some (.ref f_Clock_getitem)))
    (i24 : PySem.W.isFn K (.ref f_Clock_getitem) = true)
    (l24 : K.lookup f_Clock_getitem = some ⟨oc24, od24, .func (PySem.W.fnOf "__getitem__" "Clock.__getitem__" (defArgs s_Clock_getitem) (defBody s_Clock_getitem) (defScope s_Clock_getitem) .none kV24 dc24 pm24 an24 cd24 ct24), sl24⟩)
    (c24 : PySem.W.codeIn K cd24 "Clock.__getitem__" = true)
    (k24 : PySem.W.keepIn K (.ref f_Clock_getitem) = true)
    (a25 : PySem.W.nsIn K mainGlobals "_law_rows_right" = some (some (.ref f_lrows_right)))
    (l25 : K.lookup f_lrows_right = some ⟨oc25, od25, .func (PySem.W.fnOf "_law_rows_right" "_law_rows_right" (defArgs s_lrows_right) (defBody s_lrows_right) (defScope s_lrows_right) .none kV25 dc25 pm25 an25 cd25 ct25), sl25⟩)
    (c25 : PySem.W.codeIn K cd25 "_law_rows_right" = true)
    (k25 : PySem.W.keepIn K (.ref f_lrows_right) = true)
    (a26 : PySem.W.nsIn K mainGlobals "law" = some (some (.ref f_law)))
    (l26 : K.lookup f_law = some ⟨oc26, od26, .func (PySem.W.fnOf "law" "law" (defArgs s_law) (defBody s_law) (defScope s_law) .none kV26 dc26 pm26 an26 cd26 ct26), sl26⟩)
    (c26 : PySem.W.codeIn K cd26 "law" = true)
    (k26 : PySem.W.keepIn K (.ref f_law) = true)
    (na_Clock__stays : PySem.W.findIn K (.ref C_Clock) "_stays" = some none)
    {tc_MOST_HOURS : Tok}
    (k_MOST_HOURS : PySem.W.nsIn K mainGlobals "MOST_HOURS" = some (some (.int 48 tc_MOST_HOURS)))
    (z_len : PySem.W.nsIn K mainGlobals "len" = some none)
    (z_range : PySem.W.nsIn K mainGlobals "range" = some none)
    (z_abs : PySem.W.nsIn K mainGlobals "abs" = some none)
    (z_int : PySem.W.nsIn K mainGlobals "int" = some none)
    (z_bool : PySem.W.nsIn K mainGlobals "bool" = some none)
    (z_list : PySem.W.nsIn K mainGlobals "list" = some none)
    (z_tuple : PySem.W.nsIn K mainGlobals "tuple" = some none)
    (z_isinstance : PySem.W.nsIn K mainGlobals "isinstance" = some none)
    (z_all : PySem.W.nsIn K mainGlobals "all" = some none)
    (z_min : PySem.W.nsIn K mainGlobals "min" = some none)
    (z_sum : PySem.W.nsIn K mainGlobals "sum" = some none)
    (z_enumerate : PySem.W.nsIn K mainGlobals "enumerate" = some none)
    (z_iter : PySem.W.nsIn K mainGlobals "iter" = some none) :
    ∃ fd : FuncData, (∀ (s : Shared) (v : Value), BindsTo s fd ⟨[v], []⟩ [("_law_script", v)]) ∧ ∀ base : Heap, K.In base → base.Ns mainGlobals mg → FnOk l.prog w K mg base CX0 8 fa fd ["_law_script"] (spLaw K) := by
  have e := hfa.symm.trans (PySem.W.mg_of X G a26)
  cases e
  have F0 := fun_mk (st := s_lbag) l0 c0 k0
  have F1 := fun_mk (st := s_ltake) l1 c1 k1
  have F2 := fun_mk (st := s_lstays) l2 c2 k2
  have F3 := fun_mk (st := s_is_row) l3 c3 k3
  have F4 := fun_mk (st := s_is_integer) l4 c4 k4
  have F5 := fun_mk (st := s_is_from_one) l5 c5 k5
  have F6 := fun_mk (st := s_are_stays) l6 c6 k6
  have F7 := fun_mk (st := s_check_nobody_overtaken) l7 c7 k7
  have F8 := fun_mk (st := s_Clock_init) l8 c8 k8
  have F9 := fun_mk (st := s_lclock) l9 c9 k9
  have F10 := fun_mk (st := s_lmixed) l10 c10 k10
  have F11 := fun_mk (st := s_Clock_hours) l11 c11 k11
  have F12 := fun_mk (st := s_width) l12 c12 k12
  have F13 := fun_mk (st := s_Clock_widths) l13 c13 k13
  have F14 := fun_mk (st := s_Clock_mirrored) l14 c14 k14
  have F15 := fun_mk (st := s_turned_row) l15 c15 k15
  have F16 := fun_mk (st := s_Clock_turned) l16 c16 k16
  have F17 := fun_mk (st := s_lfar) l17 c17 k17
  have F18 := fun_mk (st := s_Clock_stays) l18 c18 k18
  have F19 := fun_mk (st := s_is_count) l19 c19 k19
  have F20 := fun_mk (st := s_is_hour) l20 c20 k20
  have F21 := fun_mk (st := s_check_hour) l21 c21 k21
  have F22 := fun_mk (st := s_Clock_served) l22 c22 k22
  have F23 := fun_mk (st := s_Clock_serving) l23 c23 k23
  have F24 := fun_mk (st := s_Clock_getitem) l24 c24 k24
  have F25 := fun_mk (st := s_lrows_right) l25 c25 k25
  have F26 := fun_mk (st := s_law) l26 c26 k26
  let T : Env K mg := {
    C_Clock := ⟨C_Clock, ⟨pg_Clock, hd_Clock, po_Clock, sa_Clock⟩, PySem.W.mg_of X G g_Clock⟩
    lbag := ⟨f_lbag, _, F0, PySem.W.mg_of X G a0, (F0.binds (ps := ["_law_script"]) fun _ _ _ _ _ _ us hl => match us, hl with | [_], _ => rfl)⟩
    ltake := ⟨f_ltake, _, F1, PySem.W.mg_of X G a1, (F1.binds (ps := ["_law_bag_here", "_law_upto"]) fun _ _ _ _ _ _ us hl => match us, hl with | [_, _], _ => rfl)⟩
    lstays := ⟨f_lstays, _, F2, PySem.W.mg_of X G a2, (F2.binds (ps := ["_law_bag_here", "_law_many"]) fun _ _ _ _ _ _ us hl => match us, hl with | [_, _], _ => rfl)⟩
    is_row := ⟨f_is_row, _, F3, PySem.W.mg_of X G a3, (F3.binds (ps := ["thing"]) fun _ _ _ _ _ _ us hl => match us, hl with | [_], _ => rfl)⟩
    is_integer := ⟨f_is_integer, _, F4, PySem.W.mg_of X G a4, (F4.binds (ps := ["thing"]) fun _ _ _ _ _ _ us hl => match us, hl with | [_], _ => rfl)⟩
    is_from_one := ⟨f_is_from_one, _, F5, PySem.W.mg_of X G a5, (F5.binds (ps := ["most", "thing"]) fun _ _ _ _ _ _ us hl => match us, hl with | [_, _], _ => rfl)⟩
    are_stays := ⟨f_are_stays, _, F6, PySem.W.mg_of X G a6, (F6.binds (ps := ["thing"]) fun _ _ _ _ _ _ us hl => match us, hl with | [_], _ => rfl)⟩
    check_nobody_overtaken := ⟨f_check_nobody_overtaken, _, F7, PySem.W.mg_of X G a7, (F7.binds (ps := ["stays"]) fun _ _ _ _ _ _ us hl => match us, hl with | [_], _ => rfl)⟩
    Clock_init := ⟨f_Clock_init, _, F8, (F8.binds (ps := ["self", "stays"]) fun _ _ _ _ _ _ us hl => match us, hl with | [_, _], _ => rfl)⟩
    mk_Clock := ⟨ms_Clock, a8, i8, kc_Clock⟩
    lclock := ⟨f_lclock, _, F9, PySem.W.mg_of X G a9, (F9.binds (ps := ["_law_bag_here", "_law_stays_here"]) fun _ _ _ _ _ _ us hl => match us, hl with | [_, _], _ => rfl)⟩
    lmixed := ⟨f_lmixed, _, F10, PySem.W.mg_of X G a10, (F10.binds (ps := ["_law_bag_here", "_law_things"]) fun _ _ _ _ _ _ us hl => match us, hl with | [_, _], _ => rfl)⟩
    Clock_hours := ⟨f_Clock_hours, _, F11, (F11.binds (ps := ["self"]) fun _ _ _ _ _ _ us hl => match us, hl with | [_], _ => rfl)⟩
    p_Clock_hours_p := p_Clock_hours
    p_Clock_hours := ⟨a11, q11, t11, ⟨rest11, r11⟩⟩
    width := ⟨f_width, _, F12, PySem.W.mg_of X G a12, (F12.binds (ps := ["stays", "hour"]) fun _ _ _ _ _ _ us hl => match us, hl with | [_, _], _ => rfl)⟩
    Clock_widths := ⟨f_Clock_widths, _, F13, (F13.binds (ps := ["self"]) fun _ _ _ _ _ _ us hl => match us, hl with | [_], _ => rfl)⟩
    m_Clock_widths := ⟨a13, i13, k13⟩
    Clock_mirrored := ⟨f_Clock_mirrored, _, F14, (F14.binds (ps := ["self"]) fun _ _ _ _ _ _ us hl => match us, hl with | [_], _ => rfl)⟩
    m_Clock_mirrored := ⟨a14, i14, k14⟩
    turned_row := ⟨f_turned_row, _, F15, PySem.W.mg_of X G a15, (F15.binds (ps := ["row", "by"]) fun _ _ _ _ _ _ us hl => match us, hl with | [_, _], _ => rfl)⟩
    Clock_turned := ⟨f_Clock_turned, _, F16, (F16.binds (ps := ["self", "by"]) fun _ _ _ _ _ _ us hl => match us, hl with | [_, _], _ => rfl)⟩
    m_Clock_turned := ⟨a16, i16, k16⟩
    lfar := ⟨f_lfar, _, F17, PySem.W.mg_of X G a17, (F17.binds (ps := ["_law_bag_here"]) fun _ _ _ _ _ _ us hl => match us, hl with | [_], _ => rfl)⟩
    Clock_stays := ⟨f_Clock_stays, _, F18, (F18.binds (ps := ["self"]) fun _ _ _ _ _ _ us hl => match us, hl with | [_], _ => rfl)⟩
    m_Clock_stays := ⟨a18, i18, k18⟩
    is_count := ⟨f_is_count, _, F19, PySem.W.mg_of X G a19, (F19.binds (ps := ["thing"]) fun _ _ _ _ _ _ us hl => match us, hl with | [_], _ => rfl)⟩
    is_hour := ⟨f_is_hour, _, F20, PySem.W.mg_of X G a20, (F20.binds (ps := ["hours", "thing"]) fun _ _ _ _ _ _ us hl => match us, hl with | [_, _], _ => rfl)⟩
    check_hour := ⟨f_check_hour, _, F21, PySem.W.mg_of X G a21, (F21.binds (ps := ["hours", "thing"]) fun _ _ _ _ _ _ us hl => match us, hl with | [_, _], _ => rfl)⟩
    Clock_served := ⟨f_Clock_served, _, F22, (F22.binds (ps := ["self", "hour"]) fun _ _ _ _ _ _ us hl => match us, hl with | [_, _], _ => rfl)⟩
    m_Clock_served := ⟨a22, i22, k22⟩
    Clock_serving := ⟨f_Clock_serving, _, F23, (F23.binds (ps := ["self", "hour"]) fun _ _ _ _ _ _ us hl => match us, hl with | [_, _], _ => rfl)⟩
    m_Clock_serving := ⟨a23, i23, k23⟩
    Clock_getitem := ⟨f_Clock_getitem, _, F24, (F24.binds (ps := ["self", "at"]) fun _ _ _ _ _ _ us hl => match us, hl with | [_, _], _ => rfl)⟩
    m_Clock_getitem := ⟨a24, i24, k24⟩
    lrows_right := ⟨f_lrows_right, _, F25, PySem.W.mg_of X G a25, (F25.binds (ps := ["_law_clock_here", "_law_many"]) fun _ _ _ _ _ _ us hl => match us, hl with | [_, _], _ => rfl)⟩
    law := ⟨fa, _, F26, PySem.W.mg_of X G a26, (F26.binds (ps := ["_law_script"]) fun _ _ _ _ _ _ us hl => match us, hl with | [_], _ => rfl)⟩
    n_Clock__stays := na_Clock__stays
    t_MOST_HOURS := tc_MOST_HOURS
    c_MOST_HOURS := PySem.W.mg_of X G k_MOST_HOURS
    n_len := PySem.W.mg_none_of X G z_len
    n_range := PySem.W.mg_none_of X G z_range
    n_abs := PySem.W.mg_none_of X G z_abs
    n_int := PySem.W.mg_none_of X G z_int
    n_bool := PySem.W.mg_none_of X G z_bool
    n_list := PySem.W.mg_none_of X G z_list
    n_tuple := PySem.W.mg_none_of X G z_tuple
    n_isinstance := PySem.W.mg_none_of X G z_isinstance
    n_all := PySem.W.mg_none_of X G z_all
    n_min := PySem.W.mg_none_of X G z_min
    n_sum := PySem.W.mg_none_of X G z_sum
    n_enumerate := PySem.W.mg_none_of X G z_enumerate
    n_iter := PySem.W.mg_none_of X G z_iter }
  exact ⟨T.law.fd, fun s v => .of_eq rfl, fun base _ _ => ok_law T⟩
end Hn
open PySem PySem.W PyProof.Rows in
set_option maxRecDepth 100000 in
set_option maxHeartbeats 0 in
theorem PySem.Challenge.cw_hourneeds_k15_whole_served_and_serving_holds : PySem.Challenge.rw_hourneeds_k15_whole_served_and_serving.Holds := by
  w_on; o_law; k_head; (case hw => w_witness2)
  k_fill
  refine L2.walk_of (l := PySem.Challenge.rw_hourneeds_k15_whole_served_and_serving) (n := 63) (k := 8) (x := "_law_script") (CX := fun _ => L2.CX0) (sp := fun w => Hn.spLaw _) rfl (by decide) rfl ⟨rfl, by decide, by decide⟩ (fun w h Y => PySem.W.kIn_of Y) ?F (fun _ _ a ns hl _ hS => ⟨a, ns, rfl, hS, hl, fun _ => rfl⟩) (fun _ _ _ _ _ h => h)
  case F =>
    intro w mg fa h KX G hmg
    refine' Hn.all_mk KX G hmg ?g_Clock ?pg_Clock ?hd_Clock ?po_Clock ?sa_Clock ?ms_Clock ?kc_Clock ?a0 ?l0 ?c0 ?k0 ?a1 ?l1 ?c1 ?k1 ?a2 ?l2 ?c2 ?k2 ?a3 ?l3 ?c3 ?k3 ?a4 ?l4 ?c4 ?k4 ?a5 ?l5 ?c5 ?k5 ?a6 ?l6 ?c6 ?k6 ?a7 ?l7 ?c7 ?k7 ?a8 ?i8 ?l8 ?c8 ?k8 ?a9 ?l9 ?c9 ?k9 ?a10 ?l10 ?c10 ?k10 ?a11 ?q11 ?t11 ?r11 ?l11 ?c11 ?k11 ?a12 ?l12 ?c12 ?k12 ?a13 ?i13 ?l13 ?c13 ?k13 ?a14 ?i14 ?l14 ?c14 ?k14 ?a15 ?l15 ?c15 ?k15 ?a16 ?i16 ?l16 ?c16 ?k16 ?a17 ?l17 ?c17 ?k17 ?a18 ?i18 ?l18 ?c18 ?k18 ?a19 ?l19 ?c19 ?k19 ?a20 ?l20 ?c20 ?k20 ?a21 ?l21 ?c21 ?k21 ?a22 ?i22 ?l22 ?c22 ?k22 ?a23 ?i23 ?l23 ?c23 ?k23 ?a24 ?i24 ?l24 ?c24 ?k24 ?a25 ?l25 ?c25 ?k25 ?a26 ?l26 ?c26 ?k26 ?na_Clock__stays ?k_MOST_HOURS ?z_len ?z_range ?z_abs ?z_int ?z_bool ?z_list ?z_tuple ?z_isinstance ?z_all ?z_min ?z_sum ?z_enumerate ?z_iter
    (case g_Clock => k_is)
    (case pg_Clock => k_is)
    (case hd_Clock => k_is)
    (case po_Clock => k_is)
    (case sa_Clock => k_is)
    (case ms_Clock => k_is)
    (case kc_Clock => k_is)
    (case a0 => k_is)
    (case l0 => k_is)
    (case c0 => k_is)
    (case k0 => k_is)
    (case a1 => k_is)
    (case l1 => k_is)
    (case c1 => k_is)
    (case k1 => k_is)
    (case a2 => k_is)
    (case l2 => k_is)
    (case c2 => k_is)
    (case k2 => k_is)
    (case a3 => k_is)
    (case l3 => k_is)
    (case c3 => k_is)
    (case k3 => k_is)
    (case a4 => k_is)
    (case l4 => k_is)
    (case c4 => k_is)
    (case k4 => k_is)
    (case a5 => k_is)
    (case l5 => k_is)
    (case c5 => k_is)
    (case k5 => k_is)
    (case a6 => k_is)
    (case l6 => k_is)
    (case c6 => k_is)
    (case k6 => k_is)
    (case a7 => k_is)
    (case l7 => k_is)
    (case c7 => k_is)
    (case k7 => k_is)
    (case a8 => k_is)
    (case i8 => k_is)
    (case l8 => k_is)
    (case c8 => k_is)
    (case k8 => k_is)
    (case a9 => k_is)
    (case l9 => k_is)
    (case c9 => k_is)
    (case k9 => k_is)
    (case a10 => k_is)
    (case l10 => k_is)
    (case c10 => k_is)
    (case k10 => k_is)
    (case a11 => k_is)
    (case q11 => k_is)
    (case t11 => k_is)
    (case r11 => k_is)
    (case l11 => k_is)
    (case c11 => k_is)
    (case k11 => k_is)
    (case a12 => k_is)
    (case l12 => k_is)
    (case c12 => k_is)
    (case k12 => k_is)
    (case a13 => k_is)
    (case i13 => k_is)
    (case l13 => k_is)
    (case c13 => k_is)
    (case k13 => k_is)
    (case a14 => k_is)
    (case i14 => k_is)
    (case l14 => k_is)
    (case c14 => k_is)
    (case k14 => k_is)
    (case a15 => k_is)
    (case l15 => k_is)
    (case c15 => k_is)
    (case k15 => k_is)
    (case a16 => k_is)
    (case i16 => k_is)
    (case l16 => k_is)
    (case c16 => k_is)
    (case k16 => k_is)
    (case a17 => k_is)
    (case l17 => k_is)
    (case c17 => k_is)
    (case k17 => k_is)
    (case a18 => k_is)
    (case i18 => k_is)
    (case l18 => k_is)
    (case c18 => k_is)
    (case k18 => k_is)
    (case a19 => k_is)
    (case l19 => k_is)
    (case c19 => k_is)
    (case k19 => k_is)
    (case a20 => k_is)
    (case l20 => k_is)
    (case c20 => k_is)
    (case k20 => k_is)
    (case a21 => k_is)
    (case l21 => k_is)
    (case c21 => k_is)
    (case k21 => k_is)
    (case a22 => k_is)
    (case i22 => k_is)
    (case l22 => k_is)
    (case c22 => k_is)
    (case k22 => k_is)
    (case a23 => k_is)
    (case i23 => k_is)
    (case l23 => k_is)
    (case c23 => k_is)
    (case k23 => k_is)
    (case a24 => k_is)
    (case i24 => k_is)
    (case l24 => k_is)
    (case c24 => k_is)
    (case k24 => k_is)
    (case a25 => k_is)
    (case l25 => k_is)
    (case c25 => k_is)
    (case k25 => k_is)
    (case a26 => k_is)
    (case l26 => k_is)
    (case c26 => k_is)
    (case k26 => k_is)
    (case na_Clock__stays => k_is)
    (case k_MOST_HOURS => k_is)
    (case z_len => k_is)
    (case z_range => k_is)
    (case z_abs => k_is)
    (case z_int => k_is)
    (case z_bool => k_is)
    (case z_list => k_is)
    (case z_tuple => k_is)
    (case z_isinstance => k_is)
    (case z_all => k_is)
    (case z_min => k_is)
    (case z_sum => k_is)
    (case z_enumerate => k_is)
    (case z_iter => k_is)
