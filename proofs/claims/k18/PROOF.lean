import PyProof.Rows.All
import Wide.All
import OpenK.AllK
import Wide.FinOn
import HandS.ForMost
import HandS.IsInst
import HandS.Style
import HandS.TupAny
import HandS.Property
import HandS.Conv
import HandS.SetFor
import HandS.More
import HandS.Codes
import KE.GoesEnum
import HandS.OwnEq
import PyProof.InstNe
import HandS.OwnIter
import HandS.IterNext
import PyProof.TupleCall
import HandS.Ends
import PyProof.Rows.ReprR
import HandS.ExcInit
import HandS.ExcOwn
import HandS.Exc
import HandS.WordsExc
import HandS.SortInts
import PyProof.Rows.RuleB_bool
import PyProof.FactsAll.bool_2
import HandS.Deep
import PySem.Challenge.RW_hourneeds_k18_whole_small_clocks
set_option Elab.async false
set_option maxRecDepth 100000
set_option maxHeartbeats 4000000
set_option linter.all false

/-! Clk -/
/-! the mathematics of clocks: stays round about (S), widths (wd), the clock seen from elsewhere and the other way -/
namespace Clk
/-- the stay of hour x, round about -/
def S (ns : List Int) (x : Int) : Int := ns.getD (x % (ns.length : Int)).toNat 0
theorem S_get {ns : List Int} {i : Nat} (h : i < ns.length) : S ns i = ns[i] := by
  have e : ((i : Int) % (ns.length : Int)).toNat = i := by
    rw [Int.emod_eq_of_lt (by omega) (by omega)]
    omega
  unfold S
  rw [e, List.getD_eq_getElem?_getD, List.getElem?_eq_getElem h]
  rfl
theorem S_mod {ns : List Int} {x y : Int} (h : x % (ns.length : Int) = y % (ns.length : Int)) : S ns x = S ns y := by
  unfold S
  rw [h]
theorem S_per {ns : List Int} (x k : Int) : S ns (x + k * ns.length) = S ns x := S_mod (Int.add_mul_emod_self_right x k _)
theorem S_at {ns : List Int} (hp : 0 < ns.length) (x : Int) : ∃ h : (x % (ns.length : Int)).toNat < ns.length, S ns x = ns[(x % (ns.length : Int)).toNat] := by
  have h1 := Int.emod_nonneg x (show (ns.length : Int) ≠ 0 by omega)
  have h2 := Int.emod_lt_of_pos x (show (0 : Int) < ns.length by omega)
  have h : (x % (ns.length : Int)).toNat < ns.length := by omega
  refine ⟨h, ?_⟩
  unfold S
  rw [List.getD_eq_getElem?_getD, List.getElem?_eq_getElem h]
  rfl
structure Valid (ns : List Int) : Prop where
  pos : 0 < ns.length
  top : ns.length ≤ 48
  lo : ∀ x, 1 ≤ S ns x
  hi : ∀ x, S ns x ≤ ns.length
  near : ∀ x, S ns x ≤ S ns (x + 1) + 1
theorem Valid.of {ns : List Int} (p : 0 < ns.length) (t : ns.length ≤ 48) (r : ∀ (i : Nat) (h : i < ns.length), 1 ≤ ns[i] ∧ ns[i] ≤ ns.length) (nr : ∀ (i : Nat), i < ns.length → S ns i ≤ S ns ((i : Int) + 1) + 1) : Valid ns where
  pos := p
  top := t
  lo := fun x => by
    obtain ⟨h, e⟩ := S_at p x
    rw [e]
    exact (r _ h).1
  hi := fun x => by
    obtain ⟨h, e⟩ := S_at p x
    rw [e]
    exact (r _ h).2
  near := fun x => by
    have h1 := Int.emod_nonneg x (show (ns.length : Int) ≠ 0 by omega)
    have h2 := Int.emod_lt_of_pos x (show (0 : Int) < ns.length by omega)
    have q := nr (x % (ns.length : Int)).toNat (by omega)
    have e : (((x % (ns.length : Int)).toNat : Nat) : Int) = x % (ns.length : Int) := by omega
    rw [e] at q
    have e1 : S ns (x % (ns.length : Int)) = S ns x := S_mod (Int.emod_emod_of_dvd x (Int.dvd_refl _))
    have e2 : S ns (x % (ns.length : Int) + 1) = S ns (x + 1) := S_mod (by rw [Int.emod_add_emod])
    rw [e1, e2] at q
    exact q
theorem Valid.mem {ns : List Int} (v : Valid ns) {x : Int} (h : x ∈ ns) : 1 ≤ x ∧ x ≤ ns.length := by
  obtain ⟨i, hi, e⟩ := List.mem_iff_getElem.mp h
  have q := S_get hi
  rw [e] at q
  exact ⟨q ▸ v.lo i, q ▸ v.hi i⟩

/-! ### counting an initial part -/
theorem count_down {p : Nat → Bool} (hd : ∀ b, p (b + 1) = true → p b = true) : ∀ (n b : Nat), b < n → (p b = true ↔ b < (List.range n).countP p)
  | 0, b, h => absurd h (Nat.not_lt_zero _)
  | n + 1, b, h => by
    rw [List.range_succ, List.countP_append]
    have down : ∀ c, p n = true → c ≤ n → p c = true := by
      intro c hn hc
      obtain ⟨d, rfl⟩ := Nat.exists_eq_add_of_le hc
      clear h hc
      induction d with
      | zero => exact hn
      | succ d ih => exact ih (hd _ hn)
    by_cases hn : p n = true
    · have all : (List.range n).countP p = n := by
        have q : (List.range n).countP p = (List.range n).length := List.countP_eq_length.mpr fun a ha => down a hn (by rw [List.mem_range] at ha; omega)
        rw [q, List.length_range]
      have one : List.countP p [n] = 1 := by simp [hn]
      rw [all, one]
      exact ⟨fun _ => h, fun _ => down b hn (by omega)⟩
    · have one : List.countP p [n] = 0 := by simp [hn]
      rw [one, Nat.add_zero]
      by_cases hb : b < n
      · exact count_down hd n b hb
      · have e : b = n := by omega
        subst e
        have le : (List.range b).countP p ≤ b := by
          have := List.countP_le_length (p := p) (l := List.range b)
          rwa [List.length_range] at this
        exact ⟨fun z => absurd z hn, fun z => by omega⟩
theorem same_below {n a c : Nat} (ha : a ≤ n) (hc : c ≤ n) (h : ∀ b, b < n → (b < a ↔ b < c)) : a = c := by
  apply Nat.le_antisymm
  · apply Nat.le_of_not_lt
    intro z
    exact absurd ((h c (by omega)).mp z) (Nat.lt_irrefl _)
  · apply Nat.le_of_not_lt
    intro z
    exact absurd ((h a (by omega)).mpr z) (Nat.lt_irrefl _)

/-! ### widths -/
/-- how many hours the window of hour x has -/
def wd (ns : List Int) (x : Int) : Nat := (List.range ns.length).countP fun b : Nat => decide ((b : Int) < S ns (x - b))
theorem wd_iff {ns : List Int} (v : Valid ns) (x : Int) {b : Nat} (h : b < ns.length) : (b : Int) < S ns (x - b) ↔ b < wd ns x := by
  have q := count_down (p := fun b : Nat => decide ((b : Int) < S ns (x - b))) (fun c hc => by
    have h1 := of_decide_eq_true hc
    have h2 := v.near (x - ((c + 1 : Nat) : Int))
    have e : x - ((c + 1 : Nat) : Int) + 1 = x - (c : Int) := by omega
    rw [e] at h2
    exact decide_eq_true (by omega)) ns.length b h
  exact decide_eq_true_iff.symm.trans q
theorem wd_le (ns : List Int) (x : Int) : wd ns x ≤ ns.length := by
  have := List.countP_le_length (p := fun b : Nat => decide ((b : Int) < S ns (x - b))) (l := List.range ns.length)
  rwa [List.length_range] at this
theorem wd_pos {ns : List Int} (v : Valid ns) (x : Int) : 1 ≤ wd ns x := (wd_iff v x v.pos).mp (by
  have := v.lo (x - ((0 : Nat) : Int))
  show (0 : Int) < _
  omega)
theorem wd_mod {ns : List Int} {x y : Int} (h : x % (ns.length : Int) = y % (ns.length : Int)) : wd ns x = wd ns y := by
  unfold wd
  congr 1
  funext b
  rw [S_mod (x := x - b) (y := y - b) (by rw [Int.sub_emod, h, ← Int.sub_emod])]
theorem wd_next {ns : List Int} (v : Valid ns) (x : Int) : wd ns (x + 1) ≤ wd ns x + 1 := by
  apply Nat.le_of_not_lt
  intro z
  have l := wd_le ns (x + 1)
  have h1 := (wd_iff v (x + 1) (b := wd ns x + 1) (by omega)).mpr z
  have e : x + 1 - ((wd ns x + 1 : Nat) : Int) = x - (wd ns x : Int) := by omega
  rw [e] at h1
  have h2 := (wd_iff v x (b := wd ns x) (by omega)).mp (by omega)
  exact absurd h2 (Nat.lt_irrefl _)
/-- what the loop finds -/
theorem wd_found {ns : List Int} (v : Valid ns) (x : Int) {w : Nat} (h1 : 1 ≤ w) (h2 : w ≤ ns.length) (all : ∀ b, b < w → (b : Int) < S ns (x - b)) (out : ¬ (w : Int) < S ns (x - w)) : wd ns x = w := by
  refine same_below (wd_le ns x) h2 fun b hb => ?_
  rw [← wd_iff v x hb]
  refine ⟨fun z => ?_, fun z => all b z⟩
  apply Nat.lt_of_not_le
  intro hwb
  by_cases hw : w < ns.length
  · have := (wd_iff v x hb).mp z
    exact out ((wd_iff v x hw).mpr (by omega))
  · omega

/-! ### a list of n items, by a function of the hour -/
def row (n : Nat) (f : Int → Int) : List Int := (List.range n).map fun i : Nat => f (i : Int)
theorem row_len (n : Nat) (f : Int → Int) : (row n f).length = n := by
  unfold row
  rw [List.length_map, List.length_range]
theorem row_get {n : Nat} {f : Int → Int} {i : Nat} (h : i < n) : (row n f)[i]? = some (f i) := by
  unfold row
  rw [List.getElem?_map, List.getElem?_range h]
  rfl
theorem S_row {n : Nat} {f : Int → Int} (hn : 0 < n) (x : Int) : S (row n f) x = f (x % (n : Int)) := by
  have h1 := Int.emod_nonneg x (show (n : Int) ≠ 0 by omega)
  have h2 := Int.emod_lt_of_pos x (show (0 : Int) < n by omega)
  unfold S
  rw [row_len, List.getD_eq_getElem?_getD, row_get (by omega)]
  have e : (((x % (n : Int)).toNat : Nat) : Int) = x % (n : Int) := by omega
  rw [e]
  rfl
theorem row_eq {ns : List Int} : ns = row ns.length (S ns) := by
  apply List.ext_getElem?
  intro i
  by_cases h : i < ns.length
  · rw [row_get h, S_get h, List.getElem?_eq_getElem h]
  · rw [List.getElem?_eq_none (by omega), List.getElem?_eq_none (by rw [row_len]; omega)]
theorem row_congr {n : Nat} {f g : Int → Int} (h : ∀ i : Nat, i < n → f i = g i) : row n f = row n g := by
  unfold row
  apply List.map_congr_left
  intro i hi
  exact h i (List.mem_range.mp hi)

/-! ### the other way, and from elsewhere -/
def widths (ns : List Int) : List Int := row ns.length fun x => (wd ns x : Int)
def mir (ns : List Int) : List Int := row ns.length fun x => (wd ns (-1 - x) : Int)
def trn (ns : List Int) (k : Int) : List Int := row ns.length fun x => S ns (x + k)
theorem S_mir {ns : List Int} (hp : 0 < ns.length) (x : Int) : S (mir ns) x = wd ns (-1 - x) := by
  unfold mir
  rw [S_row hp]
  show ((wd ns (-1 - x % (ns.length : Int)) : Nat) : Int) = _
  rw [wd_mod (x := -1 - x % (ns.length : Int)) (y := -1 - x) (by rw [Int.sub_emod, Int.emod_emod_of_dvd x (Int.dvd_refl _), ← Int.sub_emod])]
theorem mir_len (ns : List Int) : (mir ns).length = ns.length := row_len _ _
theorem trn_len (ns : List Int) (k : Int) : (trn ns k).length = ns.length := row_len _ _
theorem widths_len (ns : List Int) : (widths ns).length = ns.length := row_len _ _
theorem S_trn {ns : List Int} (hp : 0 < ns.length) (k x : Int) : S (trn ns k) x = S ns (x + k) := by
  unfold trn
  rw [S_row hp]
  exact S_mod (by rw [Int.emod_add_emod])
theorem valid_trn {ns : List Int} (v : Valid ns) (k : Int) : Valid (trn ns k) where
  pos := by rw [trn_len]; exact v.pos
  top := by rw [trn_len]; exact v.top
  lo := fun x => by rw [S_trn v.pos]; exact v.lo _
  hi := fun x => by rw [S_trn v.pos, trn_len]; exact v.hi _
  near := fun x => by
    rw [S_trn v.pos, S_trn v.pos, show x + 1 + k = x + k + 1 by omega]
    exact v.near _
theorem valid_mir {ns : List Int} (v : Valid ns) : Valid (mir ns) where
  pos := by rw [mir_len]; exact v.pos
  top := by rw [mir_len]; exact v.top
  lo := fun x => by
    rw [S_mir v.pos]
    have := wd_pos v (-1 - x)
    omega
  hi := fun x => by
    rw [S_mir v.pos, mir_len]
    have := wd_le ns (-1 - x)
    omega
  near := fun x => by
    rw [S_mir v.pos, S_mir v.pos]
    have := wd_next v (-1 - (x + 1))
    rw [show -1 - (x + 1) + 1 = -1 - x by omega] at this
    omega
theorem wd_trn {ns : List Int} (v : Valid ns) (k x : Int) : wd (trn ns k) x = wd ns (x + k) := by
  refine same_below (n := ns.length) (by have := wd_le (trn ns k) x; rwa [trn_len] at this) (wd_le ns _) fun b hb => ?_
  rw [← wd_iff (valid_trn v k) x (by rw [trn_len]; exact hb), ← wd_iff v (x + k) hb, S_trn v.pos, show x - (b : Int) + k = x + k - b by omega]
theorem wd_mir {ns : List Int} (v : Valid ns) (x : Int) : (wd (mir ns) x : Int) = S ns (-1 - x) := by
  have h1 := v.lo (-1 - x)
  have h2 := v.hi (-1 - x)
  have e : wd (mir ns) x = (S ns (-1 - x)).toNat := by
    refine same_below (n := ns.length) (by have := wd_le (mir ns) x; rwa [mir_len] at this) (by omega) fun b hb => ?_
    rw [← wd_iff (valid_mir v) x (by rw [mir_len]; exact hb), S_mir v.pos, show -1 - (x - (b : Int)) = -1 - x + b by omega]
    have q := wd_iff v (-1 - x + b) hb
    rw [show -1 - x + (b : Int) - b = -1 - x by omega] at q
    omega
  omega
theorem mir_mir {ns : List Int} (v : Valid ns) : mir (mir ns) = ns := by
  have e : mir (mir ns) = row ns.length (S ns) := by
    unfold mir
    rw [row_len]
    refine row_congr fun i hi => ?_
    show ((wd (mir ns) (-1 - (i : Int)) : Nat) : Int) = _
    rw [wd_mir v, show -1 - (-1 - (i : Int)) = i by omega]
  rw [e]
  exact row_eq.symm
theorem row_reverse (n : Nat) (f : Int → Int) : (row n f).reverse = row n fun x => f ((n : Int) - 1 - x) := by
  apply List.ext_getElem?
  intro i
  by_cases h : i < n
  · rw [List.getElem?_reverse (by rw [row_len]; exact h), row_get h, row_len, row_get (by omega)]
    congr 2
    omega
  · rw [List.getElem?_eq_none (by rw [List.length_reverse, row_len]; omega), List.getElem?_eq_none (by rw [row_len]; omega)]
theorem widths_rev {ns : List Int} : (widths ns).reverse = mir ns := by
  unfold widths mir
  rw [row_reverse]
  refine row_congr fun i hi => ?_
  show ((wd ns ((ns.length : Int) - 1 - i) : Nat) : Int) = _
  rw [wd_mod (x := (ns.length : Int) - 1 - i) (y := -1 - i) (by
    rw [show (ns.length : Int) - 1 - i = -1 - i + (1 : Int) * ns.length by omega, Int.add_mul_emod_self_right])]
/-- a clock handed on in two parts -/
theorem cut_trn {ns : List Int} (hp : 0 < ns.length) (k : Int) : ns.drop (k % (ns.length : Int)).toNat ++ ns.take (k % (ns.length : Int)).toNat = trn ns k := by
  have h1 := Int.emod_nonneg k (show (ns.length : Int) ≠ 0 by omega)
  have h2 := Int.emod_lt_of_pos k (show (0 : Int) < ns.length by omega)
  generalize hc : (k % (ns.length : Int)).toNat = c
  have hcl : c < ns.length := by omega
  have hck : (k % (ns.length : Int)) = (c : Int) := by omega
  apply List.ext_getElem?
  intro i
  by_cases h : i < ns.length
  · unfold trn
    rw [row_get h]
    by_cases h3 : i < ns.length - c
    · rw [List.getElem?_append_left (by rw [List.length_drop]; exact h3), List.getElem?_drop, List.getElem?_eq_getElem (by omega), ← S_get (by omega)]
      congr 1
      refine S_mod ?_
      rw [Int.add_emod (i : Int) k, hck, show ((c + i : Nat) : Int) = (i : Int) + c by omega, Int.add_emod (i : Int) c, Int.emod_eq_of_lt (a := (c : Int)) (by omega) (by omega)]
    · rw [List.getElem?_append_right (by rw [List.length_drop]; omega), List.length_drop, List.getElem?_take, if_pos (by omega), List.getElem?_eq_getElem (by omega), ← S_get (by omega)]
      congr 1
      refine S_mod ?_
      have e : (i : Int) + c = ((i - (ns.length - c) : Nat) : Int) + 1 * ns.length := by omega
      rw [Int.add_emod (i : Int) k, hck]
      have e2 := Int.add_mul_emod_self_right ((i - (ns.length - c) : Nat) : Int) 1 (ns.length : Int)
      rw [← e] at e2
      rw [← e2, Int.add_emod (i : Int) c, Int.emod_eq_of_lt (a := (c : Int)) (by omega) (by omega)]
  · rw [List.getElem?_eq_none (by rw [List.length_append, List.length_drop, List.length_take]; omega), List.getElem?_eq_none (by rw [trn_len]; omega)]
end Clk
namespace Clk
/-- the hours that one serves who begins at i; the hours of the window of i -/
def served (ns : List Int) (i : Int) : List Int := row (S ns i).toNat fun k => (i + k) % (ns.length : Int)
def serving (ns : List Int) (i : Int) : List Int := row (wd ns i) fun k => (i - wd ns i + 1 + k) % (ns.length : Int)
theorem served_len {ns : List Int} (v : Valid ns) (i : Int) : ((served ns i).length : Int) = S ns i := by
  have := v.lo i
  unfold served
  rw [row_len]
  omega
theorem serving_len (ns : List Int) (i : Int) : (serving ns i).length = wd ns i := row_len _ _
end Clk
namespace Clk
/-- the least of a row -/
def least : List Int → Int
  | [] => 0
  | [x] => x
  | x :: y :: r => min x (least (y :: r))
theorem least_mem : ∀ (l : List Int), l ≠ [] → least l ∈ l
  | [], h => absurd rfl h
  | [x], _ => List.mem_singleton.mpr rfl
  | x :: y :: r, _ => by
    have ih := least_mem (y :: r) (List.cons_ne_nil _ _)
    show min x (least (y :: r)) ∈ x :: y :: r
    rcases Int.le_total x (least (y :: r)) with h | h
    · rw [Int.min_eq_left h]
      exact List.mem_cons_self ..
    · rw [Int.min_eq_right h]
      exact List.mem_cons_of_mem _ ih
theorem least_le : ∀ (l : List Int) (z : Int), z ∈ l → least l ≤ z
  | [], z, h => nomatch h
  | [x], z, h => by
    rw [List.mem_singleton.mp h]
    exact Int.le_refl _
  | x :: y :: r, z, h => by
    show min x (least (y :: r)) ≤ z
    rcases List.mem_cons.mp h with rfl | h
    · exact Int.min_le_left _ _
    · exact Int.le_trans (Int.min_le_right _ _) (least_le (y :: r) z h)
theorem least_is {l : List Int} {m : Int} (h1 : m ∈ l) (h2 : ∀ y ∈ l, m ≤ y) : m = least l :=
  Int.le_antisymm (h2 _ (least_mem l (List.ne_nil_of_mem h1))) (least_le l m h1)
/-- stays made of any numbers: the least of what is drawn ahead, plus how far ahead -/
def made (ds : List Int) (x : Int) : Int := least (row ds.length fun a => S ds (x + a) + a)
theorem mem_row {n : Nat} {f : Int → Int} {z : Int} : z ∈ row n f ↔ ∃ i : Nat, i < n ∧ f i = z := by
  unfold row
  rw [List.mem_map]
  exact ⟨fun ⟨i, h, e⟩ => ⟨i, List.mem_range.mp h, e⟩, fun ⟨i, h, e⟩ => ⟨i, List.mem_range.mpr h, e⟩⟩
theorem made_mod {ds : List Int} {x y : Int} (h : x % (ds.length : Int) = y % (ds.length : Int)) : made ds x = made ds y := by
  unfold made
  congr 1
  refine row_congr fun i _ => ?_
  show S ds (x + i) + i = S ds (y + i) + i
  rw [S_mod (x := x + i) (y := y + i) (by rw [Int.add_emod, h, ← Int.add_emod])]
theorem made_valid {ds : List Int} (p : 0 < ds.length) (t : ds.length ≤ 48) (r : ∀ x, 1 ≤ S ds x ∧ S ds x ≤ ds.length) : Valid (row ds.length (made ds)) := by
  have lo : ∀ x, 1 ≤ made ds x := fun x => by
    have ne : row ds.length (fun a => S ds (x + a) + a) ≠ [] := fun z => by
      have := congrArg List.length z
      rw [row_len, List.length_nil] at this
      omega
    obtain ⟨i, _, e⟩ := mem_row.mp (least_mem _ ne)
    have := (r (x + i)).1
    unfold made
    rw [← e]
    omega
  have le0 : ∀ x, made ds x ≤ S ds x := fun x => by
    have := least_le (row ds.length (fun a => S ds (x + a) + a)) (S ds (x + ((0 : Nat) : Int)) + ((0 : Nat) : Int)) (mem_row.mpr ⟨0, p, rfl⟩)
    have e : x + ((0 : Nat) : Int) = x := by omega
    rw [e] at this
    unfold made
    omega
  have per : ∀ x, S (row ds.length (made ds)) x = made ds x := fun x => by
    rw [S_row p]
    exact made_mod (Int.emod_emod_of_dvd x (Int.dvd_refl _))
  refine ⟨by rw [row_len]; exact p, by rw [row_len]; exact t, fun x => by rw [per]; exact lo x, fun x => ?_, fun x => ?_⟩
  · rw [per, row_len]
    exact Int.le_trans (le0 x) (r x).2
  · rw [per, per]
    have ne : row ds.length (fun a => S ds (x + 1 + a) + a) ≠ [] := fun z => by
      have := congrArg List.length z
      rw [row_len, List.length_nil] at this
      omega
    obtain ⟨i, hi, e⟩ := mem_row.mp (least_mem _ ne)
    have e' : made ds (x + 1) = S ds (x + 1 + i) + i := e.symm
    by_cases h : i + 1 < ds.length
    · have := least_le (row ds.length (fun a => S ds (x + a) + a)) (S ds (x + ((i + 1 : Nat) : Int)) + ((i + 1 : Nat) : Int)) (mem_row.mpr ⟨i + 1, h, rfl⟩)
      have e2 : x + ((i + 1 : Nat) : Int) = x + 1 + i := by omega
      rw [e2] at this
      rw [e']
      unfold made
      omega
    · have e2 : x + 1 + (i : Int) = x + (1 : Int) * ds.length := by omega
      rw [e', e2, S_per]
      have := le0 x
      omega
/-- one stay for all hours -/
theorem even_valid {n : Nat} {c : Int} (p : 0 < n) (t : n ≤ 48) (h1 : 1 ≤ c) (h2 : c ≤ n) : Valid (List.replicate n c) := by
  have e : ∀ x, S (List.replicate n c) x = c := fun x => by
    obtain ⟨h, e⟩ := S_at (ns := List.replicate n c) (by rw [List.length_replicate]; exact p) x
    rw [e, List.getElem_replicate]
  refine ⟨by rw [List.length_replicate]; exact p, by rw [List.length_replicate]; exact t, fun x => by rw [e]; exact h1, fun x => by rw [e, List.length_replicate]; exact h2, fun x => by rw [e, e]; omega⟩
end Clk
namespace Clk
theorem serving_rev (ns : List Int) (i : Int) : (row (wd ns i) fun k => (i - k) % (ns.length : Int)).reverse = serving ns i := by
  unfold serving
  rw [row_reverse]
  refine row_congr fun k _ => ?_
  show (i - ((wd ns i : Int) - 1 - k)) % (ns.length : Int) = (i - wd ns i + 1 + k) % (ns.length : Int)
  rw [show i - ((wd ns i : Int) - 1 - k) = i - wd ns i + 1 + k by omega]
end Clk

/-! Clk2 -/
/-! sums of stays and of widths; who serves whom; the clock the other way -/
namespace Clk
def Sum : Nat → (Int → Int) → Int
  | 0, _ => 0
  | n + 1, f => Sum n f + f n
theorem sum_row (n : Nat) (f : Int → Int) : (row n f).sum = Sum n f := by
  induction n with
  | zero => rfl
  | succ n ih =>
    have e : row (n + 1) f = row n f ++ [f n] := by
      unfold row
      rw [List.range_succ, List.map_append]
      rfl
    rw [e, List.sum_append, ih]
    show Sum n f + (f n + 0) = Sum n f + f n
    omega
theorem Sum_congr : ∀ {n : Nat} {f g : Int → Int}, (∀ i : Nat, i < n → f i = g i) → Sum n f = Sum n g
  | 0, _, _, _ => rfl
  | n + 1, f, g, h => by
    show Sum n f + f n = Sum n g + g n
    rw [Sum_congr fun i hi => h i (Nat.lt_succ_of_lt hi), h n (Nat.lt_succ_self n)]
theorem Sum_add : ∀ (n : Nat) (f g : Int → Int), Sum n (fun x => f x + g x) = Sum n f + Sum n g
  | 0, _, _ => rfl
  | n + 1, f, g => by
    show Sum n (fun x => f x + g x) + (f n + g n) = Sum n f + f n + (Sum n g + g n)
    rw [Sum_add n f g]
    omega
theorem Sum_nil : ∀ n : Nat, Sum n (fun _ => 0) = 0
  | 0 => rfl
  | n + 1 => by
    show Sum n (fun _ => 0) + 0 = 0
    rw [Sum_nil n]
    rfl
theorem Sum_swap (m : Nat) (f : Int → Int → Int) : ∀ n : Nat, Sum n (fun x => Sum m fun b => f x b) = Sum m fun b => Sum n fun x => f x b
  | 0 => (Sum_nil m).symm
  | n + 1 => by
    show Sum n (fun x => Sum m fun b => f x b) + Sum m (fun b => f n b) = Sum m fun b => (Sum n fun x => f x b) + f n b
    rw [Sum_swap m f n, Sum_add]
theorem Sum_one (g : Int → Int) : ∀ n : Nat, Sum n (fun x => g (x - 1)) + g ((n : Int) - 1) = g (-1) + Sum n g
  | 0 => by
    show (0 : Int) + g (((0 : Nat) : Int) - 1) = g (-1) + 0
    rw [show (((0 : Nat) : Int) - 1) = -1 by omega]
    omega
  | n + 1 => by
    have ih := Sum_one g n
    show Sum n (fun x => g (x - 1)) + g ((n : Int) - 1) + g (((n + 1 : Nat) : Int) - 1) = g (-1) + (Sum n g + g n)
    rw [show (((n + 1 : Nat) : Int) - 1) = n by omega]
    omega
theorem Sum_shift {n : Nat} {g : Int → Int} (per : ∀ x, g (x + n) = g x) : ∀ b : Nat, Sum n (fun x => g (x - b)) = Sum n g
  | 0 => Sum_congr fun i _ => by rw [show (i : Int) - ((0 : Nat) : Int) = i by omega]
  | b + 1 => by
    have one := Sum_one (fun x => g (x - b)) n
    have p := per (-1 - b)
    have e : Sum n (fun x => g (x - ((b + 1 : Nat) : Int))) = Sum n (fun x => g (x - 1 - b)) := Sum_congr fun i _ => by rw [show (i : Int) - ((b + 1 : Nat) : Int) = (i : Int) - 1 - b by omega]
    have ih := Sum_shift per b
    have one' : Sum n (fun x => g (x - 1 - b)) + g ((n : Int) - 1 - b) = g (-1 - b) + Sum n (fun x => g (x - b)) := one
    rw [show (n : Int) - 1 - b = -1 - b + n by omega, p] at one'
    rw [e]
    omega
def ind (c : Prop) [Decidable c] : Int := if c then 1 else 0
theorem count_Sum (p : Nat → Bool) : ∀ n : Nat, (((List.range n).countP p : Nat) : Int) = Sum n (fun b => if p b.toNat = true then 1 else 0)
  | 0 => rfl
  | n + 1 => by
    rw [List.range_succ, List.countP_append]
    have ih := count_Sum p n
    show _ = Sum n (fun b => if p b.toNat = true then 1 else 0) + (if p ((n : Int)).toNat = true then 1 else 0)
    rw [Int.toNat_natCast]
    by_cases h : p n = true
    · rw [if_pos h]
      have : List.countP p [n] = 1 := by simp [h]
      omega
    · rw [if_neg h]
      have : List.countP p [n] = 0 := by simp [h]
      omega
theorem Sum_below (c : Int) (h0 : 0 ≤ c) : ∀ n : Nat, Sum n (fun b => if b < c then 1 else 0) = if (n : Int) ≤ c then (n : Int) else c
  | 0 => by
    show (0 : Int) = if (0 : Int) ≤ c then (0 : Int) else c
    rw [if_pos h0]
  | n + 1 => by
    have ih := Sum_below c h0 n
    show Sum n (fun b => if b < c then 1 else 0) + (if (n : Int) < c then 1 else 0) = _
    rw [ih]
    by_cases h1 : (n : Int) < c
    · rw [if_pos (show (n : Int) ≤ c by omega), if_pos h1, if_pos (show ((n + 1 : Nat) : Int) ≤ c by omega)]
      omega
    · rw [if_neg h1, if_neg (show ¬ ((n + 1 : Nat) : Int) ≤ c by omega)]
      by_cases h2 : (n : Int) ≤ c
      · rw [if_pos h2]
        omega
      · rw [if_neg h2]
        omega
theorem sum_widths {ns : List Int} (v : Valid ns) : (widths ns).sum = ns.sum := by
  have e1 : (widths ns).sum = Sum ns.length fun x => Sum ns.length fun b => if b < S ns (x - b) then 1 else 0 := by
    unfold widths
    rw [sum_row]
    refine Sum_congr fun x _ => ?_
    show ((wd ns x : Nat) : Int) = _
    unfold wd
    rw [count_Sum]
    refine Sum_congr fun b _ => ?_
    rw [Int.toNat_natCast]
    by_cases h : (b : Int) < S ns (x - b)
    · rw [if_pos h, if_pos (decide_eq_true h)]
    · rw [if_neg h, if_neg (by rw [decide_eq_false h]; decide)]
  have e2 : ns.sum = Sum ns.length fun x => Sum ns.length fun b => if b < S ns x then 1 else 0 := by
    have z : ns.sum = (row ns.length (S ns)).sum := congrArg List.sum row_eq
    rw [z, sum_row]
    refine Sum_congr fun x _ => ?_
    have h1 := v.lo x
    have h2 := v.hi x
    rw [Sum_below (S ns x) (by omega)]
    by_cases h : (ns.length : Int) ≤ S ns x
    · rw [if_pos h]
      omega
    · rw [if_neg h]
  rw [e1, e2, Sum_swap ns.length (fun x b => if b < S ns (x - b) then 1 else 0) ns.length, Sum_swap ns.length (fun x b => if b < S ns x then 1 else 0) ns.length]
  refine Sum_congr fun b _ => ?_
  exact Sum_shift (g := fun x => if (b : Int) < S ns x then 1 else 0) (fun x => by
    have q := S_per (ns := ns) x 1
    rw [Int.one_mul] at q
    rw [q]) b

/-! ### who serves whom -/
theorem mem_served {ns : List Int} (v : Valid ns) {b h : Int} (h0 : 0 ≤ h) (h1 : h < ns.length) : h ∈ served ns b ↔ (h - b) % (ns.length : Int) < S ns b := by
  have p := v.pos
  have r0 := Int.emod_nonneg (h - b) (show (ns.length : Int) ≠ 0 by omega)
  have r1 := Int.emod_lt_of_pos (h - b) (show (0 : Int) < ns.length by omega)
  have hi := v.hi b
  unfold served
  rw [mem_row]
  constructor
  · rintro ⟨k, hk, e⟩
    have e2 : (h - b) % (ns.length : Int) = k := by
      rw [← e, Int.emod_sub_emod, show b + (k : Int) - b = k by omega]
      exact Int.emod_eq_of_lt (by omega) (by omega)
    omega
  · intro z
    refine ⟨((h - b) % (ns.length : Int)).toNat, by omega, ?_⟩
    rw [show ((((h - b) % (ns.length : Int)).toNat : Nat) : Int) = (h - b) % (ns.length : Int) by omega, Int.add_emod_emod, show b + (h - b) = h by omega]
    exact Int.emod_eq_of_lt h0 h1
theorem mem_serving {ns : List Int} (v : Valid ns) {b h : Int} (b0 : 0 ≤ b) (b1 : b < ns.length) : b ∈ serving ns h ↔ (h - b) % (ns.length : Int) < wd ns h := by
  have p := v.pos
  have r0 := Int.emod_nonneg (h - b) (show (ns.length : Int) ≠ 0 by omega)
  have r1 := Int.emod_lt_of_pos (h - b) (show (0 : Int) < ns.length by omega)
  have hi := wd_le ns h
  unfold serving
  rw [mem_row]
  constructor
  · rintro ⟨k, hk, e⟩
    have e2 : (h - b) % (ns.length : Int) = (wd ns h : Int) - 1 - k := by
      rw [← e, Int.sub_emod_emod, show h - (h - (wd ns h : Int) + 1 + k) = (wd ns h : Int) - 1 - k by omega]
      exact Int.emod_eq_of_lt (by omega) (by omega)
    omega
  · intro z
    refine ⟨((wd ns h : Int) - 1 - (h - b) % (ns.length : Int)).toNat, by omega, ?_⟩
    rw [show ((((wd ns h : Int) - 1 - (h - b) % (ns.length : Int)).toNat : Nat) : Int) = (wd ns h : Int) - 1 - (h - b) % (ns.length : Int) by omega,
      show h - (wd ns h : Int) + 1 + ((wd ns h : Int) - 1 - (h - b) % (ns.length : Int)) = h - (h - b) % (ns.length : Int) by omega, Int.sub_emod_emod, show h - (h - b) = b by omega]
    exact Int.emod_eq_of_lt b0 b1
theorem served_serving {ns : List Int} (v : Valid ns) {b h : Int} (b0 : 0 ≤ b) (b1 : b < ns.length) (h0 : 0 ≤ h) (h1 : h < ns.length) : h ∈ served ns b ↔ b ∈ serving ns h := by
  have p := v.pos
  have r0 := Int.emod_nonneg (h - b) (show (ns.length : Int) ≠ 0 by omega)
  have r1 := Int.emod_lt_of_pos (h - b) (show (0 : Int) < ns.length by omega)
  rw [mem_served v h0 h1, mem_serving v b0 b1]
  have q := wd_iff v h (b := ((h - b) % (ns.length : Int)).toNat) (by omega)
  have e : S ns (h - ((((h - b) % (ns.length : Int)).toNat : Nat) : Int)) = S ns b := S_mod (by
    rw [show ((((h - b) % (ns.length : Int)).toNat : Nat) : Int) = (h - b) % (ns.length : Int) by omega, Int.sub_emod_emod, show h - (h - b) = b by omega])
  rw [e] at q
  omega

/-! ### the other way -/
theorem glass_mod {n y : Int} (hn : 0 < n) : n - 1 - y % n = (n - 1 - y) % n := by
  have r0 := Int.emod_nonneg y (show n ≠ 0 by omega)
  have r1 := Int.emod_lt_of_pos y hn
  have e := Int.sub_emod_emod (n - 1) y n
  rw [← e]
  exact (Int.emod_eq_of_lt (by omega) (by omega)).symm
theorem row_map (n : Nat) (f g : Int → Int) : (row n f).map g = row n fun x => g (f x) := by
  unfold row
  rw [List.map_map]
  rfl
theorem served_mir {ns : List Int} (v : Valid ns) (h : Int) : served (mir ns) ((ns.length : Int) - 1 - h) = ((serving ns h).map fun x => (ns.length : Int) - 1 - x).reverse := by
  have p := v.pos
  have e : S (mir ns) ((ns.length : Int) - 1 - h) = wd ns h := by
    rw [S_mir p]
    have z : wd ns (-1 - ((ns.length : Int) - 1 - h)) = wd ns h := wd_mod (by
      have q := Int.add_mul_emod_self_right (-1 - ((ns.length : Int) - 1 - h)) 1 (ns.length : Int)
      rw [← q, show -1 - ((ns.length : Int) - 1 - h) + 1 * (ns.length : Int) = h by omega])
    rw [z]
  unfold served serving
  rw [e, mir_len, row_map, row_reverse, Int.toNat_natCast]
  refine row_congr fun k _ => ?_
  show ((ns.length : Int) - 1 - h + k) % (ns.length : Int) = (ns.length : Int) - 1 - (h - wd ns h + 1 + ((wd ns h : Int) - 1 - k)) % (ns.length : Int)
  rw [glass_mod (by omega)]
  congr 1
  omega
theorem serving_mir {ns : List Int} (v : Valid ns) (h : Int) : serving (mir ns) ((ns.length : Int) - 1 - h) = ((served ns h).map fun x => (ns.length : Int) - 1 - x).reverse := by
  have p := v.pos
  have h1 := v.lo h
  have e : (wd (mir ns) ((ns.length : Int) - 1 - h) : Int) = S ns h := by
    rw [wd_mir v]
    have q := S_per (ns := ns) (-1 - ((ns.length : Int) - 1 - h)) 1
    rw [← q, show -1 - ((ns.length : Int) - 1 - h) + 1 * (ns.length : Int) = h by omega]
  have e2 : wd (mir ns) ((ns.length : Int) - 1 - h) = (S ns h).toNat := by omega
  unfold serving served
  rw [mir_len, row_map, row_reverse, e2]
  refine row_congr fun k _ => ?_
  show ((ns.length : Int) - 1 - h - ((S ns h).toNat : Int) + 1 + k) % (ns.length : Int) = (ns.length : Int) - 1 - (h + (((S ns h).toNat : Int) - 1 - k)) % (ns.length : Int)
  rw [glass_mod (by omega)]
  congr 1
  omega
end Clk

/-! Clk3 -/
/-! how often a begin is among those who serve: its stay; a stay set to what it is -/
namespace Clk
/-- rows one behind another, from place i on -/
def catI (g : Nat → List Int) (i : Nat) : Nat → List Int
  | 0 => []
  | k + 1 => g i ++ catI g (i + 1) k
theorem cat_countP {g : Nat → List Int} {b : Int} {p : Nat → Bool} : ∀ (k i : Nat), (∀ j, i ≤ j → j < i + k → (g j).count b = if p j = true then 1 else 0) → (catI g i k).count b = (List.range' i k).countP p
  | 0, _, _ => rfl
  | k + 1, i, h => by
    show (g i ++ catI g (i + 1) k).count b = _
    rw [List.count_append, h i (Nat.le_refl _) (by omega), cat_countP k (i + 1) (fun j h1 h2 => h j (by omega) (by omega)), List.range'_succ, List.countP_cons]
    omega
theorem cat_len {g : Nat → List Int} {m : Nat} : ∀ (k i : Nat), (∀ j, i ≤ j → j < i + k → (g j).length ≤ m) → (catI g i k).length ≤ k * m
  | 0, _, _ => Nat.zero_le _
  | k + 1, i, h => by
    show (g i ++ catI g (i + 1) k).length ≤ _
    rw [List.length_append, Nat.succ_mul]
    have h1 := h i (Nat.le_refl _) (by omega)
    have h2 := cat_len k (i + 1) fun j h1 h2 => h j (by omega) (by omega)
    omega
theorem serving_nodup (ns : List Int) (h : Int) (p : 0 < ns.length) : (serving ns h).Nodup := by
  unfold serving row List.Nodup
  rw [List.pairwise_map]
  refine List.Pairwise.imp_of_mem ?_ List.pairwise_lt_range
  intro a b ha hb hlt e
  have h1 := List.mem_range.mp ha
  have h2 := List.mem_range.mp hb
  have w := wd_le ns h
  have n0 : (ns.length : Int) ≠ 0 := by omega
  have z : ((b : Int) - (a : Int)) % (ns.length : Int) = 0 := by
    have q := Int.emod_emod_of_dvd
    have : (h - (wd ns h : Int) + 1 + (b : Int) - (h - (wd ns h : Int) + 1 + (a : Int))) % (ns.length : Int) = 0 := Int.emod_eq_emod_iff_emod_sub_eq_zero.mp e.symm
    rw [show (h - (wd ns h : Int) + 1 + (b : Int) - (h - (wd ns h : Int) + 1 + (a : Int))) = (b : Int) - a by omega] at this
    exact this
  rw [Int.emod_eq_of_lt (by omega) (by omega)] at z
  omega
theorem serving_count {ns : List Int} (v : Valid ns) {b h : Nat} (hb : b < ns.length) (hh : h < ns.length) : (serving ns (h : Int)).count (b : Int) = if decide (((h : Int) - b) % (ns.length : Int) < S ns b) = true then 1 else 0 := by
  rw [(serving_nodup ns h v.pos).count]
  have q := served_serving v (b := b) (h := h) (by omega) (by omega) (by omega) (by omega)
  rw [mem_served v (by omega) (by omega)] at q
  by_cases e : ((h : Int) - b) % (ns.length : Int) < S ns b
  · rw [if_pos (q.mp e), decide_eq_true e, if_pos rfl]
  · rw [if_neg fun z => e (q.mpr z), decide_eq_false e, if_neg Bool.false_ne_true]
/-- the holders of all hours -/
def holders (ns : List Int) : List Int := catI (fun h => serving ns (h : Int)) 0 ns.length
theorem holders_len (ns : List Int) (t : ns.length ≤ 48) : (holders ns).length ≤ 2304 := by
  have h := cat_len (g := fun h => serving ns (h : Int)) (m := 48) ns.length 0 fun j _ _ => by
    rw [serving_len]
    exact Nat.le_trans (wd_le _ _) t
  unfold holders
  omega
theorem holders_count {ns : List Int} (v : Valid ns) {b : Nat} (hb : b < ns.length) : ((holders ns).count (b : Int) : Int) = S ns b := by
  have p := v.pos
  have hi := v.hi b
  have lo := v.lo b
  unfold holders
  rw [cat_countP (p := fun h => decide (((h : Int) - b) % (ns.length : Int) < S ns b)) ns.length 0 (fun j _ hj => serving_count v hb (by omega)), ← List.range_eq_range', count_Sum]
  have e1 : Sum ns.length (fun x => if (decide (((x.toNat : Int) - b) % (ns.length : Int) < S ns b)) = true then 1 else 0) = Sum ns.length (fun x => (fun y => if y % (ns.length : Int) < S ns b then 1 else 0) (x - b)) := Sum_congr fun i hi => by
    simp only [Int.toNat_natCast, decide_eq_true_eq]
  rw [e1, Sum_shift (g := fun y => if y % (ns.length : Int) < S ns b then 1 else 0) (fun x => by
    show (if (x + (ns.length : Int)) % (ns.length : Int) < S ns b then (1 : Int) else 0) = _
    rw [Int.add_emod_right]) b]
  rw [Sum_congr (g := fun y => if y < S ns b then 1 else 0) fun i hi => by
    show (if (i : Int) % (ns.length : Int) < S ns b then (1 : Int) else 0) = _
    rw [Int.emod_eq_of_lt (by omega) (by omega)]]
  rw [Sum_below _ (by omega)]
  by_cases e : (ns.length : Int) ≤ S ns b
  · rw [if_pos e]
    omega
  · rw [if_neg e]
theorem set_same {ns : List Int} {i : Nat} (h : i < ns.length) : ns.set ((i : Int)).toNat (S ns i) = ns := by
  rw [Int.toNat_natCast, S_get h]
  exact List.set_getElem_self h
end Clk

/-! Clk4 -/
/-! clocks turned twice, turned and mirrored; even clocks -/
namespace Clk
theorem trn_trn {ns : List Int} (hp : 0 < ns.length) (a b : Int) : trn (trn ns a) b = trn ns (a + b) := by
  unfold trn
  rw [row_len]
  refine row_congr fun i _ => ?_
  have z := S_trn (ns := ns) hp a ((i : Int) + b)
  unfold trn at z
  rw [z, show (i : Int) + b + a = i + (a + b) by omega]
theorem trn_zero {ns : List Int} (k : Int) (h : k % (ns.length : Int) = 0) : trn ns k = ns := by
  have e : trn ns k = row ns.length (S ns) := row_congr fun i _ => S_mod (by
    rw [Int.add_emod, h, Int.add_zero, Int.emod_emod])
  rw [e, ← row_eq]
theorem trn_back {ns : List Int} (hp : 0 < ns.length) (k : Int) : trn (trn ns k) (0 - k) = ns := by
  rw [trn_trn hp, show k + (0 - k) = 0 by omega]
  exact trn_zero 0 (Int.zero_emod _)
theorem trn_full {ns : List Int} : trn ns (ns.length : Int) = ns := trn_zero _ (Int.emod_self)
theorem S_widths {ns : List Int} (hp : 0 < ns.length) (x : Int) : S (widths ns) x = wd ns x := by
  unfold widths
  rw [S_row hp]
  show ((wd ns (x % (ns.length : Int)) : Nat) : Int) = wd ns x
  rw [wd_mod (Int.emod_emod ..)]
theorem widths_trn {ns : List Int} (v : Valid ns) (k : Int) : widths (trn ns k) = trn (widths ns) k := by
  have e : widths (trn ns k) = row ns.length fun x => (wd (trn ns k) x : Int) := by
    unfold widths
    rw [trn_len]
  have e2 : trn (widths ns) k = row ns.length fun x => S (widths ns) (x + k) := by
    unfold trn
    rw [widths_len]
  rw [e, e2]
  refine row_congr fun i _ => ?_
  rw [wd_trn v, S_widths v.pos]
theorem widths_mir {ns : List Int} (v : Valid ns) : widths (mir ns) = ns.reverse := by
  have e := widths_rev (ns := mir ns)
  rw [mir_mir v] at e
  have z := congrArg List.reverse e
  rw [List.reverse_reverse] at z
  exact z
theorem mir_trn {ns : List Int} (v : Valid ns) (k : Int) : mir (trn ns k) = trn (mir ns) (0 - k) := by
  have e : mir (trn ns k) = row ns.length fun x => (wd (trn ns k) (-1 - x) : Int) := by
    unfold mir
    rw [trn_len]
  have e2 : trn (mir ns) (0 - k) = row ns.length fun x => S (mir ns) (x + (0 - k)) := by
    unfold trn
    rw [mir_len]
  rw [e, e2]
  refine row_congr fun i _ => ?_
  rw [wd_trn v, S_mir v.pos, show -1 - ((i : Int) + (0 - k)) = -1 - (i : Int) + k by omega]
theorem row_const (n : Nat) (c : Int) : row n (fun _ => c) = List.replicate n c := by
  unfold row
  rw [List.map_const', List.length_range]
theorem S_even {n : Nat} {c : Int} (hn : 0 < n) (x : Int) : S (List.replicate n c) x = c := by
  rw [← row_const, S_row hn]
theorem wd_even {n : Nat} {c : Int} (hn : 0 < n) (t : n ≤ 48) (h1 : 1 ≤ c) (h2 : c ≤ n) (x : Int) : (wd (List.replicate n c) x : Int) = c := by
  have v := even_valid hn t h1 h2
  have l : (List.replicate n c).length = n := List.length_replicate
  have e : wd (List.replicate n c) x = c.toNat := by
    refine same_below (n := n) (by have := wd_le (List.replicate n c) x; omega) (by omega) fun b hb => ?_
    have z := wd_iff v x (b := b) (by omega)
    rw [S_even hn] at z
    omega
  rw [e]
  omega
theorem widths_even {n : Nat} {c : Int} (hn : 0 < n) (t : n ≤ 48) (h1 : 1 ≤ c) (h2 : c ≤ n) : widths (List.replicate n c) = List.replicate n c := by
  have l : (List.replicate n c).length = n := List.length_replicate
  have e : widths (List.replicate n c) = row n fun x => (wd (List.replicate n c) x : Int) := by
    unfold widths
    rw [l]
  rw [e, row_congr (g := fun _ => c) fun i _ => wd_even hn t h1 h2 (i : Int), row_const]
theorem mir_even {n : Nat} {c : Int} (hn : 0 < n) (t : n ≤ 48) (h1 : 1 ≤ c) (h2 : c ≤ n) : mir (List.replicate n c) = List.replicate n c := by
  rw [← widths_rev, widths_even hn t h1 h2, List.reverse_replicate]
theorem trn_even {n : Nat} {c : Int} (hn : 0 < n) (k : Int) : trn (List.replicate n c) k = List.replicate n c := by
  have e : trn (List.replicate n c) k = row n fun _ => c := by
    unfold trn
    rw [List.length_replicate]
    exact row_congr fun i _ => S_even hn _
  rw [e, row_const]
end Clk

/-! Own -/
/-! rules of my own over the layer -/
namespace Hn
open PySem L2 PyProof.Rows
section
variable {X : Cx}
/-- xs[i] read for xs[i] += e -/
theorem get_list : PGet X (rIxL X.K) := by
  intro pins s σ H o i ov iv Q I ro ri h
  obtain ⟨p, xs, k, z, rfl, rfl, hq, he, q⟩ := h
  cases ro
  obtain ⟨t, rfl⟩ := ri
  obtain ⟨its, r, pl, hz⟩ := I.list hq
  obtain ⟨j, h1, h2, h3, h4, h5⟩ := atI_get he
  obtain ⟨w, ew, rw'⟩ := r.get h2
  have hl := r.length
  have hn := line63
  have fin : EP X pins σ Q w s := ⟨z, H, I, rw', q⟩
  by_cases h0 : 0 ≤ k
  · have hj : k.toNat = j := by
      rw [seqIndex_of h0 h5] at h1
      exact Option.some.inj h1
    exact wpAny_getItem_list pl.isList h0 (by omega) (by rw [hj]; simpa using ew) fin
  · have hj : (k + (its.toArray.size : Int)).toNat = j := by
      rw [seqIndex_neg (by omega) h4] at h1
      rw [List.size_toArray, ← hl]
      exact Option.some.inj h1
    exact wpAny_getItem_list_neg pl.isList (by omega) (by rw [List.size_toArray] <;> omega) (by omega) (by rw [hj]; simpa using ew) fin
theorem PI.or {tg iter : Expr} {w1 w2 : TI} (h1 : PI X tg iter w1) (h2 : PI X tg iter w2) : PI X tg iter (fun σ H R => w1 σ H R ∨ w2 σ H R) :=
  ⟨fun pins s σ H R I h => h.elim (h1.run pins s σ H R I) (h2.run pins s σ H R I)⟩
/-- a list or a tuple, walked -/
theorem pi_seq {tg l : Expr} {tl : TE} (hl : PE X l tl) : PI X tg l (fun σ H R => iList X.K tl σ H R ∨ iTup X.K tl σ H R) := PI.or (pi_list hl) (pi_tup hl)
end
end Hn

/-! Own2 -/
namespace Hn
open PySem PySem.Spec L2
open PyProof.Rows hiding St
/-- '0' * k, both small -/
theorem op_mul_str {X : Cx} : OpR X (binaryOp .Mult) (fun x y H Q => ∃ z k, x = .str z ∧ y = .int k ∧ z.length ≤ 100 ∧ 0 ≤ k ∧ k ≤ 1000 ∧ Q (.str (Txt.mul z k)) H) := by
  intro pins s σ H x y v u Q I rx ry h
  obtain ⟨z, k, rfl, rfl, h1, h2, h3, q⟩ := h
  obtain ⟨t, rfl⟩ := rx
  obtain ⟨t', rfl⟩ := ry
  exact SB.mul (mulOk_of 100 1000 h1 h3 (by omega) (by decide) (by decide)) fun a b => ⟨.str _, H, I.tok _, ⟨_, rfl⟩, q⟩

set_option maxHeartbeats 1000000 in
theorem meets_enum1 {v : Value} {o : Obj} {G : Heap → Prop} (B : Begins v o G) :
    Meets (Builtin.«enumerate.__new__» ⟨[.type "enumerate", v], []⟩) (fun _ R s => G s.heap ∧
      R (.ok (.ret (.ref (s.heap.push o).objs.size))) { s with heap := (s.heap.push o).push { cls := .type "enumerate", data := .fields #[.none, .bool false, .ref s.heap.objs.size, rawInt 0, .none, .none] } }) :=
  .of_wp fun prog w A R s h => by
    obtain ⟨hp, g, d, tk, os⟩ := s
    obtain ⟨hG, h⟩ := h
    have hsE := sub_enumerate
    have it {A' : Around} {E : Value → Shared → Prop} {Q : Value → Shared → Prop} (q : Q (.ref hp.objs.size) ⟨hp.push o, g, d, tk, os⟩) : wpAny (model prog w) A' (pyIter v) Q E ⟨hp, g, d, tk, os⟩ :=
      B.iter prog w _ _ ⟨hp, g, d, tk, os⟩ _ hG q
    wp_walk using it
    refine wpAny_stack_any fun _ => wpAny_pure ?_
    split
    · rename_i c _ _ _ _ _
      cases (c == Value.type "enumerate") <;> (wp_walk using it; exact ⟨_, rfl, h⟩)
    · wp_walk using it
      exact ⟨_, rfl, h⟩
/-- enumerate(v): its two new cells -/
theorem enum_made {prog : Program} {w : World} {A : Around} {E : Value → Shared → Prop} {s : Shared} {v : Value} {o : Obj} {G : Heap → Prop} {Q : Value → Shared → Prop} (B : Begins v o G) (h1 : G s.heap)
    (h : ∀ h', IsEnum h' (s.heap.objs.size + 1) s.heap.objs.size 0 .none → h'.get? s.heap.objs.size = some o → (∀ b u, s.heap.get? b = some u → h'.get? b = some u) → Q (.ref (s.heap.objs.size + 1)) { s with heap := h' }) :
    wpAny (model prog w) A (call (.type "enumerate") [v]) Q E s := by
  refine callType_new F.called_enumerate (by decide) (F.typeCall_enumerate_1 _) (F.newCall_enumerate_1 _) (fun obj => F.args_object_init_2 obj _) F.entry_enumerate_new (meets_enum1 B) ⟨h1, ?_⟩
  have z1 : (s.heap.push o).objs.size = s.heap.objs.size + 1 := Heap.size_push _ _
  show _ ∧ _
  rw [z1]
  have en : IsEnum ((s.heap.push o).push { cls := .type "enumerate", data := .fields #[.none, .bool false, .ref s.heap.objs.size, rawInt 0, .none, .none] }) (s.heap.objs.size + 1) s.heap.objs.size 0 .none := by
    have q := Heap.get?_push_size (s.heap.push o) (o := { cls := .type "enumerate", data := .fields #[.none, .bool false, .ref s.heap.objs.size, rawInt 0, .none, .none] }) rfl
    rw [z1] at q
    exact q
  refine ⟨⟨_, en, rfl⟩, h _ en (Heap.get?_push_of_some _ (Heap.get?_push_size _ B.free)) fun b u x => ?_⟩
  exact Heap.get?_push_of_some _ (Heap.get?_push_of_some _ x)

/-- the tuple at a as it stands at each turn, each item in a new pair -/
def ItE (K : PySem.W.Frag) (a : Addr) : It :=
  ⟨fun i H => ∃ (xs : List V) (x : V), SqT K H a xs ∧ xs[i]? = some x, fun i H v H' => ∃ T x, v = .ref T ∧ H T = none ∧ H' = upd H T (.tup [.int (i : Nat), x]) ∧ ∀ xs, SqT K H a xs → xs[i]? = some x,
    fun i H => ∃ xs : List V, SqT K H a xs ∧ xs.length ≤ i⟩
theorem enumT_end {prog : Program} {w : World} {A : Around} {E : Value → Shared → Prop} {s : Shared} {e it l : Addr} {i : Nat} {c : Int} {items : Array Value} {old : Value} {Q : Option Value → Shared → Prop} (hh : A.handled = none)
    (he : IsEnum s.heap e it c old) (hit : s.heap.IsTupleIter it l i) (hl : s.heap.IsTuple l items) (hx : items[i]? = none) (hQ : ∀ h', Heap.ExtBut it s.heap h' → Q none { s with heap := h' }) : wpAny (model prog w) A (pyNext (.ref e)) Q E s := by
  have ty : s.TypeIs (.ref e) "enumerate" := ⟨_, he, rfl⟩
  unfold pyNext
  refine wpAny_bind (wpAny_attempt (wpAny_callSpecial?_slot (name := Str.ofString "__next__") ty F.slot_enumerate_next (wpAny_call_entry F.slot_enumerate_next ty F.entry_enumerate_next ?_ (F.args_enumerate_next_1 _))))
  show wpAny _ _ (field (.ref e) 2 >>= _) _ _ _
  refine wpAny_bind (wpAny_field he rfl (x := .ref it) rfl (wpAny_bind (wpAny_nextOf_tuple_end (by first | exact hh | (show A.in1.handled = none; exact hh)) hit hl hx fun h' x he' hx' => ?_)))
  obtain ⟨o, ho, hc⟩ := hx'
  exact wpAny_bind (wpAny_isInstance (T := "StopIteration") (b := true) ⟨o, ho, hc⟩ isSubtype_stop (wpAny_pure (hQ _ he')))
theorem turn_enumT {P : Program} {w : World} {K : PySem.W.Frag} {elts : List Expr} {kk : Nat} {tpos : Pos} (a e it : Addr) :
    Turn P w K (.Tuple elts kk tpos) (ItE K a) [e, it] e (fun i h => (∃ old, IsEnum h e it ((i : Nat) : Int) old) ∧ h.IsTupleIter it a i ∧ e ≠ it) where
  mem := by simp
  obj := fun i h st b hb => by
    obtain ⟨⟨old, he⟩, ⟨o, ho, hc, hd⟩, _⟩ := st
    have hb' : b = e ∨ b = it := by simpa using hb
    rcases hb' with rfl | rfl
    · exact ⟨_, he, fun v q => nomatch q⟩
    · exact ⟨o, ho, fun v q => by rw [hd] at q; cases q⟩
  keep := fun i h h' st k => by
    obtain ⟨⟨old, he⟩, hi, hne⟩ := st
    exact ⟨⟨old, k e (by simp) _ he⟩, hi.at fun o q => k it (by simp) o q, hne⟩
  item := by
    intro X hP hw hK hc i pins s σ H E I hf st hg
    subst hP hw hK
    obtain ⟨⟨old, he⟩, hit, hne⟩ := st
    obtain ⟨xs, x, hq, hx⟩ := hg
    obtain ⟨its, rv, p, hz⟩ := I.tuple hq
    obtain ⟨u, hu, ru⟩ := rv.get hx
    have le : e < s.heap.objs.size := Heap.lt_size he
    have li : it < s.heap.objs.size := by
      obtain ⟨_, q, _⟩ := hit
      exact Heap.lt_size q
    have hae : a ≠ e := by
      rintro rfl
      obtain ⟨o, h1, h2, _⟩ := p
      rw [show s.heap.get? a = some _ from he] at h1
      cases h1
      have h3 : Value.type "enumerate" = Value.type "tuple" := h2
      exact absurd h3 (by decide)
    have hai : a ≠ it := by
      rintro rfl
      obtain ⟨o, h1, h2, _⟩ := p
      obtain ⟨o', h3, h4, _⟩ := hit
      rw [h3] at h1
      cases h1
      rw [h4] at h2
      have h5 : Value.type "tuple_iterator" = Value.type "tuple" := h2
      exact absurd h5 (by decide)
    have D := Draws.tuple (prog := X.prog) (w := X.w) (A := X.A.in1) (I.ok.hd hc) it a hai its.toArray
    refine wpAny_pyNext_enum_itemC D he ⟨hit, p⟩ (i := i) (by
      have := (List.getElem?_eq_some_iff.mp hu).1
      simpa using this) hne (by simp [hne, Ne.symm hae]) fun y h' tk hy ho hs hT hsz hk => ?_
    have ey : y = u := by
      have hy' : its[i]? = some y := by simpa using hy
      rw [hu] at hy'
      exact (Option.some.inj hy').symm
    subst ey
    refine ⟨_, rfl, wpAny_letOwnedTupleGo_enum (s := { s with heap := h', toks := tk + 1 }) ho fun h'' he' sb => ?_⟩
    have hT2 : h''.get? s.heap.objs.size = some { cls := .type "tuple", data := .seq #[.int i tk, y] } := (sb.2 _ (Nat.ne_of_gt le)).trans hT
    have new : ObjOk X.prog X.w (upd H s.heap.objs.size (.tup [.int (i : Nat), x])) h'' s.heap.objs.size (.tup [.int (i : Nat), x]) :=
      ⟨by show 2 ≤ sizeLine; decide, [.int i tk, y], .cons ⟨_, rfl⟩ (.cons ru .nil), ⟨_, hT2, rfl, _, rfl⟩⟩
    have I1 : Inv X pins σ (upd H s.heap.objs.size (.tup [.int (i : Nat), x])) { s with heap := h'', toks := tk + 1 } :=
      I.turnedNew (ch := [e, it]) (fun b ob hb q => (sb.2 b (fun z => hb (by simp [z]))).trans (hk b ob (fun z => hb (by simp [z])) (fun z => hb (by simp [z])) q)) hf (Nat.le_refl _) new
    refine ⟨.ref s.heap.objs.size, _, I1, rfl, ⟨_, x, rfl, I.hok.fresh (Nat.le_refl _), rfl, fun ys hy => by rw [I.tuple_inj hy hq]; exact hx⟩, ⟨⟨y, ?_⟩, hs.1.at fun o q => (sb.2 it (Ne.symm hne)).trans q, hne⟩, fun b hb => ?_⟩
    · rw [show ((i + 1 : Nat) : Int) = (i : Int) + 1 by omega]
      exact he'
    · have lb : b < s.heap.objs.size := by
        have hb' : b = e ∨ b = it := by simpa using hb
        rcases hb' with rfl | rfl
        · exact le
        · exact li
      rw [upd_ne (Nat.ne_of_lt lb)]
      exact (hf b hb).1
  done := by
    intro X hP hw hK hc i pins s σ H E I hf st hg
    subst hP hw hK
    obtain ⟨⟨old, he⟩, hit, hne⟩ := st
    obtain ⟨xs, hq, hx⟩ := hg
    obtain ⟨its, rv, p, hz⟩ := I.tuple hq
    obtain ⟨f0, f1, f2, f3, f4, f5⟩ := hf it (by simp)
    have hl := rv.length
    exact enumT_end (I.ok.hd hc) he hit p (by simp; omega) fun h' eb => ⟨rfl, I.turned (t' := s.toks) (fun b o hb q => eb b o hb q) f0 f1 f3 f4 f5⟩
  self := fun A i s Q E st h => let ⟨⟨_, he⟩, _⟩ := st; wpAny_pyIter_enum he h
def iEnT (K : PySem.W.Frag) (ta : TA) : TI := fun σ H R => ta σ H fun vs H1 => ∃ a xs, vs = [.ref a] ∧ SqT K H1 a xs ∧ R (ItE K a) H1
theorem pi_enumT {X : Cx} {e : Expr} {ta : TA} {p pos tpos : Pos} {elts : List Expr} {kk : Nat} (hg : Gl X "enumerate") (hm : X.mg "enumerate" = none) (ha : PA X [e] ta) (hs : starEach [e] X.env = [(false, eval e X.env)] := by rfl) :
    PI X (.Tuple elts kk tpos) (.Call (.Name "enumerate" p) [e] [] pos) (iEnT X.K ta) := by
  refine ⟨fun pins s σ H R I h => Call_ (ld_blt I hg hm boot_enumerate (PyProof.Rows.callWith_type1 (thn (ha.run pos pins s σ H _ I h) fun us s1 ⟨vs, H1, I1, r1, a, xs, ex, hq, q⟩ => ?_) hs rfl))⟩
  subst ex
  cases r1 with
  | cons r rr =>
    cases rr
    cases r
    obtain ⟨its, rv, p', hz⟩ := I1.tuple hq
    refine enum_made (begins_tuple a its.toArray) p' fun h' he hit hk => wpAny_pyIter_enum he ?_
    have I2 : Inv X pins σ H1 { s1 with heap := h' } := I1.kept (t' := s1.toks) hk
    refine ⟨s1.heap.objs.size + 1, [s1.heap.objs.size + 1, s1.heap.objs.size], _, _, H1, rfl, I2, turn_enumT a (s1.heap.objs.size + 1) s1.heap.objs.size, ⟨⟨.none, he⟩, ⟨_, hit, rfl, rfl⟩, Nat.succ_ne_self _⟩, fun b hb => ?_, q⟩
    have lb : s1.heap.objs.size ≤ b := by
      have hb' : b = s1.heap.objs.size + 1 ∨ b = s1.heap.objs.size := by simpa using hb
      rcases hb' with rfl | rfl
      · exact Nat.le_succ _
      · exact Nat.le_refl _
    exact I1.fpOk lb (I1.hok.fresh lb)
/-- enumerate of a list or a tuple -/
theorem pi_enumQ {X : Cx} {e : Expr} {ta : TA} {p pos tpos : Pos} {elts : List Expr} {kk : Nat} (hg : Gl X "enumerate") (hm : X.mg "enumerate" = none) (ha : PA X [e] ta) (hs : starEach [e] X.env = [(false, eval e X.env)] := by rfl) :
    PI X (.Tuple elts kk tpos) (.Call (.Name "enumerate" p) [e] [] pos) (fun σ H R => iEnum X.K ta σ H R ∨ iEnT X.K ta σ H R) := PI.or (pi_enum hg hm ha hs) (pi_enumT hg hm ha hs)
end Hn

/-! Own3 -/
namespace Hn
open PySem PySem.Spec L2
open PyProof.Rows hiding St
theorem fnIn_of {K : PySem.W.Frag} {x qual : Str} {st : Stmt} {f : Addr} {fd : FuncData} (F : Fun K x qual st f fd) : PySem.W.fnIn K f = true := by
  obtain ⟨oc, od, kV, doc, pm, an, cdv, ct, osl, rfl, lk, hcd⟩ := F.ex
  unfold PySem.W.fnIn
  rw [lk]
/-- o[i] by an own __getitem__ -/
def tOwnIx (C : Addr) (sp : Sp) (E : XK) (to ti : TE) : TE := fun σ H Q => to σ H fun x H1 => ti σ H1 fun y H2 => ∃ a dx fs, x = .ref a ∧ H2 a = some (.ins C dx fs) ∧ sp [.ref a, y] H2 Q E
theorem pe_own {X : Cx} {CX : CXT} {k : Nat} {C f : Addr} {fd : FuncData} {ps : List Str} {sp : Sp} {E : XK} {o i : Expr} {pos : Pos} {to ti : TE} (ho : PE X o to) (hi : PE X i ti) (hm : Meth X.K C "__getitem__" f) (hf : PySem.W.fnIn X.K f = true)
    (F : FnOk X.prog X.w X.K X.mg X.base CX k f fd ps sp) (hr : Room (k + 1) X.A) (hb : Binds X.K fd ps []) (hx : Passes CX X.nox E)
    (hsl : ∀ (x : Addr) (v : Value), subscripted i true (.ref x) v = runValue (.builtin "lifetime.subscript" ⟨[.ref x, v], []⟩) := by intro _ _; with_unfolding_all rfl) :
    PE X (.Subscript o i pos) (tOwnIx C sp E to ti) := by
  refine ⟨fun pins s σ H Q I h => Subscript_ (thn (ho.run pins s σ H _ I h) fun u s1 ⟨x, H1, I1, rx, q1⟩ => thn (hi.run pins s1 σ H1 _ I1 q1) fun v s2 ⟨y, H2, I2, ry, a, dx, fs, ex, ea, q⟩ => ?_)⟩
  subst ex
  obtain rfl : u = Value.ref a := rx
  obtain ⟨mA, J, _⟩ := ins_get I2.hok ea
  obtain ⟨od, J, _⟩ := J.look
  obtain ⟨m, hF⟩ := I2.fr
  have hl : ([V.ref a, y] : List V).length = ps.length := F.len _ _ _ _ q
  have r2 : Vals [V.ref a, y] [Value.ref a, v] := .cons rfl (.cons ry .nil)
  refine PySem.W.sub_K hF I2.ok.mod.kin J hm.at_ hf hm.fn (wpAny_call (codeAny_mono (F.run X.A.in1 X.stack s2 H2 ⟨[.ref a, v], []⟩ [.ref a, v] [.ref a, y] Q E hr.in1 I2.env0.in1 (by
    have z := hb s2 [.ref a, v] I2.kIn (by simpa using hl)
    simpa using z) r2 q) fun r s' hq => ?_)) (hsl a v)
  cases r with
  | error er => exact False.elim (hx pins σ H2 s2 er s' (I2.wish _) hq)
  | ok fl =>
    cases fl with
    | ret u => exact I2.after hq
    | next => exact False.elim hq
    | brk => exact False.elim hq
    | cont => exact False.elim hq
end Hn

/-! Hp -/
/-! words for heaps -/
namespace Hn
open PySem L2
/-- the ints ns, as V's -/
abbrev iv (ns : List Int) : List V := ns.map V.int
theorem iv_len (ns : List Int) : (iv ns).length = ns.length := List.length_map ..
theorem iv_get {ns : List Int} {i : Nat} (h : i < ns.length) : (iv ns)[i]? = some (.int ns[i]) := by
  unfold iv
  rw [List.getElem?_map, List.getElem?_eq_getElem h]
  rfl
/-- at a: a list or a tuple of the ints ns -/
def Ints (K : PySem.W.Frag) (H : Hp) (a : Addr) (ns : List Int) : Prop := SqL K H a (iv ns) ∨ SqT K H a (iv ns)
/-- all that was tracked is as it was, but what stands at b -/
def But (b : Addr) (H H' : Hp) : Prop := ∀ c o, c ≠ b → H c = some o → H' c = some o
theorem But.refl (b : Addr) (H : Hp) : But b H H := fun _ _ _ h => h
theorem But.trans {b : Addr} {H H1 H2 : Hp} (x : But b H H1) (y : But b H1 H2) : But b H H2 := fun c o n h => y c o n (x c o n h)
theorem But.of {b : Addr} {H H1 : Hp} (x : Same H H1) : But b H H1 := fun c o _ h => x c o h
theorem But.upd {b : Addr} {H H1 : Hp} {o : HO} (x : But b H H1) : But b H (upd H1 b o) := fun c u n h => by
  rw [upd_ne n]
  exact x c u n h
theorem same_new {H : Hp} {p : Addr} {o : HO} (h : H p = none) : Same H (upd H p o) := fun b x e => by
  rw [upd_ne (ne_of_none e h)]
  exact e
theorem But.new {b : Addr} {H H1 : Hp} {p : Addr} {o : HO} (x : But b H H1) (h : H1 p = none) : But b H (L2.upd H1 p o) := x.trans (But.of (same_new h))
theorem But.seq {K : PySem.W.Frag} {b : Addr} {H H' : Hp} {a : Addr} {xs : List V} (e : But b H H') (n : a ≠ b) (h : SqL K H a xs) : SqL K H' a xs := by
  rcases h with (h | ⟨o, h⟩) | h
  · exact .inl (.inl (e _ _ n h))
  · exact .inl (.inr ⟨o, e _ _ n h⟩)
  · exact .inr h
theorem Same.set {K : PySem.W.Frag} {H H' : Hp} {a : Addr} {xs : List V} (e : Same H H') (h : SqT K H a xs) : SqT K H' a xs := by
  rcases h with (h | ⟨o, h⟩) | h
  · exact .inl (.inl (e _ _ h))
  · exact .inl (.inr ⟨o, e _ _ h⟩)
  · exact .inr h
theorem But.set {K : PySem.W.Frag} {b : Addr} {H H' : Hp} {a : Addr} {xs : List V} (e : But b H H') (n : a ≠ b) (h : SqT K H a xs) : SqT K H' a xs := by
  rcases h with (h | ⟨o, h⟩) | h
  · exact .inl (.inl (e _ _ n h))
  · exact .inl (.inr ⟨o, e _ _ n h⟩)
  · exact .inr h
theorem Ints.same {K : PySem.W.Frag} {H H' : Hp} {a : Addr} {ns : List Int} (h : Ints K H a ns) (e : Same H H') : Ints K H' a ns := h.elim (fun h => .inl (e.seq h)) fun h => .inr (Same.set e h)
theorem V_lst_inj {xs ys : List V} (h : some (HO.lst xs) = some (HO.lst ys)) : xs = ys := HO.lst.inj (Option.some.inj h)
/-- THE BAG at b: three numbers, and at c the list of cells cs -/
def BagAt (H : Hp) (b c : Addr) (cs : List Int) : Prop := ∃ g m i : Int, H b = some (.lst [.int g, .int m, .int i, .ref c]) ∧ H c = some (.lst (iv cs)) ∧ 0 ≤ g ∧ 0 ≤ m ∧ m < 2147483647 ∧ 0 ≤ i ∧ ∀ x ∈ cs, 0 ≤ x
def Bag (H : Hp) (b : Addr) : Prop := ∃ c cs, BagAt H b c cs
theorem BagAt.same {H H' : Hp} {b c : Addr} {cs : List Int} (x : BagAt H b c cs) (e : Same H H') : BagAt H' b c cs := by
  obtain ⟨g, m, i, h1, h2, r⟩ := x
  exact ⟨g, m, i, e _ _ h1, e _ _ h2, r⟩
theorem Bag.same {H H' : Hp} {b : Addr} (x : Bag H b) (e : Same H H') : Bag H' b := by
  obtain ⟨c, cs, x⟩ := x
  exact ⟨c, cs, x.same e⟩
theorem Bag.lst {H : Hp} {b : Addr} (x : Bag H b) : ∃ xs, H b = some (.lst xs) := by
  obtain ⟨c, cs, g, m, i, h1, _⟩ := x
  exact ⟨_, h1⟩
/-- ANOTHER STATE, behind draws from the bag at b (its cells stay) -/
structure Drew (b : Addr) (H H' : Hp) : Prop where
  but : But b H H'
  keeps : ∀ c cs, BagAt H b c cs → BagAt H' b c cs
  pre : Bag H b
theorem Drew.bag {b : Addr} {H H' : Hp} (x : Drew b H H') : Bag H' b := by
  obtain ⟨c, cs, y⟩ := x.pre
  exact ⟨c, cs, x.keeps c cs y⟩
theorem Drew.trans {b : Addr} {H H1 H2 : Hp} (x : Drew b H H1) (y : Drew b H1 H2) : Drew b H H2 := ⟨x.but.trans y.but, fun c cs h => y.keeps c cs (x.keeps c cs h), x.pre⟩
theorem Drew.same {b : Addr} {H H1 H2 : Hp} (x : Drew b H H1) (y : Same H1 H2) : Drew b H H2 := ⟨x.but.trans (But.of y), fun c cs h => (x.keeps c cs h).same y, x.pre⟩
theorem Drew.of {b : Addr} {H H1 : Hp} (x : Bag H b) (y : Same H H1) : Drew b H H1 := ⟨But.of y, fun c cs h => h.same y, x⟩
theorem Drew.refl {b : Addr} {H : Hp} (x : Bag H b) : Drew b H H := Drew.of x (Same.refl H)
theorem Drew.free {b : Addr} {H H' : Hp} (x : Drew b H H') {l : Addr} (h : H' l = none) : H l = none := by
  by_cases e : l = b
  · obtain ⟨xs, q⟩ := x.bag.lst
    rw [e, q] at h
    cases h
  · cases q : H l with
    | none => rfl
    | some o =>
      rw [x.but l o e q] at h
      cases h
theorem Bag.ne {H : Hp} {b l : Addr} (x : Bag H b) (h : H l = none) : l ≠ b := by
  obtain ⟨xs, q⟩ := x.lst
  exact (ne_of_none q h).symm
/-- something of one's own is laid or written -/
theorem Drew.put {b : Addr} {H H' : Hp} (x : Drew b H H') {l : Addr} (nl : H l = none) {o : HO} : Drew b H (upd H' l o) := by
  refine ⟨fun c u n e => ?_, fun c cs h => ?_, x.pre⟩
  · rw [upd_ne (ne_of_none e nl)]
    exact x.but c u n e
  · obtain ⟨g, m, i, h1, h2, r⟩ := id h
    obtain ⟨g', m', i', k1, k2, r'⟩ := x.keeps c cs h
    exact ⟨g', m', i', by rw [upd_ne (ne_of_none h1 nl)]; exact k1, by rw [upd_ne (ne_of_none h2 nl)]; exact k2, r'⟩
theorem Drew.new {b : Addr} {H H' : Hp} (x : Drew b H H') {l : Addr} (nl : H' l = none) {o : HO} : Drew b H (upd H' l o) := x.put (x.free nl)
/-- something of one's own was laid at L and is written later -/
theorem Drew.past {b L : Addr} {H2 H3 H5 H6 : Hp} (d : Drew b H2 H3) (nL : H3 L = none) (s : Same H3 H5) (bt : But L H5 H6) : Drew b H2 H6 := by
  refine ⟨fun c o n e => ?_, fun c cs h => ?_, d.pre⟩
  · have e3 := d.but c o n e
    exact bt c o (ne_of_none e3 nL) (s _ _ e3)
  · obtain ⟨g, m, i, k1, k2, r⟩ := d.keeps c cs h
    exact ⟨g, m, i, bt _ _ (ne_of_none k1 nL) (s _ _ k1), bt _ _ (ne_of_none k2 nL) (s _ _ k2), r⟩
/-- THE CLOCK of the stays ns at p -/
structure ClkAt (K : PySem.W.Frag) (C : Addr) (H : Hp) (p : Addr) (ns : List Int) : Prop where
  ok : Clk.Valid ns
  ex : ∃ dx t : Addr, H p = some (.ins C dx [("_stays", .ref t)]) ∧ SqT K H t (iv ns)
theorem ClkAt.same {K : PySem.W.Frag} {C : Addr} {H H' : Hp} {p : Addr} {ns : List Int} (x : ClkAt K C H p ns) (e : Same H H') : ClkAt K C H' p ns := by
  obtain ⟨dx, t, h1, h2⟩ := x.ex
  exact ⟨x.ok, dx, t, e _ _ h1, Same.set e h2⟩
theorem lst_ne_tup {xs ys : List V} : HO.lst xs ≠ HO.tup ys := fun h => nomatch h
theorem lst_ne_frz {xs : List V} {o : Obj} {u : HO} : HO.lst xs ≠ HO.frz o u := fun h => nomatch h
theorem lst_ne_ins {xs : List V} {C d : Addr} {fs : List (Str × V)} : HO.lst xs ≠ HO.ins C d fs := fun h => nomatch h
/-- the bag is no clock and no tuple -/
theorem ClkAt.but {K : PySem.W.Frag} {C b : Addr} {H H' : Hp} {p : Addr} {ns : List Int} (x : ClkAt K C H p ns) (g : ∃ xs, H b = some (.lst xs)) (e : But b H H') : ClkAt K C H' p ns := by
  obtain ⟨dx, t, h1, h2⟩ := x.ex
  obtain ⟨xs, hb⟩ := g
  refine ⟨x.ok, dx, t, e _ _ (ne_of h1 hb fun z => nomatch z) h1, ?_⟩
  rcases h2 with (h | ⟨o, h⟩) | h
  · exact .inl (.inl (e _ _ (ne_of h hb fun z => nomatch z) h))
  · exact .inl (.inr ⟨o, e _ _ (ne_of h hb fun z => nomatch z) h⟩)
  · exact .inr h
theorem ClkAt.drew {K : PySem.W.Frag} {C b : Addr} {H H' : Hp} {p : Addr} {ns : List Int} (x : ClkAt K C H p ns) (g : Bag H b) (e : Drew b H H') : ClkAt K C H' p ns := x.but g.lst e.but
end Hn
namespace Hn
open PySem L2
theorem Ints.ty {K : PySem.W.Frag} {H : Hp} {a : Addr} {ns : List Int} (h : Ints K H a ns) : (TyX K H (.ref a) (.type "list") ∨ TyX K H (.ref a) (.type "tuple")) := by
  rcases h with ((h | ⟨o, h⟩) | ⟨o, its, n, h1, h2, _⟩) | ((h | ⟨o, h⟩) | ⟨o, its, n, h1, h2, _⟩)
  · exact .inl (.base (.lst h))
  · exact .inl (.base (.frz h))
  · exact .inl (.kList h1 h2)
  · exact .inr (.base (.tup h))
  · exact .inr (.fTuple h)
  · exact .inr (.kTuple h1 h2)
theorem seq_ty {K : PySem.W.Frag} {H : Hp} {a : Addr} {xs : List V} (h : SqL K H a xs ∨ SqT K H a xs) : (TyX K H (.ref a) (.type "list") ∨ TyX K H (.ref a) (.type "tuple")) := by
  rcases h with ((h | ⟨o, h⟩) | ⟨o, its, n, h1, h2, _⟩) | ((h | ⟨o, h⟩) | ⟨o, its, n, h1, h2, _⟩)
  · exact .inl (.base (.lst h))
  · exact .inl (.base (.frz h))
  · exact .inl (.kList h1 h2)
  · exact .inr (.base (.tup h))
  · exact .inr (.fTuple h)
  · exact .inr (.kTuple h1 h2)
theorem kit_seq {K : PySem.W.Frag} {H : Hp} {a : Addr} {xs : List V} (h : SqL K H a xs ∨ SqT K H a xs) : ∃ t, TyX K H (.ref a) t ∧ PySem.W.kitAny K t [.type "list", .type "tuple"] = some true := by
  rcases seq_ty h with h | h
  · exact ⟨_, h, kitAny_cons (b := true) (kit_ty (by decide +kernel)) (fun z => nomatch z) fun _ => rfl⟩
  · exact ⟨_, h, kitAny_cons (b := false) (kit_ty (by decide +kernel)) (fun _ => kitAny_cons (b := true) (kit_ty (by decide +kernel)) (fun z => nomatch z) fun _ => rfl) fun z => nomatch z⟩
theorem kit_lt {K : PySem.W.Frag} {H : Hp} {a : Addr} {ns : List Int} (h : Ints K H a ns) : ∃ t, TyX K H (.ref a) t ∧ PySem.W.kitAny K t [.type "list", .type "tuple"] = some true := by
  rcases h.ty with h | h
  · exact ⟨_, h, kitAny_cons (b := true) (kit_ty (by decide +kernel)) (fun z => nomatch z) fun _ => rfl⟩
  · exact ⟨_, h, kitAny_cons (b := false) (kit_ty (by decide +kernel)) (fun _ => kitAny_cons (b := true) (kit_ty (by decide +kernel)) (fun z => nomatch z) fun _ => rfl) fun z => nomatch z⟩
theorem not_not_true {A B : Prop} (h : B) : if (!true) = true then A else B := iteF h
theorem dec_t {c A B : Prop} [Decidable c] (hc : c) (h : A) : if decide c = true then A else B := by
  rw [decide_eq_true hc]
  exact iteT h
theorem dec_f {c A B : Prop} [Decidable c] (hc : ¬ c) (h : B) : if decide c = true then A else B := by
  rw [decide_eq_false hc]
  exact iteF h
theorem small_line {n : Nat} (h : n ≤ 10000) : n < sizeLine := Nat.lt_of_le_of_lt h (by decide)
theorem small_line' {n : Nat} (h : n ≤ 10000) : n ≤ sizeLine := Nat.le_of_lt (small_line h)
/-- bools as V's -/
abbrev bv (bs : List Bool) : List V := bs.map V.bl
end Hn
namespace Hn
open PySem L2
theorem take_next {α : Type} {l : List α} {i : Nat} (h : i < l.length) : l.take (i + 1) = l.take i ++ [l[i]] := by
  rw [List.take_add_one, List.getElem?_eq_getElem h]
  rfl
/-- what a comprehension's reading asks -/
def LcG (J : It) (g : TG) (tt : TT) (te : TE) (vs : List Nat) (σ : L2.St) (H1 : Hp) (D : Addr) (Qd : Hp → Prop) : Prop :=
  ∃ W : Nat → Nat → Hp → Prop, (∃ m, W 0 m (upd H1 D (.lst []))) ∧ ∀ i m H, W i m H →
    (J.stop i H ∧ Qd H) ∨ (J.go i H ∧ ∃ Nx : Hp → Prop, (∀ H', Nx H' → ∃ m', m' < m ∧ W (i + 1) m' H') ∧ ∀ x H', J.yld i H x H' → g x (wipe σ vs) H' fun σ2 H2 => wipe σ2 vs = wipe σ vs ∧ tt σ2 H2 fun b H3 =>
      if b = true then te σ2 H3 fun y H4 => ∃ acc, H4 D = some (.lst acc) ∧ acc.length < sizeLine ∧ Nx (upd H4 D (.lst (acc ++ [y]))) else Nx H3)
theorem wipe_one (σ : L2.St) (j : Nat) (x : V) : wipe ((wipe σ [j]).set j (some x)) [j] = wipe σ [j] := by
  show ((σ.set j none).set j (some x)).set j none = σ.set j none
  rw [List.set_set, List.set_set]
/-- an element that changes nothing: over n items x 0, x 1, .., the list of the f i -/
theorem same_turn {H1 H : Hp} {D : Addr} {f : Nat → V} {i : Nat} {H4 : Hp} (nD : H1 D = none) (sm : Same H1 H) (hD : H D = some (.lst ((List.range i).map f))) (h : Same H H4) :
    H4 D = some (.lst ((List.range i).map f)) ∧ Same H1 (upd H4 D (.lst ((List.range i).map f ++ [f i]))) ∧ upd H4 D (.lst ((List.range i).map f ++ [f i])) D = some (.lst ((List.range (i + 1)).map f)) := by
  refine ⟨h _ _ hD, fun b o e => ?_, ?_⟩
  · rw [upd_ne (ne_of_none e nD)]
    exact h _ _ (sm _ _ e)
  · rw [upd_same, List.range_succ, List.map_append]
    rfl
theorem lc_mapL {K : PySem.W.Frag} {a : Addr} {xs : List V} {te : TE} {j : Nat} {σ : L2.St} {H1 : Hp} {D : Addr} {Qd : Hp → Prop} (f : Nat → V) (hS : SqL K H1 a xs) (nD : H1 D = none) (hz : xs.length ≤ 10000)
    (he : ∀ i (hi : i < xs.length) (H : Hp) (R : VK), Same H1 H → (∀ H4, Same H H4 → R (f i) H4) → te ((wipe σ [j]).set j (some xs[i])) H R)
    (hd : ∀ H, Same H1 H → H D = some (.lst ((List.range xs.length).map f)) → Qd H) : LcG (Itl K a) (gName j) tYes te [j] σ H1 D Qd := by
  refine lc_list (K := K) (a := a) (xs := xs) (fun i H => Same H1 H ∧ H D = some (.lst ((List.range i).map f))) ⟨same_new nD, upd_same⟩ (fun i H _ h => h.1.seq hS) (fun i x H hx h => ?_) (fun H h => hd H h.1 h.2)
  have hi : i < xs.length := (List.getElem?_eq_some_iff.mp hx).1
  rw [List.getElem?_eq_getElem hi] at hx
  cases hx
  refine ⟨wipe_one _ _ _, he i hi H _ h.1 fun H4 s4 => ?_⟩
  obtain ⟨q1, q2, q3⟩ := same_turn (f := f) nD h.1 h.2 s4
  exact ⟨_, q1, by rw [List.length_map, List.length_range]; exact small_line (by omega), q2, q3⟩
theorem lc_mapT {K : PySem.W.Frag} {a : Addr} {xs : List V} {te : TE} {j : Nat} {σ : L2.St} {H1 : Hp} {D : Addr} {Qd : Hp → Prop} (f : Nat → V) (hS : SqT K H1 a xs) (nD : H1 D = none) (hz : xs.length ≤ 10000)
    (he : ∀ i (hi : i < xs.length) (H : Hp) (R : VK), Same H1 H → (∀ H4, Same H H4 → R (f i) H4) → te ((wipe σ [j]).set j (some xs[i])) H R)
    (hd : ∀ H, Same H1 H → H D = some (.lst ((List.range xs.length).map f)) → Qd H) : LcG (Itt K a) (gName j) tYes te [j] σ H1 D Qd := by
  refine lc_tup (K := K) (a := a) (xs := xs) (fun i H => Same H1 H ∧ H D = some (.lst ((List.range i).map f))) ⟨same_new nD, upd_same⟩ (fun i H _ h => Same.set h.1 hS) (fun i x H hx h => ?_) (fun H h => hd H h.1 h.2)
  have hi : i < xs.length := (List.getElem?_eq_some_iff.mp hx).1
  rw [List.getElem?_eq_getElem hi] at hx
  cases hx
  refine ⟨wipe_one _ _ _, he i hi H _ h.1 fun H4 s4 => ?_⟩
  obtain ⟨q1, q2, q3⟩ := same_turn (f := f) nD h.1 h.2 s4
  exact ⟨_, q1, by rw [List.length_map, List.length_range]; exact small_line (by omega), q2, q3⟩
theorem lc_mapR {lo : Int} {n : Nat} {te : TE} {j : Nat} {σ : L2.St} {H1 : Hp} {D : Addr} {Qd : Hp → Prop} (f : Nat → V) (nD : H1 D = none) (hz : n ≤ 10000)
    (he : ∀ i (_ : i < n) (H : Hp) (R : VK), Same H1 H → (∀ H4, Same H H4 → R (f i) H4) → te ((wipe σ [j]).set j (some (.int (lo + i)))) H R)
    (hd : ∀ H, Same H1 H → H D = some (.lst ((List.range n).map f)) → Qd H) : LcG (Itr lo n) (gName j) tYes te [j] σ H1 D Qd := by
  refine lc_range (lo := lo) (n := n) (fun i H => Same H1 H ∧ H D = some (.lst ((List.range i).map f))) ⟨same_new nD, upd_same⟩ (fun i H hi h => ?_) (fun H h => hd H h.1 h.2)
  refine ⟨wipe_one _ _ _, he i hi H _ h.1 fun H4 s4 => ?_⟩
  obtain ⟨q1, q2, q3⟩ := same_turn (f := f) nD h.1 h.2 s4
  exact ⟨_, q1, by rw [List.length_map, List.length_range]; exact small_line (by omega), q2, q3⟩
/-- the items by their places -/
theorem range_get {α β : Type} {l : List α} {f : Nat → β} {g : α → β} (h : ∀ i (hi : i < l.length), f i = g l[i]) : (List.range l.length).map f = l.map g := by
  apply List.ext_getElem?
  intro i
  by_cases hi : i < l.length
  · rw [List.getElem?_map, List.getElem?_range hi, List.getElem?_map, List.getElem?_eq_getElem hi]
    exact congrArg some (h i hi)
  · rw [List.getElem?_eq_none (by rw [List.length_map, List.length_range]; omega), List.getElem?_eq_none (by rw [List.length_map]; omega)]
end Hn
namespace Hn
open PySem L2
/-- what a loop's reading asks -/
def ForG (J : It) (g : TG) (tb : TS) (D : Ends) (σ : L2.St) (H1 : Hp) : Prop := ∃ W : Nat → Nat → L2.St → Hp → Prop, (∃ m, W 0 m σ H1) ∧ ∀ i m σ H, W i m σ H →
  (J.stop i H ∧ D.nx σ H) ∨ (J.go i H ∧ ∃ N : L2.St → Hp → Prop, (∀ σ' H', N σ' H' → ∃ m', m' < m ∧ W (i + 1) m' σ' H') ∧ ∀ x H', J.yld i H x H' → g x σ H' fun σ2 H2 => tb { D with nx := N, ct := N, bk := D.nx } σ2 H2)
theorem for_enumL {K : PySem.W.Frag} {a : Addr} {xs : List V} {g : TG} {tb : TS} {D : Ends} {σ : L2.St} {H : Hp} (Pv : Nat → L2.St → Hp → Prop) (h0 : Pv 0 σ H) (hl : ∀ i σ H, Pv i σ H → SqL K H a xs)
    (hs : ∀ i (hi : i < xs.length) σ H (T : Addr), Pv i σ H → H T = none → g (.ref T) σ (upd H T (.tup [.int (i : Nat), xs[i]])) fun σ2 H2 => tb { D with nx := Pv (i + 1), ct := Pv (i + 1), bk := D.nx } σ2 H2)
    (hd : ∀ σ H, Pv xs.length σ H → D.nx σ H) : ForG (Ite K a) g tb D σ H := by
  refine ⟨fun i m σ H => m = xs.length - i ∧ i ≤ xs.length ∧ Pv i σ H, ⟨_, rfl, Nat.zero_le _, h0⟩, ?_⟩
  rintro i m σ H ⟨rfl, hi, p⟩
  have q := hl i σ H p
  by_cases hlt : i < xs.length
  · refine .inr ⟨⟨xs, xs[i], q, List.getElem?_eq_getElem hlt⟩, Pv (i + 1), fun σ' H' p' => ⟨xs.length - (i + 1), by omega, rfl, hlt, p'⟩, ?_⟩
    rintro x H' ⟨T, y, rfl, nT, rfl, hy⟩
    have e := hy xs q
    rw [List.getElem?_eq_getElem hlt] at e
    cases e
    exact hs i hlt σ H T p nT
  · obtain rfl : i = xs.length := by omega
    exact .inl ⟨⟨xs, q, Nat.le_refl _⟩, hd σ H p⟩
theorem for_enumT {K : PySem.W.Frag} {a : Addr} {xs : List V} {g : TG} {tb : TS} {D : Ends} {σ : L2.St} {H : Hp} (Pv : Nat → L2.St → Hp → Prop) (h0 : Pv 0 σ H) (hl : ∀ i σ H, Pv i σ H → SqT K H a xs)
    (hs : ∀ i (hi : i < xs.length) σ H (T : Addr), Pv i σ H → H T = none → g (.ref T) σ (upd H T (.tup [.int (i : Nat), xs[i]])) fun σ2 H2 => tb { D with nx := Pv (i + 1), ct := Pv (i + 1), bk := D.nx } σ2 H2)
    (hd : ∀ σ H, Pv xs.length σ H → D.nx σ H) : ForG (ItE K a) g tb D σ H := by
  refine ⟨fun i m σ H => m = xs.length - i ∧ i ≤ xs.length ∧ Pv i σ H, ⟨_, rfl, Nat.zero_le _, h0⟩, ?_⟩
  rintro i m σ H ⟨rfl, hi, p⟩
  have q := hl i σ H p
  by_cases hlt : i < xs.length
  · refine .inr ⟨⟨xs, xs[i], q, List.getElem?_eq_getElem hlt⟩, Pv (i + 1), fun σ' H' p' => ⟨xs.length - (i + 1), by omega, rfl, hlt, p'⟩, ?_⟩
    rintro x H' ⟨T, y, rfl, nT, rfl, hy⟩
    have e := hy xs q
    rw [List.getElem?_eq_getElem hlt] at e
    cases e
    exact hs i hlt σ H T p nT
  · obtain rfl : i = xs.length := by omega
    exact .inl ⟨⟨xs, q, Nat.le_refl _⟩, hd σ H p⟩
/-- the item at an hour round about -/
theorem at_round {ns : List Int} (hp : 0 < ns.length) (x : Int) : atI (iv ns) (x % (ns.length : Int)) = some (.int (Clk.S ns x)) := by
  obtain ⟨h, e⟩ := Clk.S_at hp x
  have h1 := Int.emod_nonneg x (show (ns.length : Int) ≠ 0 by omega)
  rw [e]
  exact at_of (j := (x % (ns.length : Int)).toNat) (by omega) (iv_get h)
end Hn
namespace Hn
open PySem L2
/-- all that was tracked is as it was, but what stands at p -/
theorem ints_but {K : PySem.W.Frag} {H H' : Hp} {a : Addr} {ns : List Int} (h : Ints K H a ns) (e : Same H H') : Ints K H' a ns := h.same e
theorem Same.ins {H H' : Hp} {p C dx : Addr} {fs : List (Str × V)} (e : Same H H') (h : H p = some (.ins C dx fs)) : H' p = some (.ins C dx fs) := e _ _ h
/-- behind the making of a clock -/
theorem made_same {H H2 : Hp} {x dx C : Addr} (nx : H x = none) (nd : H dx = none) (k : ∀ b o, b ≠ x → upd (upd H dx (.own x)) x (.ins C dx []) b = some o → H2 b = some o) : Same H H2 := fun b o e =>
  k b o (ne_of_none e nx) (by rw [upd_ne (ne_of_none e nx), upd_ne (ne_of_none e nd)]; exact e)
theorem made_ints {K : PySem.W.Frag} {H : Hp} {x dx C a : Addr} {ns : List Int} (nx : H x = none) (nd : H dx = none) (h : Ints K H a ns) : Ints K (upd (upd H dx (.own x)) x (.ins C dx [])) a ns :=
  h.same fun b o e => by
    rw [upd_ne (ne_of_none e nx), upd_ne (ne_of_none e nd)]
    exact e
end Hn
namespace Hn
open PySem L2
theorem range_row (n : Nat) (f : Int → Int) : (List.range n).map (fun i : Nat => V.int (f (i : Int))) = iv (Clk.row n f) := by
  unfold iv Clk.row
  rw [List.map_map]
  rfl
/-- t[f:], t[:f] -/
theorem cut_lo {xs : List V} {f : Nat} (h : f ≤ xs.length) : cutV xs (some (f : Int)) none = xs.drop f := by
  unfold cutV
  rw [HT.sIx_nat, HT.sIx_none, Nat.min_eq_left h]
  exact List.take_of_length_le (by rw [List.length_drop]; exact Nat.le_refl _)
theorem cut_hi {xs : List V} {f : Nat} (h : f ≤ xs.length) : cutV xs none (some (f : Int)) = xs.take f := by
  unfold cutV
  rw [HT.sIx_none, HT.sIx_nat, Nat.min_eq_left h]
  rfl
end Hn
namespace Hn
open PySem L2
theorem at_hour {ns : List Int} {i : Int} (h0 : 0 ≤ i) (hn : i < ns.length) : atI (iv ns) i = some (.int (Clk.S ns i)) := by
  obtain ⟨j, rfl⟩ := Int.eq_ofNat_of_zero_le h0
  have hj : j < ns.length := by omega
  rw [Clk.S_get hj]
  exact atI_nat (iv_get hj)
end Hn
namespace Hn
open PySem L2
/-- elements that are drawn -/
theorem lc_drawR {b : Addr} {lo : Int} {n : Nat} {te : TE} {j : Nat} {σ : L2.St} {H1 : Hp} {D : Addr} {Qd : Hp → Prop} (Pr : Nat → Int → Prop) (hb : Bag H1 b) (nD : H1 D = none) (hz : n ≤ 10000)
    (he : ∀ i (_ : i < n) (H : Hp) (R : VK), Drew b H1 H → (∀ H4 v, Drew b H H4 → Pr i v → R (.int v) H4) → te ((wipe σ [j]).set j (some (.int (lo + i)))) H R)
    (hd : ∀ H vs, Drew b H1 H → H D = some (.lst (iv vs)) → vs.length = n → (∀ i (h : i < vs.length), Pr i vs[i]) → Qd H) : LcG (Itr lo n) (gName j) tYes te [j] σ H1 D Qd := by
  refine lc_range (lo := lo) (n := n) (fun i H => ∃ vs : List Int, Drew b H1 H ∧ H D = some (.lst (iv vs)) ∧ vs.length = i ∧ ∀ k (h : k < vs.length), Pr k vs[k])
    ⟨[], Drew.of hb (same_new nD), upd_same, rfl, fun k h => nomatch h⟩ (fun i H hi ⟨vs, d, hD, hl, hp⟩ => ?_) (fun H ⟨vs, d, hD, hl, hp⟩ => hd H vs d hD hl hp)
  refine ⟨wipe_one _ _ _, he i hi H _ d fun H4 v d4 pv => ?_⟩
  refine ⟨iv vs, d4.but _ _ (hb.ne nD) hD, by rw [iv_len]; exact small_line (by omega), vs ++ [v], (d.trans d4).put nD, ?_, by rw [List.length_append, hl]; rfl, fun k h => ?_⟩
  · rw [upd_same]
    unfold iv
    rw [List.map_append]
    rfl
  · rw [List.length_append] at h
    by_cases hk : k < vs.length
    · rw [List.getElem_append_left hk]
      exact hp k hk
    · have e : k = vs.length := by
        have : [v].length = 1 := rfl
        omega
      subst e
      rw [List.getElem_append_right (Nat.le_refl _)]
      simp only [Nat.sub_self, List.getElem_cons_zero]
      rw [hl]
      exact pv
end Hn

/-! Dat -/
/-! data compared: lists of ints, of bools, rows of these -/
namespace Hn
open PySem L2
abbrev dI (ns : List Int) : PyData := .list (ns.map PyData.int)
abbrev dB (bs : List Bool) : PyData := .list (bs.map PyData.bool)
theorem dpI {K : PySem.W.Frag} {H : Hp} : ∀ ns : List Int, DpAll K H (iv ns) (ns.map PyData.int)
  | [] => .nil
  | x :: r => .cons (.int x) (dpI r)
theorem dpB {K : PySem.W.Frag} {H : Hp} : ∀ bs : List Bool, DpAll K H (bv bs) (bs.map PyData.bool)
  | [] => .nil
  | x :: r => .cons (.bl x) (dpB r)
theorem Dp.ints {K : PySem.W.Frag} {H : Hp} {a : Addr} {ns : List Int} (h : SqL K H a (iv ns)) : Dp K H (.ref a) (dI ns) := .lst h (dpI ns)
theorem Dp.bools {K : PySem.W.Frag} {H : Hp} {a : Addr} {bs : List Bool} (h : SqL K H a (bv bs)) : Dp K H (.ref a) (dB bs) := .lst h (dpB bs)
theorem lay_all : ∀ {ds : List PyData}, (∀ d ∈ ds, d.canLay0 = true) → PyData.canLayAll0 ds = true
  | [], _ => rfl
  | d :: r, h => by
    show (d.canLay0 && PyData.canLayAll0 r) = true
    rw [h d (List.mem_cons_self ..), lay_all fun x hx => h x (List.mem_cons_of_mem _ hx)]
    rfl
theorem depth_all {n : Nat} : ∀ {ds : List PyData}, (∀ d ∈ ds, d.depth ≤ n) → PyData.depthAll ds ≤ n
  | [], _ => Nat.zero_le _
  | d :: r, h => by
    show max d.depth (PyData.depthAll r) ≤ n
    exact Nat.max_le.mpr ⟨h d (List.mem_cons_self ..), depth_all fun x hx => h x (List.mem_cons_of_mem _ hx)⟩
end Hn
namespace Hn
open PySem L2
theorem shaped_list {ds : List PyData} (h : ∀ d ∈ ds, d.canLay0 = true ∧ d.depth ≤ 10) : SeqAt.shaped (.list ds) = true := by
  unfold SeqAt.shaped
  rw [show (PyData.list ds).canLay0 = PyData.canLayAll0 ds from rfl, lay_all fun d hd => (h d hd).1, Bool.true_and]
  refine decide_eq_true ?_
  show PyData.depthAll ds + 1 ≤ 64
  have := depth_all (n := 10) fun d hd => (h d hd).2
  omega
theorem lay_I (ns : List Int) : (dI ns).canLay0 = true := lay_all fun d hd => by
  obtain ⟨i, _, rfl⟩ := List.mem_map.mp hd
  rfl
theorem lay_B (ns : List Bool) : (dB ns).canLay0 = true := lay_all fun d hd => by
  obtain ⟨i, _, rfl⟩ := List.mem_map.mp hd
  rfl
theorem dep_I (ns : List Int) : (dI ns).depth ≤ 1 := Nat.succ_le_succ (depth_all fun d hd => by
  obtain ⟨i, _, rfl⟩ := List.mem_map.mp hd
  exact Nat.le_refl 0)
theorem dep_B (ns : List Bool) : (dB ns).depth ≤ 1 := Nat.succ_le_succ (depth_all fun d hd => by
  obtain ⟨i, _, rfl⟩ := List.mem_map.mp hd
  exact Nat.le_refl 0)
theorem shaped_I (ns : List Int) : SeqAt.shaped (dI ns) = true := shaped_list fun d hd => by
  obtain ⟨i, _, rfl⟩ := List.mem_map.mp hd
  exact ⟨rfl, Nat.zero_le _⟩
theorem shaped_B (ns : List Bool) : SeqAt.shaped (dB ns) = true := shaped_list fun d hd => by
  obtain ⟨i, _, rfl⟩ := List.mem_map.mp hd
  exact ⟨rfl, Nat.zero_le _⟩
theorem eqv_same {d : PyData} (h : SeqAt.shaped d = true) : PyData.eqv d d = true := SeqAt.eqv_refl d (SeqAt.canLay_of_shaped h)
theorem eqvAll_I : ∀ a b : List Int, PyData.eqvAll (a.map PyData.int) (b.map PyData.int) = decide (a = b)
  | [], [] => rfl
  | [], y :: r => rfl
  | x :: r, [] => rfl
  | x :: r, y :: t => by
    show ((x == y) && PyData.eqvAll (r.map PyData.int) (t.map PyData.int)) = decide (x :: r = y :: t)
    rw [eqvAll_I r t]
    by_cases h : x = y
    · subst h
      simp
    · simp [h]
theorem eqv_I (a b : List Int) : PyData.eqv (dI a) (dI b) = decide (a = b) := eqvAll_I a b
theorem dpAll_of {K : PySem.W.Frag} {H : Hp} : ∀ {xs : List V} {ds : List PyData}, xs.length = ds.length → (∀ i (h1 : i < xs.length) (h2 : i < ds.length), Dp K H xs[i] ds[i]) → DpAll K H xs ds
  | [], [], _, _ => .nil
  | x :: r, d :: t, hl, h => .cons (h 0 (Nat.zero_lt_succ _) (Nat.zero_lt_succ _)) (dpAll_of (Nat.succ.inj hl) fun i h1 h2 => h (i + 1) (Nat.succ_lt_succ h1) (Nat.succ_lt_succ h2))
end Hn
namespace Hn
open PySem L2
theorem at_row {n : Nat} {f : Int → Int} {i : Int} (h0 : 0 ≤ i) (hn : i < n) : atI (iv (Clk.row n f)) i = some (.int (f i)) := by
  obtain ⟨j, rfl⟩ := Int.eq_ofNat_of_zero_le h0
  have hj : j < n := by omega
  refine atI_nat ?_
  unfold iv
  rw [List.getElem?_map, Clk.row_get hj]
  rfl
theorem at_width {ns : List Int} {i : Int} (h0 : 0 ≤ i) (hn : i < ns.length) : atI (iv (Clk.widths ns)) i = some (.int (Clk.wd ns i)) := at_row h0 hn
/-- l != l : not so -/
theorem ne_same {d : PyData} (h : SeqAt.shaped d = true) : (!PyData.eqv d d) = false := by
  rw [eqv_same h]
  rfl
end Hn
namespace Hn
open PySem L2
/-- elements that are new objects: over n turns, objects f 0, f 1, .. -/
theorem lc_newR {lo : Int} {n : Nat} {te : TE} {j : Nat} {σ : L2.St} {H1 : Hp} {D : Addr} {Qd : Hp → Prop} (f : Nat → HO) (nD : H1 D = none) (hz : n ≤ 10000)
    (he : ∀ i (_ : i < n) (H : Hp) (R : VK), Same H1 H → (∀ H4 p, Same H H4 → H p = none → H4 p = some (f i) → R (.ref p) H4) → te ((wipe σ [j]).set j (some (.int (lo + i)))) H R)
    (hd : ∀ H (as : List Addr), Same H1 H → H D = some (.lst (as.map V.ref)) → as.length = n → (∀ k (h : k < as.length), H as[k] = some (f k)) → Qd H) : LcG (Itr lo n) (gName j) tYes te [j] σ H1 D Qd := by
  refine lc_range (lo := lo) (n := n) (fun i H => ∃ as : List Addr, Same H1 H ∧ H D = some (.lst (as.map V.ref)) ∧ as.length = i ∧ ∀ k (h : k < as.length), as[k] ≠ D ∧ H as[k] = some (f k))
    ⟨[], same_new nD, upd_same, rfl, fun k h => nomatch h⟩ (fun i H hi ⟨as, sm, hD, hl, hp⟩ => ?_) (fun H ⟨as, sm, hD, hl, hp⟩ => hd H as sm hD hl fun k h => (hp k h).2)
  refine ⟨wipe_one _ _ _, he i hi H _ sm fun H4 p s4 np hp4 => ?_⟩
  have hD4 := s4 _ _ hD
  have npD : p ≠ D := (ne_of_none hD np).symm
  refine ⟨as.map V.ref, hD4, by rw [List.length_map]; exact small_line (by omega), as ++ [p], fun b o e => ?_, ?_, by rw [List.length_append, hl]; rfl, fun k h => ?_⟩
  · rw [upd_ne (ne_of_none e nD)]
    exact s4 _ _ (sm _ _ e)
  · rw [upd_same, List.map_append]
    rfl
  · rw [List.length_append] at h
    by_cases hk : k < as.length
    · rw [List.getElem_append_left hk]
      obtain ⟨q1, q2⟩ := hp k hk
      exact ⟨q1, by rw [upd_ne q1]; exact s4 _ _ q2⟩
    · have e : k = as.length := by
        have : [p].length = 1 := rfl
        omega
      subst e
      rw [List.getElem_append_right (Nat.le_refl _)]
      simp only [Nat.sub_self, List.getElem_cons_zero]
      rw [hl]
      exact ⟨npD, by rw [upd_ne npD]; exact hp4⟩
theorem inV_int (x : Int) (ns : List Int) : inV (.int x) (iv ns) = decide (x ∈ ns) := by
  induction ns with
  | nil => rfl
  | cons y r ih =>
    have e : inV (.int x) (iv (y :: r)) = (decide (y = x) || inV (.int x) (iv r)) := rfl
    rw [e, ih]
    by_cases h : y = x
    · subst h
      simp
    · have h2 : ¬ x = y := fun z => h z.symm
      simp [h, h2]
theorem flat_iv (ns : List Int) : (iv ns).all flatV = true := List.all_eq_true.mpr fun x hx => by
  obtain ⟨i, _, rfl⟩ := List.mem_map.mp hx
  rfl
end Hn
namespace Hn
open PySem L2
theorem at_refs {as : List Addr} {i : Nat} (h : i < as.length) : atI (as.map V.ref) (i : Int) = some (.ref as[i]) := atI_nat (by rw [List.getElem?_map, List.getElem?_eq_getElem h]; rfl)
/-- a table of truths -/
def dT (n : Nat) (f : Nat → Nat → Bool) : PyData := .list ((List.range n).map fun h => .list ((List.range n).map fun b => .bool (f h b)))
theorem shaped_T (n : Nat) (f : Nat → Nat → Bool) : SeqAt.shaped (dT n f) = true := shaped_list fun d hd => by
  obtain ⟨h, _, rfl⟩ := List.mem_map.mp hd
  refine ⟨lay_all fun d hd => ?_, ?_⟩
  · obtain ⟨b, _, rfl⟩ := List.mem_map.mp hd
    rfl
  · show PyData.depthAll _ + 1 ≤ 10
    have := depth_all (n := 0) (ds := (List.range n).map fun b => .bool (f h b)) fun d hd => by
      obtain ⟨b, _, rfl⟩ := List.mem_map.mp hd
      exact Nat.le_refl 0
    omega
theorem dp_T {K : PySem.W.Frag} {H : Hp} {D : Addr} {as : List Addr} {n : Nat} {f : Nat → Nat → Bool} (hD : H D = some (.lst (as.map V.ref))) (hl : as.length = n)
    (hk : ∀ k (h : k < as.length), H as[k] = some (.lst ((List.range n).map fun b => .bl (f k b)))) : Dp K H (.ref D) (dT n f) := by
  refine .lst (SqL.of hD) (dpAll_of (by rw [List.length_map, List.length_map, List.length_range]; exact hl) fun i h1 h2 => ?_)
  rw [List.length_map] at h1
  rw [List.getElem_map, List.getElem_map, List.getElem_range]
  refine .lst (SqL.of (hk i h1)) (dpAll_of (by rw [List.length_map, List.length_map]) fun b g1 g2 => ?_)
  rw [List.getElem_map, List.getElem_map]
  exact .bl _
theorem getD_iv {ns : List Int} {i : Nat} (h : i < (iv ns).length) : (iv ns)[i] = V.int (ns.getD i 0) := by
  have h' : i < ns.length := by rwa [iv_len] at h
  rw [List.getElem_map, List.getD_eq_getElem?_getD, List.getElem?_eq_getElem h']
  rfl
theorem map_iv (ns : List Int) (g : Int → Int) : (List.range (iv ns).length).map (fun i => V.int (g (ns.getD i 0))) = iv (ns.map g) := by
  rw [iv_len]
  unfold iv
  rw [List.map_map]
  refine range_get fun i hi => ?_
  rw [List.getD_eq_getElem?_getD, List.getElem?_eq_getElem hi]
  rfl
end Hn

/-! KRules -/
/-! the layer's rules with the written part named: for use within comprehensions -/
namespace Hn
open PySem L2
section
variable {X : Cx} {K : PySem.W.Frag}
def rLenK (K : PySem.W.Frag) : List V → Hp → VK → Prop := fun xs H Q => ∃ p ys, xs = [V.ref p] ∧ (SqL K H p ys ∨ SqT K H p ys) ∧ Q (.int ys.length) H
theorem K_len (h : X.K = K) : CallR X (.builtin "len") (rLenK K) := by subst h; exact call_len_seq
theorem K_ixL (h : X.K = K) : IxR X (rIxL K) := by subst h; exact ix_list
theorem K_ixT (h : X.K = K) : IxR X (rIxT K) := by subst h; exact ix_tup
def rIxQ (K : PySem.W.Frag) : R2 := fun x y H Q => ∃ p xs i v, x = .ref p ∧ y = .int i ∧ (SqL K H p xs ∨ SqT K H p xs) ∧ atI xs i = some v ∧ Q v H
theorem K_ixQ (h : X.K = K) : IxR X (rIxQ K) := by
  subst h
  intro value slice pins s σ H x y v u Q I rx ry ⟨p, xs, i, z, h1, h2, h3, h4, q⟩ hs
  rcases h3 with h3 | h3
  · exact ix_list value slice pins s σ H x y v u Q I rx ry ⟨p, xs, i, z, h1, h2, h3, h4, q⟩ hs
  · exact ix_tup value slice pins s σ H x y v u Q I rx ry ⟨p, xs, i, z, h1, h2, h3, h4, q⟩ hs
def rListK (K : PySem.W.Frag) : List V → Hp → VK → Prop := fun xs H Q => ∃ p ys, xs = [V.ref p] ∧ (SqL K H p ys ∨ SqT K H p ys) ∧ ∀ l, H l = none → Q (.ref l) (upd H l (.lst ys))
theorem K_list (h : X.K = K) : CallR X (.type "list") (rListK K) := by subst h; exact call_list_of
def rTupK (K : PySem.W.Frag) : List V → Hp → VK → Prop := fun xs H Q => ∃ p ys, xs = [V.ref p] ∧ ((SqL K H p ys ∧ ∀ l, H l = none → Q (.ref l) (upd H l (.tup ys))) ∨ (SqT K H p ys ∧ Q (.ref p) H))
theorem K_tuple (h : X.K = K) : CallR X (.type "tuple") (rTupK K) := by subst h; exact call_tuple_of
theorem K_sum (hc : X.calm = true) (h : X.K = K) : CallR X (.builtin "sum") (rSum K) := by subst h; exact cr_sum hc
theorem K_min (hc : X.calm = true) (h : X.K = K) : CallR X (.builtin "min") (rMin K) := by subst h; exact cr_min hc
theorem K_max (hc : X.calm = true) (h : X.K = K) : CallR X (.builtin "max") (rMax K) := by subst h; exact cr_max hc
theorem K_all (hc : X.calm = true) (h : X.K = K) : CallR X (.builtin "all") (rAll K) := by subst h; exact cr_all hc
theorem K_any (hc : X.calm = true) (h : X.K = K) : CallR X (.builtin "any") (rAny K) := by subst h; exact cr_any hc
theorem K_sorted (h : X.K = K) : CallR X (.builtin "sorted") (rSorted K) := by subst h; exact cr_sorted
theorem K_isi (h : X.K = K) : CallR X (.builtin "isinstance") (rIsi K) := by subst h; exact call_isi
theorem K_isiT (h : X.K = K) : CallR X (.builtin "isinstance") (rIsiT K) := by subst h; exact call_isiT
theorem K_eqD (hu : X.A.units + 64 < cLine) (h : X.K = K) : OpR X (compareOp .Eq) (rEqD K) := by subst h; exact op_eqD hu
theorem K_neD (hu : X.A.units + 64 < cLine) (h : X.K = K) : OpR X (compareOp .NotEq) (rNeD K) := by subst h; exact op_neD hu
theorem K_in (h : X.K = K) : OpR X (compareOp .In) (rIn K false) := by subst h; exact op_in_seq
theorem K_notIn (h : X.K = K) : OpR X (compareOp .NotIn) (rIn K true) := by subst h; exact op_notIn_seq
theorem K_catT (h : X.K = K) : OpR X (binaryOp .Add) (rCatT K) := by subst h; exact op_catT
theorem K_slL (h : X.K = K) : SlR X (rSlL K) := by subst h; exact sl_list
theorem K_slT (h : X.K = K) : SlR X (rSlA K) := by subst h; exact sl_tupA
theorem K_revL {e : Expr} {te : TE} {k : Nat} {p1 p2 p3 pos : Pos} (h : X.K = K) (he : PE X e te) : PE X (.Subscript e (.Slice none none (some (.UnaryOp .USub (.Constant (.int 1) k p1) p2)) p3) pos) (tRevL K te) := by subst h; exact pe_revL he
theorem K_fld {e : Expr} {f : Str} {pos : Pos} {ta : TE} (h : X.K = K) (ha : PE X e ta) (hb : attributeBase e f X.env (eval e X.env) = eval e X.env) : PE X (.Attribute e f pos) (tFld K ta f) := by subst h; exact pe_fld ha hb
theorem K_pil {tg l : Expr} {tl : TE} (h : X.K = K) (hl : PE X l tl) : PI X tg l (iList K tl) := by subst h; exact pi_list hl
theorem K_pit {tg l : Expr} {tl : TE} (h : X.K = K) (hl : PE X l tl) : PI X tg l (iTup K tl) := by subst h; exact pi_tup hl
theorem K_piq {tg l : Expr} {tl : TE} (h : X.K = K) (hl : PE X l tl) : PI X tg l (fun σ H R => iList K tl σ H R ∨ iTup K tl σ H R) := by subst h; exact pi_seq hl
theorem K_get (h : X.K = K) : PGet X (rIxL K) := by subst h; exact get_list
theorem K_count (h : X.K = K) : MtR X "list.count" (rCntI K) := by subst h; exact mt_lcount
theorem K_index (h : X.K = K) : MtR X "list.index" (rIndex K) := by subst h; exact mt_index
end
end Hn

/-! Own4 -/
/-! == and != by an own __eq__, whatever it answers -/
namespace Hn
open PySem PySem.Spec L2
open PyProof.Rows hiding St
open PySem.W in
theorem ne_K {prog : Program} {w : World} {A : Around} {E : Value → Shared → Prop} {s : Shared} {K : Frag} {x C L f : Addr} {h₀ : Heap} {m : Str → Option Value} {ox : Obj} {od : Option Obj} {b tb : Value} {Q : Value → Shared → Prop}
    (hu : A.units + 1 < cLine) (F : Fr h₀ L s.heap m) (X₀ : K.In h₀) (I : InstAt s.heap x ox C od) (hb : Looks (model prog w) s.heap (typeOf b) tb) (hn : notFirst K C tb = true)
    (hne : findIn K (.ref C) "__ne__" = some (some (.builtin "object.__ne__"))) (hob : mroIn K C (.type "object") = some true) (hs : findIn K (.ref C) "__eq__" = some (some (.ref f))) (hf : isFn K (.ref f) = true)
    (h : wpAny (model prog w) A.in1 (call (.ref f) [.ref x, b]) (fun v s' => ∃ k, v = .bool k ∧ Q (.bool (!k)) s') E s) : wpAny (model prog w) A (richCompare .NotEq (.ref x) b) Q E s := by
  have X := X₀.keeps F.keep
  have sub : Looks (model prog w) s.heap (isInstance (.ref x) (.type "object")) true := I.type.andThen (looks_mroIn X hob)
  have entry : wpAny (model prog w) A.in1 (Builtin.«object.__ne__» ⟨[.ref x, b], []⟩) (fun fin s' => ∃ v, fin = .done (.ret v) ∧ ∃ k, v = .bool k ∧ Q (.bool k) s') E s := by
    unfold Builtin.«object.__ne__»
    refine wpAny_bind (m := slotArgs "__ne__" 1 _) (wpAny_pure ?_)
    refine wpAny_bind (wpAny_cRoomFor (by show A.units + 1 < cLine; exact hu) ?_)
    refine wpAny_bind (m := callSpecialIfBound? (.ref x) (Str.ofString "__eq__") [b]) (ifBound_K X I hs hf (wpAny_mono h (fun v s' hv => ?_) fun _ _ e => e))
    obtain ⟨k, rfl, q⟩ := hv
    refine wpAny_bind (m := truthy (.bool k)) (wpAny_truthy_bool ?_)
    exact wpAny_pure ⟨_, rfl, _, rfl, q⟩
  have one : wpAny (model prog w) A (tryCompare (.ref x) "__ne__" b) (fun r s' => ∃ k, r = some (.bool k) ∧ Q (.bool k) s') E s := by
    unfold tryCompare
    have cal : wpAny (model prog w) A (call (.builtin "object.__ne__") [.ref x, b]) (fun v s' => ∃ k, v = .bool k ∧ Q (.bool k) s') E s := by
      refine wpAny_call (codeAny_call_builtin PySem.F.cmp_object.ne.plain PySem.F.cmpEntry_ne (@check_slot (model prog w) _ _ _ "object.__ne__" "object" "__ne__" (.ref x) [b] [] _ PySem.F.cmpKind_ne PySem.F.cmpSplit_ne sub (PySem.F.cmpArgs_ne _ _) ?_))
      refine wpAny_mono entry (fun fin s' hq => ?_) fun _ _ e => e
      obtain ⟨v, rfl, q⟩ := hq
      exact q
    refine wpAny_bind (m := callSpecialIfBound? (.ref x) (Str.ofString "__ne__") [b]) ?_
    simp only [callSpecialIfBound?, bindSpecialIfBound?]
    refine wpAny_holding (wpAny_bind (wpAny_bind (wpAny_bind (I.type.here ((looks_findIn X hne).here ?_)))))
    refine wpAny_bind (wpAny_askSetting (wpAny_ite ?_))
    have fin : wpAny (model prog w) A (call (.builtin "object.__ne__") ([.ref x] ++ [b]) >>= fun v => pure (some v)) (fun r s' => ∃ k, r = some (.bool k) ∧ Q (.bool k) s') E s :=
      wpAny_bind (wpAny_mono cal (fun v s' ⟨k, e, q⟩ => wpAny_pure ⟨k, by rw [e], q⟩) fun _ _ h' => h')
    have fin2 : wpAny (model prog w) A (call (.builtin "object.__ne__") ([.ref x] ++ [b]) >>= fun v => pure (some v)) (fun r s' => wpAny (model prog w) A (match r with
      | some .notImplemented | none => pure none
      | some v => pure (some v)) (fun r s' => ∃ k, r = some (.bool k) ∧ Q (.bool k) s') E s') E s := wpAny_mono fin (fun r s' ⟨k, e, q⟩ => by
        subst e
        exact wpAny_pure ⟨k, rfl, q⟩) fun _ _ e => e
    simp only [PySem.F.cmp_object.ne.bind]
    split
    · exact wpAny_bind (wpAny_pure (wpAny_pure fin2))
    · exact wpAny_tryCatch (wpAny_bind (wpAny_pure (wpAny_pure fin2)))
  unfold richCompare
  simp only [oneThing_ref]
  refine wpAny_holding (wpAny_bind (wpAny_cRoomFor (Nat.lt_of_succ_lt hu) ?_))
  refine wpAny_bind (I.type.here (wpAny_bind (hb.here ?_)))
  split
  · rename_i q
    have e : subIn K tb (.ref C) = some false := by
      rcases Bool.or_eq_true_iff.mp hn with e | e
      · rw [beq_iff_eq.mp e] at q
        simp at q
      · exact beq_iff_eq.mp e
    refine wpAny_bind ((looks_subIn X e).here ?_)
    simp only [Bool.false_eq_true, if_false]
    exact wpAny_bind (wpAny_mono one (fun r s' ⟨k, e, q⟩ => by subst e; exact wpAny_pure q) fun _ _ e => e)
  · refine wpAny_bind (wpAny_pure ?_)
    simp only [Bool.false_eq_true, if_false]
    exact wpAny_bind (wpAny_mono one (fun r s' ⟨k, e, q⟩ => by subst e; exact wpAny_pure q) fun _ _ e => e)
/-- o == p, o != p of two instances of the class at C -/
def rCmpOwn (C : Addr) (sp : Sp) (E : XK) (neg : Bool) : R2 := fun x y H Q => ∃ a b dx dy fs gs, x = .ref a ∧ y = .ref b ∧ H a = some (.ins C dx fs) ∧ H b = some (.ins C dy gs) ∧ sp [.ref a, .ref b] H (fun v H' => ∃ k, v = .bl k ∧ Q (.bl (if neg then !k else k)) H') E
section
variable {X : Cx} {CX : CXT} {k : Nat} {C f : Addr} {fd : FuncData} {ps : List Str} {sp : Sp} {E : XK}
theorem op_eqOwn (hm : Meth X.K C "__eq__" f) (F : FnOk X.prog X.w X.K X.mg X.base CX k f fd ps sp) (hr : Room k X.A) (hb : Binds X.K fd ps []) (hx : Passes CX X E) : OpR X (compareOp .Eq) (rCmpOwn C sp E false) := by
  intro pins s σ H x y v u Q I rx ry q
  obtain ⟨a, b, dx, dy, fs, gs, rfl, rfl, ha, hb', q⟩ := q
  cases rx
  cases ry
  obtain ⟨mA, J, _⟩ := ins_get I.hok ha
  obtain ⟨mB, J', _⟩ := ins_get I.hok hb'
  obtain ⟨od, J, _⟩ := J.look
  obtain ⟨od', J', _⟩ := J'.look
  obtain ⟨m, hF⟩ := I.fr
  show wpAny (model X.prog X.w) X.A (richCompare .Eq (.ref a) (.ref b)) (EP X pins σ Q) X.xe s
  refine PySem.W.cmp_K (op := .Eq) (tb := .ref C) hr.units0 hF I.ok.mod.kin J J'.type (by simp [PySem.W.notFirst]) hm.at_ hm.fn ?_
  have r2 : Vals [V.ref a, V.ref b] [Value.ref a, Value.ref b] := .cons rfl (.cons rfl .nil)
  refine wpAny_mono (run_fn (dvs := []) F hr hb .nil hx I r2 q) (fun r s' z => ?_) fun _ _ e => e
  obtain ⟨v, H', I', rv, kk, rfl, q'⟩ := z
  cases rv
  exact ⟨.bl kk, H', I', rfl, q'⟩
theorem op_neOwn (hm : Meth X.K C "__eq__" f) (hne : PySem.W.findIn X.K (.ref C) "__ne__" = some (some (.builtin "object.__ne__"))) (hob : PySem.W.mroIn X.K C (.type "object") = some true) (F : FnOk X.prog X.w X.K X.mg X.base CX k f fd ps sp) (hr : Room (k + 1) X.A)
    (hb : Binds X.K fd ps []) (hx : Passes CX X.nox E) : OpR X (compareOp .NotEq) (rCmpOwn C sp E true) := by
  intro pins s σ H x y v u Q I rx ry q
  obtain ⟨a, b, dx, dy, fs, gs, rfl, rfl, ha, hb', q⟩ := q
  cases rx
  cases ry
  obtain ⟨mA, J, _⟩ := ins_get I.hok ha
  obtain ⟨mB, J', _⟩ := ins_get I.hok hb'
  obtain ⟨od, J, _⟩ := J.look
  obtain ⟨od', J', _⟩ := J'.look
  obtain ⟨m, hF⟩ := I.fr
  have hl : ([V.ref a, V.ref b] : List V).length = ps.length := F.len _ _ _ _ q
  have r2 : Vals [V.ref a, V.ref b] [Value.ref a, Value.ref b] := .cons rfl (.cons rfl .nil)
  show wpAny (model X.prog X.w) X.A (richCompare .NotEq (.ref a) (.ref b)) (EP X pins σ Q) X.xe s
  refine ne_K (tb := .ref C) (Nat.lt_of_le_of_lt (Nat.add_le_add_left (by decide : 1 ≤ 64) _) hr.units) hF I.ok.mod.kin J J'.type (by simp [PySem.W.notFirst]) hne hob hm.at_ hm.fn (wpAny_call (codeAny_mono (F.run X.A.in1 X.stack s H ⟨[.ref a, .ref b], []⟩ [.ref a, .ref b] [.ref a, .ref b] _ E hr.in1 I.env0.in1 (by
    have z := hb s [.ref a, .ref b] I.kIn (by simpa using hl)
    simpa using z) r2 q) fun r s' hq => ?_))
  cases r with
  | error er => exact False.elim (hx pins σ H s er s' (I.wish _) hq)
  | ok fl =>
    cases fl with
    | ret w =>
      obtain ⟨z, H', I', rz, kk, ez, q'⟩ := I.after hq
      subst ez
      cases rz
      exact ⟨kk, rfl, .bl (!kk), H', I', rfl, q'⟩
    | next => exact False.elim hq
    | brk => exact False.elim hq
    | cont => exact False.elim hq
/-- len(o) by an own __len__ -/
def rLenOwn (C : Addr) (sp : Sp) (E : XK) : List V → Hp → VK → Prop := fun xs H Q => ∃ a dx fs, xs = [.ref a] ∧ H a = some (.ins C dx fs) ∧ sp [.ref a] H (fun v H' => ∃ n : Int, v = .int n ∧ 0 ≤ n ∧ n < 2 ^ 63 ∧ Q (.int n) H') E
theorem call_lenOwn (hm : Meth X.K C "__len__" f) (F : FnOk X.prog X.w X.K X.mg X.base CX k f fd ps sp) (hr : Room (k + 1) X.A) (hb : Binds X.K fd ps []) (hx : Passes CX X.nox E) : CallR X (.builtin "len") (rLenOwn C sp E) := by
  intro pins s σ H xs us Q I r q
  obtain ⟨a, dx, fs, rfl, ha, q⟩ := q
  obtain ⟨mA, J, _⟩ := ins_get I.hok ha
  obtain ⟨od, J, _⟩ := J.look
  obtain ⟨m, hF⟩ := I.fr
  cases r with
  | cons r1 r2 =>
    cases r2
    cases r1
    have hl : ([V.ref a] : List V).length = ps.length := F.len _ _ _ _ q
    have r2 : Vals [V.ref a] [Value.ref a] := .cons rfl .nil
    refine PySem.W.len_K hF I.ok.mod.kin J hm.at_ hm.fn (wpAny_call (codeAny_mono (F.run X.A.in1 X.stack s H ⟨[.ref a], []⟩ [.ref a] [.ref a] _ E hr.in1 I.env0.in1 (by
      have z := hb s [.ref a] I.kIn (by simpa using hl)
      simpa using z) r2 q) fun r s' hq => ?_))
    cases r with
    | error er => exact False.elim (hx pins σ H s er s' (I.wish _) hq)
    | ok fl =>
      cases fl with
      | ret w =>
        obtain ⟨z, H', I', rz, n, ez, n0, n1, q'⟩ := I.after hq
        subst ez
        obtain ⟨t, rfl⟩ := rz
        exact ⟨⟨n0, n1⟩, .int n, H', I'.tok _, ⟨_, rfl⟩, q'⟩
      | next => exact False.elim hq
      | brk => exact False.elim hq
      | cont => exact False.elim hq
end
end Hn

/-! Own5 -/
/-! iter(t) of a tuple; list(o), tuple(o) of an instance whose own __iter__ hands back such an iterator -/
namespace Hn
open PySem PySem.Spec L2
open PyProof.Rows hiding St
/-- at it an iterator over the tuple at t, the next place is i -/
def TiO (t it : Addr) (i : Nat) : HO := .ext fun h => h.IsTupleIter it t i
/-- .. that has ended -/
def TiE (it : Addr) : HO := .ext fun h => ∃ o, h.get? it = some o
theorem tiO_ok {P : Program} {w : World} {H : Hp} {h : Heap} {t it : Addr} {i : Nat} (e : h.IsTupleIter it t i) : ObjOk P w H h it (TiO t it i) :=
  ⟨e, let ⟨o, ho, _⟩ := e; ⟨o, ho⟩, fun _ _ q k => let ⟨o, ho, r⟩ := q; ⟨o, k _ ho, r⟩⟩
theorem tiE_ok {P : Program} {w : World} {H : Hp} {h : Heap} {it : Addr} (e : ∃ o, h.get? it = some o) : ObjOk P w H h it (TiE it) :=
  ⟨e, e, fun _ _ q k => let ⟨o, ho⟩ := q; ⟨o, k _ ho⟩⟩
/-- at it an iterator over the list at l -/
def LiO (l it : Addr) (i : Nat) : HO := .ext fun h => h.IsListIter it l i
theorem liO_ok {P : Program} {w : World} {H : Hp} {h : Heap} {l it : Addr} {i : Nat} (e : h.IsListIter it l i) : ObjOk P w H h it (LiO l it i) :=
  ⟨e, let ⟨o, ho, _⟩ := e; ⟨o, ho⟩, fun _ _ q k => let ⟨o, ho, r⟩ := q; ⟨o, k _ ho, r⟩⟩
section
variable {prog : Program} {w : World} {A : Around} {E : Value → Shared → Prop} {s : Shared} {it t : Addr} {i : Nat} {items : Array Value}
theorem tup_end {Q : Option Value → Shared → Prop} (hh : A.handled = none) (hit : s.heap.IsTupleIter it t i) (ht : s.heap.IsTuple t items) (hx : items[i]? = none)
    (hQ : ∀ h', Heap.ExtBut it s.heap h' → (∃ o, h'.get? it = some o) → Q none { s with heap := h' }) : wpAny (model prog w) A (pyNext (.ref it)) Q E s := by
  obtain ⟨o, ho, hc, hd⟩ := id hit
  obtain ⟨ol, hol, _, nl, hdl⟩ := ht
  unfold pyNext
  refine wpAny_bind (wpAny_attempt (wpAny_callSpecial?_slot (name := Str.ofString "__next__") hit.typeIs PySem.F.slot_tuple_iterator_next
    (wpAny_call_entry PySem.F.slot_tuple_iterator_next hit.typeIs PySem.F.entry_tuple_iterator_next ?_ (PySem.F.args_tuple_iterator_next_1 _))))
  show wpAny _ _ (field (.ref it) 0 >>= _) _ _ s
  refine wpAny_bind (wpAny_field ho hd (x := .ref t) rfl ?_)
  show wpAny _ _ (if (Value.ref t == Value.none) = true then _ else _) _ _ s
  rw [if_neg (show ¬ ((Value.ref t == Value.none) = true) from Bool.false_ne_true)]
  show wpAny _ _ (field (.ref it) 1 >>= _) _ _ s
  refine wpAny_bind (wpAny_field ho hd (x := .int i 0) rfl ?_)
  show wpAny _ _ (seqItems? (.ref t) >>= _) _ _ s
  refine wpAny_bind (wpAny_seqItems hol hdl ?_)
  simp only [Int.toNat_natCast, hx]
  refine wpAny_bind (wpAny_rule (wpAny_bind (wpAny_setField ho hd (by simp) ?_)))
  show wpAny _ _ (newExc (.type "StopIteration") [] >>= _) _ _ _
  refine wpAny_bind ?_
  simp only [newExc, newTuple]
  refine wpAny_bind (wpAny_newObj_type ?_ (by size_fits))
  refine wpAny_bind (m := firstArgMember _ _) (wpAny_of_eq (a := Value.none) (by first | rfl | (simp only [firstArgMember]; rfl)) ?_)
  refine wpAny_newObj_type ?_ (by size_fits)
  simp only [raiseNew]
  refine wpAny_bind (wpAny_handled ?_)
  rw [show A.in1.handled = none from hh]
  refine wpAny_bind (wpAny_pure (wpAny_throw ?_))
  refine wpAny_bind (wpAny_isInstance (T := "StopIteration") (b := true) ⟨_, Heap.get?_push_size _ rfl, rfl⟩ PySem.isSubtype_stop ?_)
  refine wpAny_pure (hQ _ (((Heap.SameBut.update ..).extBut.push _).push _) ⟨_, Heap.get?_push_of_some _ (Heap.get?_push_of_some _ (Heap.get?_update_self _ ho ?_))⟩)
  exact Obj.isFreed_of_fields (Obj.data_mapFields hd _)
theorem liT {l : Addr} {i : Nat} (hit : s.heap.IsListIter it l i) : s.TypeIs (.ref it) "list_iterator" := let ⟨o, ho, hc, _⟩ := hit; ⟨o, ho, hc⟩
theorem list_end {Q : Option Value → Shared → Prop} (hh : A.handled = none) (hit : s.heap.IsListIter it t i) (ht : s.heap.IsList t items) (hx : items[i]? = none)
    (hQ : ∀ h', Heap.ExtBut it s.heap h' → (∃ o, h'.get? it = some o) → Q none { s with heap := h' }) : wpAny (model prog w) A (pyNext (.ref it)) Q E s := by
  obtain ⟨o, ho, hc, hd⟩ := id hit
  obtain ⟨ol, hol, _, nl, hdl⟩ := ht
  unfold pyNext
  refine wpAny_bind (wpAny_attempt (wpAny_callSpecial?_slot (name := Str.ofString "__next__") (liT hit) slot_listiter_next
    (wpAny_call_entry slot_listiter_next (liT hit) entry_listiter_next ?_ (args_listiter_next _))))
  show wpAny _ _ (field (.ref it) 0 >>= _) _ _ s
  refine wpAny_bind (wpAny_field ho hd (x := .ref t) rfl ?_)
  show wpAny _ _ (if (Value.ref t == Value.none) = true then _ else _) _ _ s
  rw [if_neg (show ¬ ((Value.ref t == Value.none) = true) from Bool.false_ne_true)]
  show wpAny _ _ (field (.ref it) 1 >>= _) _ _ s
  refine wpAny_bind (wpAny_field ho hd (x := .int i 0) rfl ?_)
  show wpAny _ _ (seqItems? (.ref t) >>= _) _ _ s
  refine wpAny_bind (wpAny_seqItems hol hdl ?_)
  simp only [Int.toNat_natCast, hx]
  refine wpAny_bind (wpAny_rule (wpAny_bind (wpAny_setField ho hd (by simp) ?_)))
  show wpAny _ _ (newExc (.type "StopIteration") [] >>= _) _ _ _
  refine wpAny_bind ?_
  simp only [newExc, newTuple]
  refine wpAny_bind (wpAny_newObj_type ?_ (by size_fits))
  refine wpAny_bind (m := firstArgMember _ _) (wpAny_of_eq (a := Value.none) (by first | rfl | (simp only [firstArgMember]; rfl)) ?_)
  refine wpAny_newObj_type ?_ (by size_fits)
  simp only [raiseNew]
  refine wpAny_bind (wpAny_handled ?_)
  rw [show A.in1.handled = none from hh]
  refine wpAny_bind (wpAny_pure (wpAny_throw ?_))
  refine wpAny_bind (wpAny_isInstance (T := "StopIteration") (b := true) ⟨_, Heap.get?_push_size _ rfl, rfl⟩ PySem.isSubtype_stop ?_)
  refine wpAny_pure (hQ _ (((Heap.SameBut.update ..).extBut.push _).push _) ⟨_, Heap.get?_push_of_some _ (Heap.get?_push_of_some _ (Heap.get?_update_self _ ho ?_))⟩)
  exact Obj.isFreed_of_fields (Obj.data_mapFields hd _)
theorem call_iterTup {Q : Value → Shared → Prop} (ht : s.heap.IsTuple t items) (h : Q (.ref s.heap.objs.size) { s with heap := s.heap.push { cls := .type "tuple_iterator", data := .fields #[.ref t, .int 0 0] } }) :
    wpAny (model prog w) A (call (.builtin "iter") [.ref t]) Q E s := by
  refine Calls.call_function_entry (by decide +kernel) (by decide +kernel) PySem.W.kdk_entry_iter (PySem.W.kdk_args_iter _) ?_
  unfold Builtin.«iter»
  refine wpAny_bind (m := someArgs "iter" 1 2 _) (wpAny_of_eq (a := [Value.ref t]) (by first | rfl | kernel_rfl!) ?_)
  show wpAny _ _ (pyIter (.ref t) >>= _) _ _ _
  refine wpAny_bind (wpAny_pyIter_tuple ht ?_)
  exact wpAny_pure ⟨_, rfl, h⟩
end
section
variable {X : Cx} {pins : List (Addr × Obj)} {σ : L2.St} {H : Hp} {s : Shared} {t it : Addr} {i : Nat}
theorem liO_get {l : Addr} (I : Inv X pins σ H s) (e : H it = some (LiO l it i)) : s.heap.IsListIter it l i := (I.hok it _ e).1
theorem tiO_get (I : Inv X pins σ H s) (e : H it = some (TiO t it i)) : s.heap.IsTupleIter it t i := (I.hok it _ e).1
/-- iter(t), t a tuple -/
def rIterT (K : PySem.W.Frag) : List V → Hp → VK → Prop := fun xs H Q => ∃ (t : Addr) (zs : List V), xs = [.ref t] ∧ SqT K H t zs ∧ ∀ it, H it = none → Q (.ref it) (upd H it (TiO t it 0))
theorem K_iterT {K : PySem.W.Frag} (hK : X.K = K) : CallR X (.builtin "iter") (rIterT K) := by
  subst hK
  intro pins s σ H xs us Q I r h
  obtain ⟨l, zs, rfl, hq, q⟩ := h
  obtain rfl := Vals.ref1 r
  obtain ⟨its, rv, pl, hz⟩ := I.tuple hq
  refine call_iterTup (items := its.toArray) pl ?_
  exact ⟨.ref s.heap.objs.size, _, I.laid (t' := s.toks) (fun b u e => Heap.get?_push_of_some _ e) (Nat.le_refl _) (tiO_ok ⟨_, Heap.get?_push_size _ rfl, rfl, rfl⟩), rfl, q _ (I.hok.fresh (Nat.le_refl _))⟩
/-- the walk of list.extend over a tuple's iterator -/
theorem ti_loop {A1 : Around} {q : Addr} {zs : List V} {res : Value} {Rs : Result → Shared → Prop} (hh : A1.handled = none) (hz : zs.length ≤ sizeLine) :
    ∀ (k i : Nat) (H : Hp) (s : Shared), zs.length - i = k → i ≤ zs.length → Inv X pins σ H s → H q = some (.lst (zs.take i)) → H it = some (TiO t it i) → SqT X.K H t zs →
    (∀ H' s', Inv X pins σ H' s' → (∀ b o, b ≠ q → b ≠ it → H b = some o → H' b = some o) → H' q = some (.lst zs) → Rs (.ok (.ret res)) s') →
    codeAny (model X.prog X.w) A1 (.builtin "list.extend.loop" ⟨[.ref q, .ref it, res], []⟩) Rs s := by
  intro k
  induction k with
  | zero =>
    intro i H s hk hi I hq hit ht hR
    have hin : i = zs.length := by omega
    obtain ⟨its, rv, pl, _⟩ := I.tuple ht
    have hl := rv.length
    refine codeAny_builtin PySem.F.entry_extend_loop ?_
    rw [Around.under_plainId PySem.F.plain_extend_loop _]
    show wpAny _ A1.in1 (pyNext (.ref it) >>= _) _ _ s
    refine wpAny_bind (tup_end (items := its.toArray) hh (tiO_get I hit) pl (by rw [List.getElem?_toArray]; exact List.getElem?_eq_none (by omega)) fun h' eb ex => ?_)
    refine wpAny_pure (hR (upd H it (TiE it)) _ ?_ (fun b o n1 n2 e => by rw [upd_ne n2]; exact e) ?_)
    · exact I.write (x := it) (e := it) (t' := s.toks) (by rw [hit]; exact trivial) (.inl rfl) (fun b u nb e => eb b u nb e) ex (tiE_ok ex)
    · rw [upd_ne (ne_of hq hit fun z => nomatch z), hq, hin, List.take_length]
  | succ k ih =>
    intro i H s hk hi I hq hit ht hR
    have hlt : i < zs.length := by omega
    obtain ⟨its, rv, pl, _⟩ := I.tuple ht
    have hl := rv.length
    obtain ⟨u, hu, ru⟩ := rv.get (List.getElem?_eq_getElem hlt)
    refine codeAny_builtin PySem.F.entry_extend_loop ?_
    rw [Around.under_plainId PySem.F.plain_extend_loop _]
    show wpAny _ A1.in1 (pyNext (.ref it) >>= _) _ _ s
    refine wpAny_bind (wpAny_pyNext_tuple_item (items := its.toArray) (x := u) (tiO_get I hit) pl (by rw [List.getElem?_toArray]; exact hu) fun h' hit' sb => ?_)
    have I1 : Inv X pins σ (upd H it (TiO t it (i + 1))) { s with heap := h' } :=
      I.write (x := it) (e := it) (t' := s.toks) (by rw [hit]; exact trivial) (.inl rfl) (fun b u nb e => sb.extBut b u nb e) (let ⟨o, ho, _⟩ := hit'; ⟨o, ho⟩) (tiO_ok hit')
    have nq : q ≠ it := ne_of hq hit fun z => nomatch z
    have hq1 : upd H it (TiO t it (i + 1)) q = some (.lst (zs.take i)) := by rw [upd_ne nq]; exact hq
    obtain ⟨z2, its2, n2, r2, hl2, e2⟩ := I1.lstM hq1
    show wpAny _ A1.in1 (updateSeq q (·.push u) >>= _) _ _ _
    have htl : (zs.take i).length = i := by rw [List.length_take]; omega
    refine wpAny_bind (wpAny_updateSeq e2 rfl (wpAny_pure ⟨plainId_quiet PySem.F.plain_extend_loop _, ?_⟩) (by rw [List.size_toArray]; omega) (by show (its2.toArray.push u).size ≤ sizeLine + 1; rw [Array.size_push, List.size_toArray]; omega))
    have I2 := I1.lset (f := (·.push u)) (its' := its2 ++ [u]) (ys := zs.take i ++ [zs[i]]) (t' := s.toks) hq1 e2 (by simp) (r2.append (.cons ru .nil)) (by rw [List.length_append, List.length_singleton]; omega)
    refine ih (i + 1) _ _ (by omega) hlt I2 ?_ ?_ ?_ fun H' s' I' kk hq' => hR H' s' I' (fun b o n1 n2 e => kk b o n1 n2 (by rw [upd_ne n1, upd_ne n2]; exact e)) hq'
    · rw [upd_same, List.take_append_getElem hlt]
    · rw [upd_ne nq.symm, upd_same]
    · have n1 : ∀ b o, H b = some o → b ≠ q → b ≠ it → upd (upd H it (TiO t it (i + 1))) q (.lst (zs.take i ++ [zs[i]])) b = some o := fun b o e n1 n2 => by rw [upd_ne n1, upd_ne n2]; exact e
      rcases ht with (h | ⟨o, h⟩) | h
      · exact .inl (.inl (n1 _ _ h (ne_of h hq fun z => nomatch z) (ne_of h hit fun z => nomatch z)))
      · exact .inl (.inr ⟨o, n1 _ _ h (ne_of h hq fun z => nomatch z) (ne_of h hit fun z => nomatch z)⟩)
      · exact .inr h
end
end Hn

/-! Own6 -/
/-! list(o), tuple(o) of an instance with its own __iter__ (a tuple's iterator) and __len__ -/
namespace Hn
open PySem PySem.Spec L2
open PyProof.Rows hiding St
section
variable {X : Cx} {pins : List (Addr × Obj)} {σ : L2.St} {H : Hp} {s : Shared} {C fi fl a q dx : Addr} {fs : List (Str × V)} {fdI fdL : FuncData} {psI psL : List Str} {spI spL : Sp} {EI EL : XK} {n : Nat} {A : Around}
theorem sub_env0 (sb : Sub X n A) (I : Inv X pins σ H s) : Env0 X.prog X.w X.K X.mg X.base A X.stack s H := by
  have e := I.env0
  exact ⟨by rw [sb.fr]; exact e.frames, e.mod, e.bs, e.bsz, e.funs, e.frf, e.hok, e.bare⟩
theorem own_hintLen {Q : Bool → Shared → Prop} {E : Value → Shared → Prop} {Qf : Hp → Prop} (sb : Sub X n A.in1) (hm : Meth X.K C "__len__" fl) (FL : FnOk X.prog X.w X.K X.mg X.base CX0 n fl fdL psL spL) (bL : Binds X.K fdL psL [])
    (I : Inv X pins σ H s) (ha : H a = some (.ins C dx fs)) (h : spL [.ref a] H (fun v H' => ∃ k : Int, v = .int k ∧ 0 ≤ k ∧ k ≤ 10000 ∧ Qf H') EL) (hQ : ∀ b H' s', Inv X pins σ H' s' → Qf H' → Q b s') :
    wpAny (model X.prog X.w) A (Builtin.List.listLengthHint (.ref a)) Q E s := by
  obtain ⟨mA, J, _⟩ := ins_get I.hok ha
  obtain ⟨od, J, _⟩ := J.look
  obtain ⟨m, hF⟩ := I.fr
  have hl : ([V.ref a] : List V).length = psL.length := FL.len _ _ _ _ h
  have r2 : Vals [V.ref a] [Value.ref a] := .cons rfl .nil
  unfold Builtin.List.listLengthHint
  refine wpAny_bind (wpAny_bind (J.type.here ((PySem.W.looks_findIn I.kIn hm.at_).here ?_)))
  refine PySem.W.KFB.if_not rfl ?_
  refine PySem.W.KFB.if_so rfl ?_
  refine wpAny_bind (wpAny_rule ?_)
  refine wpAny_bind (wpAny_attempt (PySem.W.len_K hF I.ok.mod.kin J hm.at_ hm.fn (wpAny_call (codeAny_mono (FL.run A.in1 X.stack s H ⟨[.ref a], []⟩ [.ref a] [.ref a] _ EL sb.room (sub_env0 sb I) (by
      have z := bL s [.ref a] I.kIn (by simpa using hl)
      simpa using z) r2 h) fun r s' hq => ?_))))
  cases r with
  | error er => exact False.elim (pass0 (X := X.nox) pins σ H s er s' (I.wish _) hq)
  | ok f =>
    cases f with
    | ret w =>
      obtain ⟨z, H', I', rz, k, ez, k0, k1, q'⟩ := I.after hq
      subst ez
      obtain ⟨t, rfl⟩ := rz
      refine ⟨⟨k0, by omega⟩, ?_⟩
      show wpAny _ _ (if Builtin.List.listTooLong k.toNat = true then _ else _) _ _ _
      rw [if_neg (by
        show ¬ (decide (k.toNat > sizeLine) = true)
        rw [decide_eq_true_eq]
        have := small_line' (n := k.toNat) (by omega)
        omega)]
      exact wpAny_pure (hQ _ H' _ (I'.tok _) q')
    | next => exact False.elim hq
    | brk => exact False.elim hq
    | cont => exact False.elim hq
/-- what list(o), tuple(o) do with the new list at q -/
def OwnIt (K : PySem.W.Frag) (C : Addr) (spI spL : Sp) (EI EL : XK) (a q : Addr) (R : List V → Hp → Prop) : Hp → Prop := fun H =>
  (∃ dx fs, H a = some (.ins C dx fs)) ∧ spI [.ref a] H (fun v H1 => ∃ (it t : Addr) (zs : List V), v = .ref it ∧ H1 it = some (TiO t it 0) ∧ SqT K H1 t zs ∧ zs.length ≤ 10000 ∧ (∃ dx fs, H1 a = some (.ins C dx fs)) ∧ H1 q = some (.lst []) ∧
    spL [.ref a] H1 (fun v H2 => ∃ k : Int, v = .int k ∧ 0 ≤ k ∧ k ≤ 10000 ∧ H2 it = some (TiO t it 0) ∧ SqT K H2 t zs ∧ H2 q = some (.lst []) ∧
      ∀ H3, (∀ b o, b ≠ q → b ≠ it → H2 b = some o → H3 b = some o) → H3 q = some (.lst zs) → R zs H3) EL) EI
theorem own_ext {A1 : Around} {res : Value} {Rs : Result → Shared → Prop} {R : List V → Hp → Prop} (hh : A1.handled = none) (sb : Sub X (n + 1) A1.in1) (hi : Meth X.K C "__iter__" fi) (FI : FnOk X.prog X.w X.K X.mg X.base CX0 n fi fdI psI spI) (bI : Binds X.K fdI psI [])
    (hm : Meth X.K C "__len__" fl) (FL : FnOk X.prog X.w X.K X.mg X.base CX0 n fl fdL psL spL) (bL : Binds X.K fdL psL [])
    (I : Inv X pins σ H s) (hq : H q = some (.lst [])) (h : OwnIt X.K C spI spL EI EL a q R H) (hR : ∀ zs H' s', Inv X pins σ H' s' → H' q = some (.lst zs) → zs.length ≤ 10000 → R zs H' → Rs (.ok (.ret res)) s') :
    wpAny (model X.prog X.w) A1.in1 (Builtin.List.listExtendWith (.ref q) (.ref a) res)
      (fun fin s' => match fin with | .done f => Rs (.ok f) s' | .again c' => c'.quiet = true ∧ codeAny (model X.prog X.w) A1 c' Rs s') (fun e s' => Rs (.error e) s') s := by
  obtain ⟨⟨dx, fs, ha⟩, hspI⟩ := h
  have hne : q ≠ a := ne_of hq ha (fun z => nomatch z)
  obtain ⟨mA, J, _⟩ := ins_get I.hok ha
  obtain ⟨od, J, _⟩ := J.look
  obtain ⟨m0, hF⟩ := I.fr
  have hl : ([V.ref a] : List V).length = psI.length := FI.len _ _ _ _ hspI
  have r2 : Vals [V.ref a] [Value.ref a] := .cons rfl .nil
  have sb0 : Sub X n A1.in1 := sb.mono (Nat.le_succ _)
  unfold Builtin.List.listExtendWith
  refine wpAny_bind (J.type.here ?_)
  have h1 : Builtin.List.listSameRef (.ref q) (.ref a) = false := by simp [Builtin.List.listSameRef, hne]
  have h2 : (Value.ref C == Value.type "list") = false := rfl
  have h3 : (Value.ref C == Value.type "tuple") = false := rfl
  simp only [h1, h2, h3, Bool.or_false, Bool.false_eq_true, if_false]
  refine wpAny_bind (PySem.W.owit_iter hF I.ok.mod.kin J hi.at_ hi.fn ?_)
  refine wpAny_call (codeAny_mono (FI.run A1.in1 X.stack s H ⟨[.ref a], []⟩ [.ref a] [.ref a] _ EI sb0.room (sub_env0 sb0 I) (by
    have z := bI s [.ref a] I.kIn (by simpa using hl)
    simpa using z) r2 hspI) fun r s' hq' => ?_)
  cases r with
  | error er => exact False.elim (pass0 (X := X.nox) pins σ H s er s' (I.wish _) hq')
  | ok f =>
    cases f with
    | next => exact False.elim hq'
    | brk => exact False.elim hq'
    | cont => exact False.elim hq'
    | ret u =>
      obtain ⟨v, H1, I1, rv, it, t, zs, ev, hit, ht, hz, ⟨dx1, fs1, ha1⟩, hq1, hspL⟩ := I.after hq'
      subst ev
      cases rv
      unfold PySem.W.OwitIt
      refine wpAny_specialOf (tiO_get I1 hit).typeIs PySem.F.slot_tuple_iterator_next.lookup ?_
      refine wpAny_bind (wpAny_holding (own_hintLen (sb.in1) hm FL bL I1 ha1 (Qf := fun H2 => H2 it = some (TiO t it 0) ∧ SqT X.K H2 t zs ∧ H2 q = some (.lst []) ∧ ∀ H3, (∀ b o, b ≠ q → b ≠ it → H2 b = some o → H3 b = some o) → H3 q = some (.lst zs) → R zs H3) hspL fun b H2 s2 I2 hf => ?_))
      obtain ⟨hit2, ht2, hq2, k2⟩ := hf
      have go : ∀ (s3 : Shared), Inv X pins σ H2 s3 → codeAny (model X.prog X.w) A1 (.builtin "list.extend.loop" ⟨[.ref q, .ref it, res], []⟩) Rs s3 := fun s3 I3 =>
        ti_loop hh (small_line' hz) _ 0 H2 s3 rfl (Nat.zero_le _) I3 hq2 hit2 ht2 fun H3 s4 I4 k4 hq4 => hR zs H3 s4 I4 hq4 hz (k2 H3 k4 hq4)
      obtain ⟨z, its, c, r3, hl3, e3⟩ := I2.lstM hq2
      cases r3
      refine wpAny_ite_split (fun _ => ?_) (fun _ => wpAny_pure ⟨plainId_quiet PySem.F.plain_extend_loop _, go _ I2⟩)
      refine wpAny_bind (wpAny_rule ?_)
      refine wpAny_bind ?_
      show wpAny _ _ (updateSeq q (·.push .none) >>= fun _ => updateSeq q (·.pop)) _ _ _
      refine wpAny_bind (wpAny_updateSeq e3 rfl ?_)
      have I3 := I2.lset (f := (·.push Value.none)) (its' := [Value.none]) (ys := [.non]) (t' := s2.toks) hq2 e3 (by simp) (.cons rfl .nil) (by rw [List.length_singleton, sizeLine_eq]; decide)
      obtain ⟨z4, its4, k4, r4, hl4, e4⟩ := I3.lstM upd_same
      obtain ⟨u4, rfl, ru4⟩ := r4.one
      refine wpAny_updateSeq e4 rfl ?_ (by show 1 ≤ sizeLine; rw [sizeLine_eq]; decide) (by show 0 ≤ sizeLine + 1; exact Nat.zero_le _)
      refine wpAny_pure ⟨plainId_quiet PySem.F.plain_extend_loop _, go _ ?_⟩
      have I5 := I3.lset (f := (·.pop)) (its := [u4]) (its' := []) (ys := []) (t' := s2.toks) upd_same e4 (by rfl) .nil (Nat.zero_le _)
      rw [upd_upd] at I5
      have hH : upd H2 q (.lst []) = H2 := by
        funext b
        by_cases hb : b = q
        · rw [hb, upd_same, hq2]
        · rw [upd_ne hb]
      rw [hH] at I5
      exact I5
/-- list(o) -/
def rOwnList (K : PySem.W.Frag) (C : Addr) (spI spL : Sp) (EI EL : XK) : List V → Hp → VK → Prop := fun xs H Q => ∃ a, xs = [.ref a] ∧ (∃ dx fs, H a = some (.ins C dx fs)) ∧ ∀ q, H q = none → OwnIt K C spI spL EI EL a q (fun _ H' => Q (.ref q) H') (upd H q (.lst []))
theorem call_ownList {K : PySem.W.Frag} (hK : X.K = K) (hc : X.calm = true) (hi : Meth X.K C "__iter__" fi) (FI : FnOk X.prog X.w X.K X.mg X.base CX0 n fi fdI psI spI) (bI : Binds X.K fdI psI [])
    (hm : Meth X.K C "__len__" fl) (FL : FnOk X.prog X.w X.K X.mg X.base CX0 n fl fdL psL spL) (bL : Binds X.K fdL psL []) (hr : Room (n + 3) X.A) : CallR X (.type "list") (rOwnList K C spI spL EI EL) := by
  subst hK
  intro pins s σ H xs us Q I rv h
  obtain ⟨a, rfl, ⟨dx, fs, ha⟩, hq⟩ := h
  obtain ⟨u, rfl, ru⟩ := rv.one
  cases ru
  have sb : Sub X (n + 1) X.A.in1.in1 := (Sub.in1 (Sub.in1 (⟨hr, rfl⟩ : Sub X (n + 3) X.A)))
  refine callType_codes (Q₁ := fun obj s₁ => obj = .ref s.heap.objs.size ∧ s₁ = { s with heap := s.heap.push { cls := .type "list", data := .seq #[] } }) PySem.F.called_list (PySem.F.typeCall_list_1 _) PySem.F.entry_list_init
    (code_list_new _ ⟨rfl, rfl⟩) fun obj s₁ h₁ => ?_
  obtain ⟨rfl, rfl⟩ := h₁
  have hS : (s.heap.push { cls := .type "list", data := .seq #[] }).get? s.heap.objs.size = some { cls := .type "list", data := .seq #[] } := Heap.get?_push_size _ rfl
  refine ⟨⟨_, hS, rfl⟩, PySem.F.args_list_init_2 _ _, ?_⟩
  have fr : H s.heap.objs.size = none := I.hok.fresh (Nat.le_refl _)
  have I1 : Inv X pins σ (upd H s.heap.objs.size (.lst [])) { s with heap := s.heap.push { cls := .type "list", data := .seq #[] } } := I.lnew (its := []) (t' := s.toks) .nil (Nat.zero_le _)
  show wpAny _ _ (do let old ← Builtin.List.listItems (.ref s.heap.objs.size); Builtin.List.listUpdate (.ref s.heap.objs.size) (fun _ => #[]); letGo old.toList.reverse; Builtin.List.listExtendWith (.ref s.heap.objs.size) (.ref a) .none) _ _ _
  refine wpAny_bind ?_
  unfold Builtin.List.listItems
  refine wpAny_bind (wpAny_seqItems hS rfl (wpAny_pure ?_))
  show wpAny _ _ (updateSeq s.heap.objs.size (fun _ => #[]) >>= fun _ => letGo (#[] : Array Value).toList.reverse >>= fun _ => Builtin.List.listExtendWith (.ref s.heap.objs.size) (.ref a) .none) _ _ _
  refine wpAny_bind (wpAny_updateSeq hS rfl ?_)
  have I2 := I1.lset (f := fun _ => #[]) (its := []) (its' := []) (ys := []) (t' := s.toks) upd_same hS rfl .nil (Nat.zero_le _)
  rw [upd_upd] at I2
  refine wpAny_bind (wpAny_letGo ?_)
  exact own_ext (A1 := X.A.in1) (Rs := wants (fun r s₂ => r = .none ∧ EP X pins σ Q (.ref s.heap.objs.size) s₂) X.xe) (I.ok.hd hc) sb hi FI bI hm FL bL I2 upd_same (hq _ fr)
    fun zs H' s' I' _ _ hR => ⟨rfl, .ref s.heap.objs.size, H', I', rfl, hR⟩
/-- tuple(o) -/
def rOwnTup (K : PySem.W.Frag) (C : Addr) (spI spL : Sp) (EI EL : XK) : List V → Hp → VK → Prop := fun xs H Q => ∃ a, xs = [.ref a] ∧ (∃ dx fs, H a = some (.ins C dx fs)) ∧ ∀ q, H q = none → OwnIt K C spI spL EI EL a q (fun zs H' => ∀ p, H' p = none → Q (.ref p) (upd H' p (.tup zs))) (upd H q (.lst []))
theorem own_collect {Q : List Value → Shared → Prop} {E : Value → Shared → Prop} {R : List V → Hp → Prop} (hh : A.handled = none) (sb : Sub X (n + 1) A.in1) (hi : Meth X.K C "__iter__" fi) (FI : FnOk X.prog X.w X.K X.mg X.base CX0 n fi fdI psI spI) (bI : Binds X.K fdI psI [])
    (hm : Meth X.K C "__len__" fl) (FL : FnOk X.prog X.w X.K X.mg X.base CX0 n fl fdL psL spL) (bL : Binds X.K fdL psL [])
    (I : Inv X pins σ H s) (h : ∀ q, H q = none → OwnIt X.K C spI spL EI EL a q R (upd H q (.lst []))) (hR : ∀ zs H' s' its, Inv X pins σ H' s' → zs.length ≤ 10000 → R zs H' → Vals zs its → Q its s') :
    wpAny (model X.prog X.w) A (collect (.ref a)) Q E s := by
  unfold collect
  refine wpAny_bind (wpAny_runValue (codeAny_builtin PySem.F.entry_proto_collect ?_))
  rw [Around.under_plainId PySem.F.plain_proto_collect _]
  show wpAny _ A.in1 (newList [] >>= fun l' => again (.builtin "list.__iadd__" ⟨[l', .ref a], []⟩)) _ _ s
  refine wpAny_bind (wpAny_newObj_type ?_)
  refine wpAny_pure ⟨plainId_quiet PySem.F.plain_list_iadd _, codeAny_builtin PySem.F.entry_list_iadd ?_⟩
  rw [Around.under_plainId PySem.F.plain_list_iadd _]
  have fr : H s.heap.objs.size = none := I.hok.fresh (Nat.le_refl _)
  have I1 : Inv X pins σ (upd H s.heap.objs.size (.lst [])) { s with heap := s.heap.push { cls := .type "list", data := .seq ([] : List Value).toArray } } := I.lnew (its := []) (t' := s.toks) .nil (Nat.zero_le _)
  show wpAny _ A.in1 (Builtin.List.listExtendWith (.ref s.heap.objs.size) (.ref a) (.ref s.heap.objs.size)) _ _ _
  refine wpAny_mono (own_ext (A1 := A) (Rs := fun r s' => r = .ok (.ret (.ref s.heap.objs.size)) ∧ ∃ zs H' its c, Inv X pins σ H' s' ∧ zs.length ≤ 10000 ∧ R zs H' ∧ Vals zs its ∧ s'.heap.get? s.heap.objs.size = some { cls := .type "list", data := .seq its.toArray c }) hh sb hi FI bI hm FL bL I1 upd_same (h _ fr) fun zs H' s' I' hq hz hr => ?_) (fun fin s' hf => ?_) fun e s' he => ?_
  · obtain ⟨z, its, c, r3, hl3, e3⟩ := I'.lstM hq
    exact ⟨rfl, zs, H', its, c, I', hz, hr, r3, e3⟩
  · cases fin with
    | done f =>
      obtain ⟨e, zs, H', its, c, I', hz, hr, r3, e3⟩ := hf
      cases e
      show wpAny _ A (load s.heap.objs.size >>= _) _ _ s'
      refine wpAny_bind (wpAny_load e3 ?_)
      exact wpAny_pure (hR zs H' s' its I' hz hr r3)
    | again c' =>
      refine ⟨hf.1, codeAny_mono hf.2 fun r s2 hr2 => ?_⟩
      obtain ⟨rfl, zs, H', its, c, I', hz, hr, r3, e3⟩ := hr2
      show wpAny _ A (load s.heap.objs.size >>= _) _ _ s2
      refine wpAny_bind (wpAny_load e3 ?_)
      exact wpAny_pure (hR zs H' s2 its I' hz hr r3)
  · exact nomatch he.1
theorem code_tupOwn {Q₁ : Value → Shared → Prop} {E : Value → Shared → Prop} {R : List V → Hp → Prop} (hh : A.handled = none) (sb : Sub X (n + 1) A.in1.in1) (hi : Meth X.K C "__iter__" fi) (FI : FnOk X.prog X.w X.K X.mg X.base CX0 n fi fdI psI spI) (bI : Binds X.K fdI psI [])
    (hm : Meth X.K C "__len__" fl) (FL : FnOk X.prog X.w X.K X.mg X.base CX0 n fl fdL psL spL) (bL : Binds X.K fdL psL [])
    (I : Inv X pins σ H s) (ha : H a = some (.ins C dx fs)) (h : ∀ q, H q = none → OwnIt X.K C spI spL EI EL a q R (upd H q (.lst []))) (hR : ∀ zs H' s' its, Inv X pins σ H' s' → zs.length ≤ 10000 → R zs H' → Vals zs its →
      Q₁ (.ref s'.heap.objs.size) { s' with heap := s'.heap.push { cls := .type "tuple", data := .seq its.toArray } }) :
    codeAny (model X.prog X.w) A (.call (.builtin "tuple.__new__") ⟨[.type "tuple", .ref a], []⟩) (wants Q₁ E) s := by
  obtain ⟨mA, J, _⟩ := ins_get I.hok ha
  obtain ⟨od, J, _⟩ := J.look
  have hT : ∀ (A : Around) (E : Value → Shared → Prop) (Q : Value → Shared → Prop), Q (.ref C) s → wpAny (model X.prog X.w) A (typeOf (.ref a)) Q E s := fun _ _ _ q => J.type.here q
  refine codeAny_of_tree ?_
  show wpAny _ A.in1 (do checkBuiltinCall "tuple.__new__" ⟨[.type "tuple", .ref a], []⟩; again (.builtin "tuple.__new__" ⟨[.type "tuple", .ref a], []⟩)) _ _ s
  refine wpAny_bind (wpAny_of_eq (PySem.F.newCall_tuple_1 _) (wpAny_pure ⟨plainId_quiet PySem.F.plain_tuple_new _, codeAny_builtin PySem.F.entry_tuple_new ?_⟩))
  rw [Around.under_plainId PySem.F.plain_tuple_new _]
  have hsub := sub_tuple_self
  have hinit := init_tuple_lookup
  have hmh := madeHere_tuple
  have hh1 : A.in1.handled = none := hh
  wp_walk using (hT _ _ _), own_collect (A := A.in1) hh1 sb hi FI bI hm FL bL I h
  intro zs H' s' its I' hz hr rv
  have hl := rv.length
  show wpAny _ _ (Builtin.Tuple.tupleExact its.toArray >>= fun v => ret v) _ _ _
  unfold Builtin.Tuple.tupleExact
  refine wpAny_bind (wpAny_newObj_type ?_ (by show its.toArray.size ≤ sizeLine; rw [List.size_toArray, ← hl]; exact small_line' hz))
  exact wpAny_pure (hR zs H' s' its I' hz hr rv)
theorem call_ownTup {K : PySem.W.Frag} (hK : X.K = K) (hc : X.calm = true) (hi : Meth X.K C "__iter__" fi) (FI : FnOk X.prog X.w X.K X.mg X.base CX0 n fi fdI psI spI) (bI : Binds X.K fdI psI [])
    (hm : Meth X.K C "__len__" fl) (FL : FnOk X.prog X.w X.K X.mg X.base CX0 n fl fdL psL spL) (bL : Binds X.K fdL psL []) (hr : Room (n + 4) X.A) : CallR X (.type "tuple") (rOwnTup K C spI spL EI EL) := by
  subst hK
  intro pins s σ H xs us Q I rv h
  obtain ⟨a, rfl, ⟨dx, fs, ha⟩, hq⟩ := h
  obtain ⟨u, rfl, ru⟩ := rv.one
  cases ru
  have sb : Sub X (n + 1) X.A.in1.in1.in1 := Sub.in1 (Sub.in1 (Sub.in1 (⟨hr, rfl⟩ : Sub X (n + 4) X.A)))
  refine callType_codes (Q₁ := fun obj s₁ => s₁.TypeIs obj "tuple" ∧ EP X pins σ Q obj s₁) PySem.F.called_tuple (PySem.F.typeCall_tuple_1 _) PySem.F.entry_object_init
    (code_tupOwn (A := X.A.in1) (I.ok.hd hc) sb hi FI bI hm FL bL I ha hq fun zs H' s' its I' hz hr' rz => ⟨⟨_, Heap.get?_push_size _ rfl, rfl⟩, ?_⟩) fun obj s₁ h₁ => ?_
  · have I2 : Inv X pins σ (upd H' s'.heap.objs.size (.tup zs)) { s' with heap := s'.heap.push { cls := .type "tuple", data := .seq its.toArray } } :=
      I'.laid (t' := s'.toks) (fun b o e => Heap.get?_push_of_some _ e) (Nat.le_refl _) (show ObjOk X.prog X.w _ _ _ (.tup zs) from ⟨small_line' hz, its, rz, IsTup.new _ _⟩)
    exact ⟨.ref s'.heap.objs.size, _, I2, rfl, hr' _ (I'.hok.fresh (Nat.le_refl _))⟩
  · exact ⟨h₁.1, PySem.F.args_object_init_2 obj _, object_init_meets PySem.F.called_tuple.init.lookup PySem.F.called_tuple.made (by decide) X.prog X.w X.A.in1 _ s₁ ⟨h₁.1, rfl, h₁.2⟩⟩
end
end Hn

/-! Own7 -/
/-! sum(ls, []) of a list of lists -/
namespace Hn
open PySem PySem.Spec L2
open PyProof.Rows hiding St
theorem args_sum2 (a b : Value) : argsOk "sum" ⟨[a, b], []⟩ := by unfold argsOk; kernel_rfl
theorem list_notStr : isSubtype (.type "list") (.type "str") = pure false := by rw [isSubtype_type]; kernel_rfl
theorem list_notBytes : isSubtype (.type "list") (.type "bytes") = pure false := by rw [isSubtype_type]; kernel_rfl
theorem list_notBa : isSubtype (.type "list") (.type "bytearray") = pure false := by rw [isSubtype_type]; kernel_rfl
section
variable {X : Cx} {pins : List (Addr × Obj)} {σ : L2.St} {H : Hp} {s : Shared}
/-- the rows at as, from place i on, one behind another -/
def catFrom (f : Nat → List V) (i : Nat) : Nat → List V
  | 0 => []
  | k + 1 => f i ++ catFrom f (i + 1) k
theorem sum_loop {A1 : Around} {l it S : Addr} {as : List Addr} {f : Nat → List V} {Rs : Result → Shared → Prop} (hh : A1.handled = none) :
    ∀ (k i : Nat) (H : Hp) (s : Shared) (p : Addr) (xs : List V), as.length - i = k → i ≤ as.length → Inv X pins σ H s → H it = some (LiO l it i) → H S = some (.lst [.ref p]) → H p = some (.lst xs) → p ≠ S → l ≠ S → SqL X.K H l (as.map V.ref) →
    (∀ j (h : j < as.length), as[j] ≠ S ∧ H as[j] = some (.lst (f j))) → xs.length + (catFrom f i k).length ≤ 10000 →
    (∀ H' s' p', Inv X pins σ H' s' → (∀ b o, b ≠ S → b ≠ it → H b = some o → H' b = some o) → H' p' = some (.lst (xs ++ catFrom f i k)) → Rs (.ok (.ret (.ref p'))) s') →
    codeAny (model X.prog X.w) A1 (.builtin "sum.loop" ⟨[.ref it, .ref S, rawInt 2, rawInt 0], []⟩) Rs s := by
  intro k
  induction k with
  | zero =>
    intro i H s p xs hk hi I hit hS hp npS nlS hl ha hz hR
    have hin : i = as.length := by omega
    obtain ⟨its, rv, pl, _⟩ := I.list hl
    have hle := rv.length
    rw [List.length_map] at hle
    obtain ⟨zS, itS, nS, rS, hlS, eS⟩ := I.lstM hS
    obtain ⟨u, rfl, ru⟩ := rS.one
    cases ru
    refine codeAny_builtin PySem.F.entry_sum_loop ?_
    rw [Around.under_plainId PySem.F.plain_sum_loop _]
    show wpAny _ A1.in1 (seqItems? (.ref S) >>= _) _ _ s
    refine wpAny_bind (wpAny_seqItems eS rfl ?_)
    show wpAny _ A1.in1 (tryCatch (pyNext (.ref it)) _ >>= _) _ _ s
    refine wpAny_bind (wpAny_tryCatch (list_end (items := its.toArray) hh (liO_get I hit) pl.isList (by rw [List.getElem?_toArray]; exact List.getElem?_eq_none (by omega)) fun h' eb ex => ?_))
    refine wpAny_pure (hR (upd H it (TiE it)) _ p ?_ (fun b o n1 n2 e => by rw [upd_ne n2]; exact e) ?_)
    · exact I.write (x := it) (e := it) (t' := s.toks) (by rw [hit]; exact trivial) (.inl rfl) (fun b u nb e => eb b u nb e) ex (tiE_ok ex)
    · rw [upd_ne (ne_of hp hit fun z => nomatch z), hp]
      show _ = some (HO.lst (xs ++ []))
      rw [List.append_nil]
  | succ k ih =>
    intro i H s p xs hk hi I hit hS hp npS nlS hl ha hz hR
    have hlt : i < as.length := by omega
    obtain ⟨its, rv, pl, _⟩ := I.list hl
    have hle := rv.length
    rw [List.length_map] at hle
    obtain ⟨u, hu, ru⟩ := rv.get (i := i) (x := .ref as[i]) (by rw [List.getElem?_map, List.getElem?_eq_getElem hlt]; rfl)
    cases ru
    obtain ⟨zS, itS, nS, rS, hlS, eS⟩ := I.lstM hS
    obtain ⟨u, rfl, ru⟩ := rS.one
    cases ru
    refine codeAny_builtin PySem.F.entry_sum_loop ?_
    rw [Around.under_plainId PySem.F.plain_sum_loop _]
    show wpAny _ A1.in1 (seqItems? (.ref S) >>= _) _ _ s
    refine wpAny_bind (wpAny_seqItems eS rfl ?_)
    show wpAny _ A1.in1 (tryCatch (pyNext (.ref it)) _ >>= _) _ _ s
    have hitg := liO_get I hit
    refine wpAny_bind (wpAny_tryCatch (wpAny_pyNext_list_item (items := its.toArray) (x := .ref as[i]) hitg pl.isList (by rw [List.getElem?_toArray]; exact hu) fun h' hit' sb => ?_))
    have I1 : Inv X pins σ (upd H it (LiO l it (i + 1))) { s with heap := h' } :=
      I.write (x := it) (e := it) (t' := s.toks) (by rw [hit]; exact trivial) (.inl rfl) (fun b u nb e => sb.extBut b u nb e) (let ⟨o, ho, _⟩ := hit'; ⟨o, ho⟩) (liO_ok hit')
    have nSi : S ≠ it := ne_of hS hit fun z => nomatch z
    have npi : p ≠ it := ne_of hp hit fun z => nomatch z
    obtain ⟨nai, hai⟩ := ha i hlt
    have nti : as[i] ≠ it := ne_of hai hit fun z => nomatch z
    have hS1 : upd H it (LiO l it (i + 1)) S = some (.lst [.ref p]) := by rw [upd_ne nSi]; exact hS
    obtain ⟨zp, itp, np, rp, hlp, ep⟩ := I1.lstM (l := p) (xs := xs) (by rw [upd_ne npi]; exact hp)
    obtain ⟨za, ita, na, ra, hla, ea⟩ := I1.lstM (l := as[i]) (xs := f i) (by rw [upd_ne nti]; exact hai)
    have hz' : xs.length + (f i ++ catFrom f (i + 1) k).length ≤ 10000 := hz
    rw [List.length_append] at hz'
    have hsm := small_line' (n := xs.length + (f i).length) (by omega)
    show wpAny _ A1.in1 ((holding [Value.ref as[i]] (binaryOp .Add (.ref p) (.ref as[i]))).attempt >>= _) _ _ _
    refine wpAny_bind (wpAny_attempt (wpAny_holding (PySem.P.add_list ep ea ?_ (by rw [List.size_toArray, List.size_toArray]; omega))))
    have eap : itp.toArray ++ ita.toArray = (itp ++ ita).toArray := by simp
    rw [eap]
    have I2 : Inv X pins σ (upd (upd H it (LiO l it (i + 1))) h'.objs.size (.lst (xs ++ f i))) { s with heap := h'.push { cls := .type "list", data := .seq (itp ++ ita).toArray } } :=
      I1.lnew (t' := s.toks) (rp.append ra) (by rw [List.length_append]; omega)
    have frN : upd H it (LiO l it (i + 1)) h'.objs.size = none := I1.hok.fresh (Nat.le_refl _)
    generalize hN : h'.objs.size = N at I2 frN
    have nNS : N ≠ S := (ne_of_none hS1 frN).symm
    have nNi : N ≠ it := (ne_of_none upd_same frN).symm
    have frH : H N = none := by rw [← frN, upd_ne nNi]
    have hS2 : upd (upd H it (LiO l it (i + 1))) N (.lst (xs ++ f i)) S = some (.lst [.ref p]) := by rw [upd_ne nNS.symm]; exact hS1
    obtain ⟨zS2, itS2, nS2, rS2, hlS2, eS2⟩ := I2.lstM hS2
    show wpAny _ A1.in1 (updateSeq S (fun _ => #[.ref N]) >>= _) _ _ _
    refine wpAny_bind (wpAny_updateSeq eS2 rfl ?_)
    have I3 := I2.lset (f := fun _ => #[Value.ref N]) (its' := [Value.ref N]) (ys := [.ref N]) (t' := s.toks) hS2 eS2 rfl (.cons rfl .nil) (by show 1 ≤ sizeLine; rw [sizeLine_eq]; decide)
    obtain ⟨zS3, itS3, nS3, rS3, hlS3, eS3⟩ := I3.lstM upd_same
    refine wpAny_bind (wpAny_letGo ?_)
    refine wpAny_bind (wpAny_updateSeq eS3 rfl (wpAny_pure ⟨plainId_quiet PySem.F.plain_sum_loop _, ?_⟩))
    have I4 := I3.lset (f := fun _ => #[Value.ref N]) (its' := [Value.ref N]) (ys := [.ref N]) (t' := s.toks) upd_same eS3 rfl (.cons rfl .nil) (by show 1 ≤ sizeLine; rw [sizeLine_eq]; decide)
    rw [upd_upd] at I4
    have keep : ∀ b o, b ≠ S → b ≠ it → H b = some o → upd (upd (upd H it (LiO l it (i + 1))) N (.lst (xs ++ f i))) S (.lst [.ref N]) b = some o := fun b o n1 n2 e => by
      rw [upd_ne n1, upd_ne (ne_of_none e frH), upd_ne n2]; exact e
    refine ih (i + 1) _ _ N (xs ++ f i) (by omega) hlt I4 ?_ upd_same ?_ nNS nlS ?_ ?_ (by rw [List.length_append]; omega) fun H' s' p' I' kk hp' => hR H' s' p' I' (fun b o n1 n2 e => kk b o n1 n2 (keep b o n1 n2 e)) ?_
    · rw [upd_ne nSi.symm, upd_ne nNi.symm, upd_same]
    · rw [upd_ne nNS, upd_same]
    · rcases hl with (h | ⟨o, h⟩) | h
      · exact .inl (.inl (keep _ _ nlS (ne_of h hit fun z => nomatch z) h))
      · exact .inl (.inr ⟨o, keep _ _ nlS (ne_of h hit fun z => nomatch z) h⟩)
      · exact .inr h
    · intro j hj
      obtain ⟨n1, h1⟩ := ha j hj
      exact ⟨n1, keep _ _ n1 (ne_of h1 hit fun z => nomatch z) h1⟩
    · rw [hp', List.append_assoc]
      rfl
/-- sum(ls, []) -/
def rSumL (K : PySem.W.Frag) : List V → Hp → VK → Prop := fun vs H Q => ∃ (l e : Addr) (as : List Addr) (f : Nat → List V), vs = [.ref l, .ref e] ∧ SqL K H l (as.map V.ref) ∧ H e = some (.lst []) ∧ (∀ j (h : j < as.length), H as[j] = some (.lst (f j))) ∧
  (catFrom f 0 as.length).length ≤ 10000 ∧ ∀ p H', Same H H' → H' p = some (.lst (catFrom f 0 as.length)) → Q (.ref p) H'
theorem call_sumL {K : PySem.W.Frag} (hc : X.calm = true) (hK : X.K = K) : CallR X (.builtin "sum") (rSumL K) := by
  subst hK
  intro pins s σ H vs us Q I r h
  obtain ⟨l, e, as, f, rfl, hl, he, ha, hz, q⟩ := h
  obtain ⟨u, v, rfl, ru, rv⟩ := r.two
  cases ru
  cases rv
  obtain ⟨its, rl, pl, _⟩ := I.list hl
  obtain ⟨ze, ite, ne, re, hle, ee⟩ := I.lstM he
  have hTe : ∀ {s' : Shared}, s'.heap.get? e = some { cls := .type "list", data := .seq ite.toArray ne } → s'.TypeIs (.ref e) "list" := fun h => ⟨_, h, rfl⟩
  refine call_function_tree PySem.F.kind_sum PySem.F.plain_sum PySem.F.entry_sum (args_sum2 _ _) ?_
  unfold Builtin.«sum»
  simp only [List.length_cons, List.length_nil]
  rw [if_neg (by decide)]
  refine wpAny_bind (wpAny_of_eq (show Builtin.Builtins.bindParams "sum" ["start"] 0 ⟨[.ref e], []⟩ = pure [some (.ref e)] from rfl) ?_)
  refine wpAny_bind (wpAny_pyIter_list pl.isList ?_)
  have hX : ({ s with heap := s.heap.push { cls := .type "list_iterator", data := .fields #[.ref l, .int 0 0] } } : Shared).heap.get? e = some { cls := .type "list", data := .seq ite.toArray ne } := Heap.get?_push_of_some _ ee
  refine wpAny_bind (wpAny_pure ?_)
  simp only [List.forIn_cons, List.forIn_nil]
  refine wpAny_bind (wpAny_bind (wpAny_bind (wpAny_isInstance (T := "list") (b := false) (hTe hX) list_notStr ?_)))
  simp only [Bool.false_eq_true, if_false]
  refine wpAny_pure (wpAny_bind (wpAny_bind (wpAny_isInstance (T := "list") (b := false) (hTe hX) list_notBytes ?_)))
  simp only [Bool.false_eq_true, if_false]
  refine wpAny_pure (wpAny_bind (wpAny_bind (wpAny_isInstance (T := "list") (b := false) (hTe hX) list_notBa ?_)))
  simp only [Bool.false_eq_true, if_false]
  refine wpAny_pure (wpAny_pure ?_)
  have I1 : Inv X pins σ (upd H s.heap.objs.size (LiO l s.heap.objs.size 0)) { s with heap := s.heap.push { cls := .type "list_iterator", data := .fields #[.ref l, .int 0 0] } } :=
    I.laid (t' := s.toks) (fun b u q => Heap.get?_push_of_some _ q) (Nat.le_refl _) (liO_ok ⟨_, Heap.get?_push_size _ rfl, rfl, rfl⟩)
  have fr1 : H s.heap.objs.size = none := I.hok.fresh (Nat.le_refl _)
  refine wpAny_bind (wpAny_newObj_type ?_)
  have I2 := I1.lnew (its := [Value.ref e]) (ys := [V.ref e]) (t' := s.toks) (.cons rfl .nil) (by show 1 ≤ sizeLine; rw [sizeLine_eq]; decide)
  have fr2 := I1.hok.fresh (Nat.le_refl (s.heap.push { cls := .type "list_iterator", data := .fields #[.ref l, .int 0 0] }).objs.size)
  refine wpAny_pure ⟨plainId_quiet PySem.F.plain_sum_loop _, ?_⟩
  generalize hit : s.heap.objs.size = it at I1 I2 fr1 fr2
  generalize hS : (s.heap.push { cls := .type "list_iterator", data := .fields #[.ref l, .int 0 0] }).objs.size = S at I2 fr2
  have nSi : S ≠ it := (ne_of_none upd_same fr2).symm
  have frS : H S = none := by rw [← fr2, upd_ne nSi]
  have keep : ∀ b o, H b = some o → upd (upd H it (LiO l it 0)) S (.lst [.ref e]) b = some o := fun b o q => by
    rw [upd_ne (ne_of_none q frS), upd_ne (ne_of_none q fr1)]; exact q
  have sm : Same H (upd (upd H it (LiO l it 0)) S (.lst [.ref e])) := keep
  refine sum_loop (as := as) (f := f) (I.ok.hd hc) as.length 0 _ _ e [] rfl (Nat.zero_le _) I2 (by rw [upd_ne nSi.symm, upd_same]) upd_same (keep _ _ he) (ne_of_none he frS) ?_ (sm.seq hl) (fun j hj => ⟨ne_of_none (ha j hj) frS, keep _ _ (ha j hj)⟩) (by rw [List.length_nil, Nat.zero_add]; exact hz) fun H' s' p' I' kk hp' => ?_
  · obtain ⟨o, n, eo, _⟩ := pl
    rw [← hS, Heap.size_push]
    exact Nat.ne_of_lt (Nat.lt_succ_of_lt (Heap.lt_size eo))
  · exact ⟨.ref p', H', I', rfl, q p' H' (fun b o x => kk b o (ne_of_none x frS) (ne_of_none x fr1) (keep _ _ x)) hp'⟩
end
end Hn

/-! Filt -/
/-! a comprehension with a condition; a clock's own iteration -/
namespace Hn
open PySem L2
theorem K_bm {X : Cx} {K : PySem.W.Frag} {o e : Expr} {es : List Expr} {to : TE} {t : TA} {name : Str} {apos cpos : Pos} {T id : String} {r : V → List V → Hp → VK → Prop} (hK : X.K = K) (pa : PlainAttrs T) (slot : Slot T name id)
    (hty : typeOf (.builtin id) = pure (.type "method_descriptor")) (hm : MtR X id r) (ho : PE X o to) (ha : PA X (e :: es) t)
    (hbase : attributeBase o name X.env (eval o X.env) = eval o X.env := by rfl)
    (hfew : ((backTo cpos (starEach (e :: es) X.env)).all (fun x => !x.1) && (backToKw cpos (keywordEach [] X.env)).all (fun x => x.1.isSome)
      && decide ((e :: es).length + ([] : List Keyword).length + (if ([] : List Keyword).isEmpty then 0 else 1) < 30)) = true := by rfl)
    (hline : (apos.endLine == cpos.line) = true := by rfl) (hs : starEach (e :: es) X.env = (false, eval e X.env) :: starEach es X.env := by rfl) (hplain : (backTo cpos (starEach es X.env)).any (·.1) = false := by rfl) :
    PE X (.Call (.Attribute o name apos) (e :: es) [] cpos) (tBM K T r to t) := by
  subst hK
  exact pe_bm pa slot hty hm ho ha hbase hfew hline hs hplain
theorem lc_filtR {lo : Int} {n : Nat} {tt : TT} {te : TE} {j : Nat} {σ : L2.St} {H1 : Hp} {D : Addr} {Qd : Hp → Prop} (f : Nat → V) (p : Nat → Bool) (nD : H1 D = none) (hz : n ≤ 10000)
    (ht : ∀ i (_ : i < n) (H : Hp) (R : Bool → Hp → Prop), Same H1 H → R (p i) H → tt ((wipe σ [j]).set j (some (.int (lo + i)))) H R)
    (he : ∀ i (_ : i < n) (H : Hp) (R : VK), p i = true → Same H1 H → (∀ H4, Same H H4 → R (f i) H4) → te ((wipe σ [j]).set j (some (.int (lo + i)))) H R)
    (hd : ∀ H, Same H1 H → H D = some (.lst (((List.range n).filter p).map f)) → Qd H) : LcG (Itr lo n) (gName j) tt te [j] σ H1 D Qd := by
  refine lc_range (lo := lo) (n := n) (fun i H => Same H1 H ∧ H D = some (.lst (((List.range i).filter p).map f))) ⟨same_new nD, upd_same⟩ (fun i H hi ⟨sm, hD⟩ => ?_) (fun H h => hd H h.1 h.2)
  have hlen : (((List.range i).filter p).map f).length ≤ i := by
    rw [List.length_map]
    exact Nat.le_trans (List.length_filter_le _ _) (by rw [List.length_range]; exact Nat.le_refl _)
  refine ⟨wipe_one _ _ _, ht i hi H _ sm ?_⟩
  cases e : p i with
  | false =>
    refine iteF ⟨sm, ?_⟩
    rw [List.range_succ, List.filter_append, List.filter_cons_of_neg (by rw [e]; exact Bool.false_ne_true)]
    simpa using hD
  | true =>
    refine iteT (he i hi H _ e sm fun H4 s4 => ⟨_, s4 _ _ hD, small_line (by omega), fun b o q => ?_, ?_⟩)
    · rw [upd_ne (ne_of_none q nD)]
      exact s4 _ _ (sm _ _ q)
    · rw [upd_same, List.range_succ, List.filter_append, List.filter_cons_of_pos (by rw [e])]
      simp
/-- a comprehension over a list whose condition is never so -/
theorem lc_noneL {K : PySem.W.Frag} {a : Addr} {xs : List V} {tt : TT} {te : TE} {j : Nat} {σ : L2.St} {H1 : Hp} {D : Addr} {Qd : Hp → Prop} (hS : SqL K H1 a xs) (nD : H1 D = none)
    (ht : ∀ i (hi : i < xs.length) (H : Hp) (R : Bool → Hp → Prop), Same H1 H → (∀ H4, Same H H4 → R false H4) → tt ((wipe σ [j]).set j (some xs[i])) H R)
    (hd : ∀ H, Same H1 H → H D = some (.lst []) → Qd H) : LcG (Itl K a) (gName j) tt te [j] σ H1 D Qd := by
  refine lc_list (K := K) (a := a) (xs := xs) (fun i H => Same H1 H ∧ H D = some (.lst [])) ⟨same_new nD, upd_same⟩ (fun i H _ h => h.1.seq hS) (fun i x H hx ⟨sm, hD⟩ => ?_) (fun H h => hd H h.1 h.2)
  have hi : i < xs.length := (List.getElem?_eq_some_iff.mp hx).1
  rw [List.getElem?_eq_getElem hi] at hx
  cases hx
  exact ⟨wipe_one _ _ _, ht i hi H _ sm fun H4 s4 => iteF ⟨sm.trans s4, s4 _ _ hD⟩⟩
theorem filter_below (n w : Nat) (h : w ≤ n) : (List.range n).filter (fun b => decide (b < w)) = List.range w := by
  induction n with
  | zero =>
    obtain rfl : w = 0 := by omega
    rfl
  | succ n ih =>
    rw [List.range_succ, List.filter_append]
    by_cases e : w ≤ n
    · rw [ih e, List.filter_cons_of_neg (by rw [decide_eq_true_eq]; omega)]
      simp
    · obtain rfl : w = n + 1 := by omega
      rw [List.filter_cons_of_pos (by rw [decide_eq_true_eq]; omega)]
      rw [List.filter_eq_self.mpr fun x hx => by rw [decide_eq_true_eq]; have := List.mem_range.mp hx; omega]
      rw [List.range_succ]
      rfl
theorem catFrom_iv (g : Nat → List Int) : ∀ (k i : Nat), catFrom (fun j => iv (g j)) i k = iv (Clk.catI g i k)
  | 0, _ => rfl
  | k + 1, i => by
    show iv (g i) ++ catFrom (fun j => iv (g j)) (i + 1) k = iv (g i ++ Clk.catI g (i + 1) k)
    rw [catFrom_iv g k (i + 1)]
    exact (List.map_append ..).symm
theorem kit_self (K : PySem.W.Frag) (C : Addr) : PySem.W.kitOne K (.ref C) (.ref C) = some true := by
  unfold PySem.W.kitOne
  rw [if_pos (by simp)]
theorem shaped_tupI (ns : List Int) : SeqAt.shaped (.tuple (ns.map PyData.int)) = true := shaped_I ns
theorem eqv_tupI (a b : List Int) : PyData.eqv (.tuple (a.map PyData.int)) (.tuple (b.map PyData.int)) = decide (a = b) := eqvAll_I a b
/-- len(o), iter(o) of a clock -/
def spLen (K : PySem.W.Frag) (C : Addr) : Sp := fun vs H Q _ => ∃ (p : Addr) (ns : List Int), vs = [.ref p] ∧ ClkAt K C H p ns ∧ Q (.int ns.length) H
def spIter (K : PySem.W.Frag) (C : Addr) : Sp := fun vs H Q _ => ∃ (p dx t : Addr) (xs : List V), vs = [.ref p] ∧ H p = some (.ins C dx [("_stays", .ref t)]) ∧ SqT K H t xs ∧ ∀ it, H it = none → Q (.ref it) (upd H it (TiO t it 0))
theorem ownIt_clk {K : PySem.W.Frag} {C a q : Addr} {EI EL : XK} {H : Hp} {R : List V → Hp → Prop} {ns : List Int} (hC : ClkAt K C H a ns) (nq : H q = none)
    (h : ∀ H3, Same H H3 → H3 q = some (.lst (iv ns)) → R (iv ns) H3) : OwnIt K C (spIter K C) (spLen K C) EI EL a q R (upd H q (.lst [])) := by
  have s1 : Same H (upd H q (.lst [])) := same_new nq
  have hC1 := hC.same s1
  obtain ⟨dx, t, h1, h2⟩ := id hC1.ex
  refine ⟨⟨dx, _, h1⟩, a, dx, t, iv ns, rfl, h1, h2, fun it nit => ?_⟩
  have s2 : Same (upd H q (.lst [])) (upd (upd H q (.lst [])) it (TiO t it 0)) := same_new nit
  have tp := hC.ok.top
  refine ⟨it, t, iv ns, rfl, upd_same, Same.set s2 h2, by rw [iv_len]; omega, ⟨dx, _, s2 _ _ h1⟩, s2 _ _ upd_same, a, ns, rfl, hC1.same s2, (ns.length : Int), rfl, by omega, by omega, upd_same, Same.set s2 h2, s2 _ _ upd_same, fun H3 k hq => h H3 (fun b o e => ?_) hq⟩
  exact k b o (ne_of_none e nq) (ne_of_none (s1 _ _ e) nit) (s2 _ _ (s1 _ _ e))
end Hn

/-! Gd -/
/-! repr of data, where no repr is under way: promises that are kept by calls of which that is known -/
namespace Hn
open PySem PySem.Spec L2
open PyProof.Rows hiding St
def rRepr (K : PySem.W.Frag) : List V → Hp → VK → Prop := fun xs H Q => ∃ (a : Addr) (d : PyData), xs = [.ref a] ∧ Dp K H (.ref a) d ∧ d.showable = true ∧ d.hasDict = false ∧ d.depth ≤ 60 ∧ d.shown.length ≤ sizeLine ∧ Q (.str d.shown) H
theorem K_repr {X : Cx} {K : PySem.W.Frag} (hK : X.K = K) (hg : X.A.guards = some []) (hu : X.A.units + 64 < cLine) : CallR X (.builtin "repr") (rRepr K) := by
  subst hK
  intro pins s σ H xs us Q I r h
  obtain ⟨a, d, rfl, hd, hs, hnd, hdp, hz, q⟩ := h
  obtain rfl := Vals.ref1 r
  obtain ⟨as, r1⟩ := Dp.reads I d (.ref a) (.ref a) hd rfl
  exact repr_of_reads' r1 hs (PyData.noDict_hsm hnd) hg (by omega) (fun _ _ e => e) (fun h' u tk hk => ⟨.str d.shown, H, I.kept (t' := tk) hk, ⟨_, rfl⟩, q⟩) hz
/-- what a def promises to callers under which no repr is under way -/
structure FnG (P : Program) (w : World) (K : PySem.W.Frag) (mg : Str → Option Value) (base : Heap) (k : Nat) (f : Addr) (fd : FuncData) (ps : List Str) (sp : Sp) : Prop where
  len : ∀ vs H Q E, sp vs H Q E → vs.length = ps.length
  run : ∀ (A : Around) (outer : List Env) (s : Shared) (H : Hp) (args : Args) (us : List Value) (vs : List V) (Q : VK) (E : XK), A.guards = some [] → Room k A → Env0 P w K mg base A outer s H → BindsTo s fd args (ps.zip us) → Vals vs us → sp vs H Q E →
    codeAny (model P w) A (.call (.ref f) args) (CR CX0 outer P w H s Q E) s
section
variable {P : Program} {w : World} {K : PySem.W.Frag} {mg : Str → Option Value} {base : Heap}
theorem okG {x qual : Str} {st : Stmt} {f : Addr} {fd : FuncData} {N ps : List Str} {k : Nat} {sp : Sp} (F : Fun K x qual st f fd) (S : FnScope N ps (defScope st)) (len : ∀ vs H Q E, sp vs H Q E → vs.length = ps.length)
    (hbody : ∀ (cdv : Value) (A : Around) (outer : List Env) (s : Shared) (H : Hp) (vs : List V) (Q : VK) (E : XK), A.guards = some [] → Room k (A.deeper (envOfC qual (defScope st) s.heap.objs.size f cdv)) → sp vs H Q E →
      ∃ t, PSs (cxOf CX0 P w K mg base N qual (defScope st) f cdv A outer s H E).nox (defBody st) t ∧ t { nx := fun _ H' => Q .non H', rt := Q } (L2.start N vs) H) : FnG P w K mg base (k + 1) f fd ps sp := by
  obtain ⟨oc, od, kV, doc, pm, an, cdv, ct, osl, rfl, lk, hcd⟩ := F.ex
  refine ⟨len, fun A outer s H args us vs Q E hG hr e0 hb rel hsp => ?_⟩
  have grown : ∀ b o, base.get? b = some o → s.heap.get? b = some o := fun b o e => (e0.bs b o e).1
  have inK := e0.mod.kin.keeps grown
  refine codeAny_call_function hr.depth (inK _ _ lk) rfl S.co S.gen rfl (PySem.W.codeRec_of inK hcd) (hb _ _ _ _ ?_)
  refine wpAny_newFunctionEnv_cells S.kind (fun y hy => ?_) fun env he s1 entered => ?_
  · rcases S.par y.1 (List.of_mem_zip (show (y.1, y.2) ∈ ps.zip us from hy)).1 with z | z
    · exact .inl z
    · exact .inr ⟨z, PySem.W.cellsFrom_some _ _ _ (.inl z)⟩
  subst he
  obtain ⟨t, body, reads⟩ := hbody cdv A outer s H vs Q E hG (hr.deeper _) hsp
  refine ⟨(e0.mod.nolimit.keeps grown).keeps entered.toInCall.keep, codeAny_func ?_⟩
  have J := inv_start (CX := CX0) (E := E) S hr.hd e0 (len _ _ _ _ hsp) rel entered
  refine wpAny_mono (body.nox.run [] s1 (L2.start N vs) H _ J reads) (fun fl s' out => ?_) fun e s' out => out
  match fl, out with
  | .ret u, ⟨v, _, H', J', rv, q⟩ => exact ⟨v, H', J'.os, J'.bare, J'.base, J'.hok, rv, q⟩
  | .next, ⟨_, H', J', q⟩ => exact ⟨.non, H', J'.os, J'.bare, J'.base, J'.hok, rfl, q⟩
  | .brk, ⟨_, _, _, q⟩ => exact q.elim
  | .cont, ⟨_, _, _, q⟩ => exact q.elim
end
section
variable {X : Cx} {k : Nat} {f : Addr} {fd : FuncData} {ps : List Str} {sp : Sp} {E : XK} {x : Str} {p pos : Pos} {e : Expr} {es : List Expr} {t : TA}
theorem pe_callG (F : FnG X.prog X.w X.K X.mg X.base k f fd ps sp) (hG : X.A.guards = some []) (hr : Room k X.A) (hg : Gl X x) (hm : X.mg x = some (.ref f)) (hk : PySem.W.keepIn X.K (.ref f) = true) (hb : Binds X.K fd ps [])
    (hx : Passes CX0 X E) (ha : PA X (e :: es) t) (hdb : (x == ("__debug__" : Str)) = false := by decide) (he : starEach (e :: es) X.env = (false, eval e X.env) :: starEach es X.env := by rfl) (hpl : (backTo pos (starEach es X.env)).any (·.1) = false := by rfl) :
    PE X (.Call (.Name x p) (e :: es) [] pos) (tCall sp [] E t) := by
  refine ⟨fun pins s σ H Q I h => wpAny_Call_Name_kw (ld_glob I hg hm ?_ hdb)⟩
  refine PySem.W.callWith_K (h₀ := X.base) I.ok.mod.kin hk (thn (ha.run pos pins s σ H _ I h) fun us s1 ⟨vs, H1, I1, r, q⟩ => ⟨I1.kIn, ?_⟩) he hpl
  have q : sp vs H1 Q E := by simpa using q
  have many : us.length = ps.length := r.length ▸ F.len _ _ _ _ q
  have bound := hb s1 us I1.kIn (by simpa using many)
  rw [List.append_nil] at bound
  show wpAny (model X.prog X.w) X.A (call (.ref f) us) (EP X pins σ Q) X.xe s1
  refine wpAny_call (codeAny_mono (F.run X.A X.stack s1 H1 ⟨us, []⟩ us vs Q E hG hr I1.env0 bound r q) fun out s' z => ?_)
  match out, z with
  | .error er, z => exact hx pins σ H1 s1 er s' I1 z
  | .ok (.ret u), z => exact I1.after z
  | .ok .next, z => exact z.elim
  | .ok .brk, z => exact z.elim
  | .ok .cont, z => exact z.elim
end
/-- the law's own call, from the promise of its def -/
theorem lawG {P : Program} {w : World} {K : PySem.W.Frag} {mg mb : Str → Option Value} {k : Nat} {fa a : Addr} {fd : FuncData} {x : Str} {sp : Sp} {s₁ : Shared} {vs : List Value} {ns : List Int}
    (KX : K.In s₁.heap) (hns : s₁.heap.Ns mainGlobals mg) (hb : s₁.heap.Ns builtinsNs mb) (hbb : ∀ x : Str, x ≠ "__name__" → mb x = bootBuiltins x) (hlim : s₁.heap.NoLimit) (hg : s₁.gens = #[])
    (ha : s₁.heap.get? a = some { cls := .type "list", data := .seq vs.toArray }) (hi : IntsAre vs ns) (hl : ns.length ≤ sizeLine) (hr : Room k callerA)
    (F : ∀ base : Heap, K.In base → base.Ns mainGlobals mg → FnG P w K mg base k fa fd [x] sp) (hbind : ∀ (s : Shared) (u : Value), BindsTo s fd ⟨[u], []⟩ [(x, u)])
    (hsp : ∀ H : Hp, Only H → SqL K H a (ns.map V.int) → sp [.ref a] H (fun v _ => v = .bl true) fun _ _ _ => False) :
    codeAny (model P w) callerA (.call (.ref fa) ⟨[.ref a], []⟩) (fun r s' => r = .ok (.ret (.bool true)) ∧ OldK s₁.heap s'.heap ∧ s'.os = s₁.os ∧ AllBare s'.gens) s₁ := by
  classical
  have rvs := vals_ints hi
  -- what is tracked: the script, unless the program has written it
  let script : HO := .frz { cls := .type "list", data := .seq vs.toArray } (.lst (ns.map V.int))
  let H : Hp := fun b => if b = a ∧ K.lookup a = none then some script else none
  have at_ : ∀ {b u}, H b = some u → b = a ∧ K.lookup a = none ∧ u = script := fun {b u} z => by
    by_cases c : b = a ∧ K.lookup a = none
    · exact ⟨c.1, c.2, (Option.some.inj ((if_pos c).symm.trans z)).symm⟩
    · exact absurd ((if_neg c).symm.trans z) (fun z => nomatch z)
  have only : Only H := fun b => by
    cases e : H b with
    | none => exact .inl rfl
    | some u => exact .inr ⟨_, _, congrArg some (at_ e).2.2⟩
  have seq : SqL K H a (ns.map V.int) := by
    cases hk : K.lookup a with
    | none => exact .inl (.inr ⟨_, if_pos ⟨rfl, hk⟩⟩)
    | some o =>
      have e := KX a o hk
      rw [ha] at e
      cases e
      exact .inr ⟨_, vs.toArray, _, hk, rfl, rfl, rfl, by rw [List.size_toArray, hi.length]; exact hl, by simpa using rvs⟩
  have hok : HOk P w H s₁.heap := fun b u z => by
    obtain ⟨rfl, _, rfl⟩ := at_ z
    exact ⟨ha, by rw [List.length_map]; exact hl, vs, _, rvs, ha⟩
  have dictFree : ∀ {b : Addr} {o : Obj} {es : Array DictEntry} {ep : Nat}, s₁.heap.get? b = some o → o.data = .dict es ep → H b = none := fun {b o es ep} e d => by
    cases z : H b with
    | none => rfl
    | some u =>
      obtain ⟨rfl, _, _⟩ := at_ z
      rw [ha] at e
      cases e
      exact nomatch d
  have names : ∀ {b : Addr} {m : Str → Option Value}, s₁.heap.Ns b m → (hidT s₁.heap H).Ns b m := fun {b m} ⟨o, es, ep, e, d, r⟩ => ⟨o, es, ep, hidT_get e (dictFree e d), d, r⟩
  have inBase : K.In (hidT s₁.heap H) := fun b o e => hidT_get (KX b o e) (by
    cases z : H b with
    | none => rfl
    | some u =>
      obtain ⟨rfl, kn, _⟩ := at_ z
      rw [kn] at e
      exact nomatch e)
  have env : Env0 P w K mg (hidT s₁.heap H) callerA [] s₁ H := ⟨rfl, ⟨inBase, names hns, ⟨mb, names hb, hbb⟩, let ⟨mc, h1, h2⟩ := hlim; ⟨mc, names h1, h2⟩⟩, fun b o e => of_hidT e, Nat.le_of_eq (hidT_size _ _), trivial,
    fun b hb => absurd (show b ∈ ([] : List Addr) from hb) (by simp), hok, .of_eq hg⟩
  refine codeAny_mono ((F _ inBase (names hns)).run callerA [] s₁ H ⟨[.ref a], []⟩ [.ref a] [.ref a] _ _ rfl hr env (hbind s₁ (.ref a)) (.cons rfl .nil) (hsp H only seq)) fun r s' h => ?_
  match r, h with
  | .error e, h => exact (show False from h).elim
  | .ok .next, h => exact h.elim
  | .ok .brk, h => exact h.elim
  | .ok .cont, h => exact h.elim
  | .ok (.ret u), ⟨v, H', os, bare, un, hok', rel, q⟩ =>
    obtain rfl : v = .bl true := q
    obtain rfl : u = Value.bool true := rel
    refine ⟨rfl, OldK.of_keep fun b o e => ?_, os, bare⟩
    cases z : H b with
    | none => exact un.keep b o e z (fun z => absurd (show b ∈ ([] : List Addr) from z) (by simp)) (by simp)
    | some u =>
      obtain ⟨rfl, _, rfl⟩ := at_ z
      obtain ⟨e2, _⟩ := hok' _ _ (un.frzs _ _ _ z)
      rw [ha] at e
      cases e
      exact e2
theorem walkG {l : PySem.W.OpenLaw} {n k : Nat} {q : Program} {loose : List Str} {XP : (Str → Option Value) → Heap → Prop} {YP : World → Heap → Prop} {d : DefRec} {K : Params → PySem.W.Frag} {sp : World → Sp} {x : Str}
    (hn : l.most = some n) (hn2 : n ≤ sizeLine) (hdf : d.params.defaults = []) (hr : Room k callerA) (hY : ∀ (w : World) (h : Heap), YP w h → (K w.params).In h)
    (F : ∀ (w : World) (mg : Str → Option Value) (fa : Addr) (h : Heap), (K w.params).In h → h.Ns mainGlobals mg → mg d.name = some (.ref fa) →
      ∃ fd : FuncData, (∀ (s : Shared) (u : Value), BindsTo s fd ⟨[u], []⟩ [(x, u)]) ∧ ∀ base : Heap, (K w.params).In base → base.Ns mainGlobals mg → FnG l.prog w (K w.params) mg base k fa fd [x] (sp w))
    (hsp : ∀ (w : World) (H : Hp) (a : Addr) (ns : List Int), ns.length ≤ n → Only H → SqL (K w.params) H a (ns.map V.int) → sp w [.ref a] H (fun v _ => v = .bl true) fun _ _ _ => False) :
    PySem.W.WalkO q loose XP YP l.row.toRowW d [] (fun f vs => PySem.call f vs) := by
  refine Att.attach_call hn hdf fun w s₀ s₁ mg mb fa o pm cd doc a vs ns G Y ho hd hcd hmg hobj hints hlen hg => ?_
  obtain ⟨fd, bound, promise⟩ := F w mg fa _ (hY w _ Y) G.T.g hmg
  exact lawG (hY w _ Y) G.T.g G.T.b G.T.builtins G.T.nolimit hg hobj hints (Nat.le_trans hlen hn2) hr promise bound fun H only seq => hsp w H a ns hlen only seq
end Hn

/-! Rep -/
/-! how data are shown: lists of small ints, lists of these; static methods -/
namespace Hn
open PySem PySem.Spec L2
open PyProof.Rows hiding St
theorem textFrom_top : ∀ (ts : List Str) (k : Nat) (acc : Str), (textFrom k acc ts).length ≤ acc.length + piled ts
  | [], _, acc => by
    show acc.length ≤ acc.length + piled []
    omega
  | t :: r, k, acc => by
    have h := textFrom_top r (k + 1) (acc ++ (if k > 0 then ", " else "" : String) ++ t)
    have e : (acc ++ (if k > 0 then ", " else "" : String) ++ t).length ≤ acc.length + 2 + t.length := by
      rw [strLen_append, strLen_append]
      by_cases hk : k > 0
      · rw [if_pos hk]
        exact Nat.le_refl _
      · rw [if_neg hk]
        exact Nat.add_le_add_right (Nat.add_le_add_left (Nat.zero_le 2) _) _
    rw [piled_cons]
    show (textFrom (k + 1) (acc ++ (if k > 0 then ", " else "" : String) ++ t) r).length ≤ _
    omega
theorem listText_top (ts : List Str) : (listText ts).length ≤ piled ts + 2 := by
  have h := textFrom_top ts 0 "["
  show (textFrom 0 "[" ts ++ "]").length ≤ _
  rw [strLen_append]
  have e1 : (("[" : String) : Str).length = 1 := rfl
  have e2 : (("]" : String) : Str).length = 1 := rfl
  omega
theorem piled_top {m : Nat} : ∀ (ds : List PyData), (∀ d ∈ ds, d.shown.length ≤ m) → piled (PyData.shownAll ds) ≤ ds.length * (m + 2)
  | [], _ => Nat.zero_le _
  | d :: r, h => by
    show piled (d.shown :: PyData.shownAll r) ≤ _
    rw [piled_cons, List.length_cons, Nat.succ_mul]
    have h1 := h d List.mem_cons_self
    have h2 := piled_top r fun x hx => h x (List.mem_cons_of_mem _ hx)
    omega
theorem showList {m : Nat} {ds : List PyData} (h : ∀ d ∈ ds, d.shown.length ≤ m) : (PyData.list ds).shown.length ≤ ds.length * (m + 2) + 2 := by
  have h1 := listText_top (PyData.shownAll ds)
  have h2 := piled_top ds h
  show (listText (PyData.shownAll ds)).length ≤ _
  omega
theorem showable_all : ∀ {ds : List PyData}, (∀ d ∈ ds, d.showable = true) → PyData.showableAll ds = true
  | [], _ => rfl
  | d :: r, h => by
    show (d.showable && PyData.showableAll r) = true
    rw [h d List.mem_cons_self, showable_all fun x hx => h x (List.mem_cons_of_mem _ hx)]
    rfl
theorem noDict_all : ∀ {ds : List PyData}, (∀ d ∈ ds, d.hasDict = false) → PyData.hasDictAll ds = false
  | [], _ => rfl
  | d :: r, h => by
    show (d.hasDict || PyData.hasDictAll r) = false
    rw [h d List.mem_cons_self, noDict_all fun x hx => h x (List.mem_cons_of_mem _ hx)]
    rfl
/-- data that are compared and shown: all that the law asks of them -/
structure Fine (n : Nat) (m : Nat) (d : PyData) : Prop where
  lay : d.canLay0 = true
  show_ : d.showable = true
  nod : d.hasDict = false
  dep : d.depth ≤ n
  len : d.shown.length ≤ m
theorem Fine.list {n m k : Nat} {ds : List PyData} (h : ∀ d ∈ ds, Fine n m d) (hk : ds.length ≤ k) : Fine (n + 1) (k * (m + 2) + 2) (.list ds) where
  lay := lay_all fun d hd => (h d hd).lay
  show_ := showable_all fun d hd => (h d hd).show_
  nod := noDict_all fun d hd => (h d hd).nod
  dep := Nat.succ_le_succ (depth_all fun d hd => (h d hd).dep)
  len := Nat.le_trans (showList fun d hd => (h d hd).len) (Nat.add_le_add_right (Nat.mul_le_mul_right _ hk) 2)
theorem Fine.int {i : Int} (h0 : 0 ≤ i) (h1 : i ≤ 100) : Fine 0 102 (.int i) where
  lay := rfl
  show_ := by
    show decide (i.natAbs.log2 < 1920) = true
    have := Nat.log2_le_self i.natAbs
    exact decide_eq_true (by omega)
  nod := rfl
  dep := Nat.le_refl _
  len := by
    have h := len_str_of_int i
    show (Str.ofString (toString i)).length ≤ 102
    omega
theorem fineI {ns : List Int} (h : ns.length ≤ 48) (hb : ∀ x ∈ ns, 0 ≤ x ∧ x ≤ 100) : Fine 1 5000 (dI ns) := by
  have z := Fine.list (n := 0) (m := 102) (k := 48) (ds := ns.map PyData.int) (fun d hd => by
    obtain ⟨i, hi, rfl⟩ := List.mem_map.mp hd
    exact Fine.int (hb i hi).1 (hb i hi).2) (by rw [List.length_map]; exact h)
  exact ⟨z.lay, z.show_, z.nod, z.dep, Nat.le_trans z.len (by decide)⟩
/-- a list of rows -/
abbrev dL (rows : List (List Int)) : PyData := .list (rows.map dI)
theorem fineL {rows : List (List Int)} (h : rows.length ≤ 48) (hb : ∀ r ∈ rows, r.length ≤ 48 ∧ ∀ x ∈ r, 0 ≤ x ∧ x ≤ 100) : Fine 2 1000000 (dL rows) := by
  have z := Fine.list (n := 1) (m := 5000) (k := 48) (ds := rows.map dI) (fun d hd => by
    obtain ⟨r, hr, rfl⟩ := List.mem_map.mp hd
    exact fineI (hb r hr).1 (hb r hr).2) (by rw [List.length_map]; exact h)
  exact ⟨z.lay, z.show_, z.nod, z.dep, Nat.le_trans z.len (by decide)⟩
theorem Fine.shaped {n m : Nat} {d : PyData} (h : Fine n m d) (hn : n ≤ 60) : SeqAt.shaped d = true := by
  unfold SeqAt.shaped
  rw [h.lay, Bool.true_and]
  exact decide_eq_true (by have := h.dep; omega)
theorem dp_L {K : PySem.W.Frag} {H : Hp} {D : Addr} {as : List Addr} {rows : List (List Int)} (hD : SqL K H D (as.map V.ref)) (hl : as.length = rows.length) (hk : ∀ k (h : k < as.length) (h2 : k < rows.length), SqL K H as[k] (iv rows[k])) : Dp K H (.ref D) (dL rows) := by
  refine .lst hD (dpAll_of (by rw [List.length_map, List.length_map]; exact hl) fun i h1 h2 => ?_)
  rw [List.length_map] at h1
  rw [List.getElem_map, List.getElem_map]
  exact Dp.ints (hk i h1 (by omega))
/-- C.m is a static method: its record at p, its def at g -/
structure SMet (K : PySem.W.Frag) (C : Addr) (m : Str) (p g : Addr) : Prop where
  rd : PySem.W.readsIn K C (.type "type") = true
  ga : PySem.W.specialIn K (.ref C) "__getattribute__" = some (some (.builtin "type.__getattribute__"))
  at_ : PySem.W.findCls K (.ref C) (.type "type") m = some (.get (.builtin "staticmethod.__get__") (.ref p) .none (.ref C))
  rc : ∃ rest, PySem.W.recIn K p "staticmethod" = some (.ref g :: rest)
def tSMeth (C : Addr) (sp : Sp) (E : XK) (ta : TE) (t : TA) : TE := fun σ H Q => ta σ H fun x H1 => x = .ref C ∧ t σ H1 fun vs H2 => sp vs H2 Q E
theorem pe_smeth {X : Cx} {k : Nat} {C p f : Addr} {fd : FuncData} {ps : List Str} {sp : Sp} {E : XK} {o e : Expr} {es : List Expr} {m : Str} {pos apos : Pos} {ta : TE} {t : TA} {pl : Sem Bool} (he : PE X o ta) (c : SMet X.K C m p f)
    (F : FnOk X.prog X.w X.K X.mg X.base CX0 k f fd ps sp) (hr : Room k X.A) (hk : PySem.W.keepIn X.K (.ref f) = true) (hb : Binds X.K fd ps []) (hx : Passes CX0 X E) (ha : PA X (e :: es) t)
    (hst : starEach (e :: es) X.env = (false, eval e X.env) :: starEach es X.env := by rfl) (hpl : (backTo pos (starEach es X.env)).any (·.1) = false := by rfl)
    (ht : eval (.Call (.Attribute o m apos) (e :: es) [] pos) X.env = (do
      let ov ← eval o X.env
      standAt apos.atName
      let (f, first) ← holding [ov] (getMethod ov m pl)
      callWith pos f first (backTo pos (starEach (e :: es) X.env)) (backToKw pos (keywordEach [] X.env))) := by rfl) :
    PE X (.Call (.Attribute o m apos) (e :: es) [] pos) (tSMeth C sp E ta t) := by
  refine ⟨fun pins s σ H Q I h => ?_⟩
  refine PySem.W.methodCall_KW (pl := pl) (thn (he.run pins s σ H _ I h) fun u s1 ⟨x, H1, I1, rx, ex, q⟩ => ?_) ht
  subst ex
  obtain rfl : u = Value.ref C := rx
  obtain ⟨rest, hp⟩ := c.rc
  refine PySem.W.method_cls I1.kIn c.ga (PySem.W.cls_bind I1.kIn c.rd c.at_ ?_)
  refine wpAny_call (PySem.W.sm_get (s := { s1 with toks := s1.toks + 1 }) I1.kIn hp (PySem.W.handed_on rfl ?_))
  have I2 : Inv X pins σ H1 { s1 with toks := s1.toks + 1 } := I1.tok _
  refine PySem.W.callWith_K (h₀ := X.base) I2.ok.mod.kin hk (thn (ha.run pos pins _ σ H1 _ I2 q) fun us s3 ⟨vs, H2, I3, rv, q2⟩ => ⟨I3.kIn, ?_⟩) hst hpl
  exact run_fn F hr hb .nil hx I3 rv (by simpa using q2)
/-- elements that are new objects, over a list -/
theorem lc_newL {K : PySem.W.Frag} {a : Addr} {xs : List V} {te : TE} {j : Nat} {σ : L2.St} {H1 : Hp} {D : Addr} {Qd : Hp → Prop} (f : Nat → HO) (hS : SqL K H1 a xs) (nD : H1 D = none) (hz : xs.length ≤ 10000)
    (he : ∀ i (hi : i < xs.length) (H : Hp) (R : VK), Same H1 H → (∀ H4 p, Same H H4 → H p = none → H4 p = some (f i) → R (.ref p) H4) → te ((wipe σ [j]).set j (some xs[i])) H R)
    (hd : ∀ H (as : List Addr), Same H1 H → H D = some (.lst (as.map V.ref)) → as.length = xs.length → (∀ k (h : k < as.length), H as[k] = some (f k)) → Qd H) : LcG (Itl K a) (gName j) tYes te [j] σ H1 D Qd := by
  refine lc_list (K := K) (a := a) (xs := xs) (fun i H => ∃ as : List Addr, Same H1 H ∧ H D = some (.lst (as.map V.ref)) ∧ as.length = i ∧ ∀ k (h : k < as.length), as[k] ≠ D ∧ H as[k] = some (f k))
    ⟨[], same_new nD, upd_same, rfl, fun k h => nomatch h⟩ (fun i H _ ⟨_, sm, _⟩ => sm.seq hS) (fun i x H hx ⟨as, sm, hD, hl, hp⟩ => ?_) (fun H ⟨as, sm, hD, hl, hp⟩ => hd H as sm hD hl fun k h => (hp k h).2)
  have hi : i < xs.length := (List.getElem?_eq_some_iff.mp hx).1
  rw [List.getElem?_eq_getElem hi] at hx
  cases hx
  refine ⟨wipe_one _ _ _, he i hi H _ sm fun H4 p s4 np hp4 => ?_⟩
  have hD4 := s4 _ _ hD
  have npD : p ≠ D := (ne_of_none hD np).symm
  refine ⟨as.map V.ref, hD4, by rw [List.length_map]; exact small_line (by omega), as ++ [p], fun b o e => ?_, ?_, by rw [List.length_append, hl]; rfl, fun k h => ?_⟩
  · rw [upd_ne (ne_of_none e nD)]
    exact s4 _ _ (sm _ _ e)
  · rw [upd_same, List.map_append]
    rfl
  · rw [List.length_append] at h
    by_cases hk : k < as.length
    · rw [List.getElem_append_left hk]
      obtain ⟨q1, q2⟩ := hp k hk
      exact ⟨q1, by rw [upd_ne q1]; exact s4 _ _ q2⟩
    · have e : k = as.length := by
        have : [p].length = 1 := rfl
        omega
      subst e
      rw [List.getElem_append_right (Nat.le_refl _)]
      simp only [Nat.sub_self, List.getElem_cons_zero]
      rw [hl]
      exact ⟨npD, by rw [upd_ne npD]; exact hp4⟩
theorem rg_len (n : Nat) : (rgV 0 (n : Int)).length = n := by
  rw [rgV_length]
  omega
theorem rg_at {n i : Nat} (h : i < (rgV 0 (n : Int)).length) : (rgV 0 (n : Int))[i] = V.int (i : Int) := by
  have e : rgV 0 (n : Int) = (List.range ((n : Int) - 0).toNat).map fun i => V.int (0 + (i : Nat)) := rfl
  have h' : i < ((List.range ((n : Int) - 0).toNat).map fun i => V.int (0 + (i : Nat))).length := h
  show ((List.range ((n : Int) - 0).toNat).map fun i => V.int (0 + (i : Nat)))[i] = V.int (i : Int)
  rw [List.getElem_map, List.getElem_range, Int.zero_add]
theorem le100 {m : Int} (h0 : 0 ≤ m) (h1 : m ≤ 48) : 0 ≤ m ∧ m ≤ 100 := ⟨h0, by omega⟩
theorem stays_fit {ns : List Int} (v : Clk.Valid ns) : ∀ x ∈ ns, 0 ≤ x ∧ x ≤ 100 := fun x hx => by
  have h := v.mem hx
  have t := v.top
  exact ⟨by omega, by omega⟩
theorem widths_fit {ns : List Int} (v : Clk.Valid ns) : ∀ x ∈ Clk.widths ns, 0 ≤ x ∧ x ≤ 100 := fun x hx => by
  obtain ⟨i, hi, rfl⟩ := Clk.mem_row.mp hx
  have h := Clk.wd_le ns (i : Int)
  have t := v.top
  exact ⟨by omega, by omega⟩
theorem mod_fit {n : Nat} (p : 0 < n) (t : n ≤ 48) (x : Int) : 0 ≤ x % (n : Int) ∧ x % (n : Int) ≤ 100 := by
  have h1 := Int.emod_nonneg x (show (n : Int) ≠ 0 by omega)
  have h2 := Int.emod_lt_of_pos x (show (0 : Int) < n by omega)
  exact ⟨h1, by omega⟩
theorem served_fit {ns : List Int} (v : Clk.Valid ns) (i : Int) : (Clk.served ns i).length ≤ 48 ∧ ∀ x ∈ Clk.served ns i, 0 ≤ x ∧ x ≤ 100 := by
  have l := Clk.served_len v i
  have hi := v.hi i
  have t := v.top
  refine ⟨by omega, fun x hx => ?_⟩
  obtain ⟨k, _, rfl⟩ := Clk.mem_row.mp hx
  exact mod_fit v.pos t _
theorem serving_fit {ns : List Int} (v : Clk.Valid ns) (i : Int) : (Clk.serving ns i).length ≤ 48 ∧ ∀ x ∈ Clk.serving ns i, 0 ≤ x ∧ x ≤ 100 := by
  have l := Clk.serving_len ns i
  have hi := Clk.wd_le ns i
  have t := v.top
  refine ⟨by omega, fun x hx => ?_⟩
  obtain ⟨k, _, rfl⟩ := Clk.mem_row.mp hx
  exact mod_fit v.pos t _
/-- rows made hour by hour -/
theorem dp_rows {K : PySem.W.Frag} {H : Hp} {D : Addr} {as : List Addr} {n : Nat} (g : Nat → List Int) (hD : H D = some (.lst (as.map V.ref))) (hl : as.length = n) (hk : ∀ k (h : k < as.length), H as[k] = some (.lst (iv (g k)))) : Dp K H (.ref D) (dL ((List.range n).map g)) :=
  dp_L (SqL.of hD) (by rw [List.length_map, List.length_range]; exact hl) fun k h h2 => by
    rw [List.getElem_map, List.getElem_range]
    exact SqL.of (hk k h)
theorem fine_rows {n : Nat} (hn : n ≤ 48) (g : Nat → List Int) (h : ∀ k, (g k).length ≤ 48 ∧ ∀ x ∈ g k, 0 ≤ x ∧ x ≤ 100) : Fine 2 1000000 (dL ((List.range n).map g)) := fineL (by rw [List.length_map, List.length_range]; exact hn) fun r hr => by
  obtain ⟨k, _, rfl⟩ := List.mem_map.mp hr
  exact h k
end Hn

/-! Exn -/
/-! errors: what a try's body lets out, isinstance(e, X) of an error of just this class -/
namespace Hn
open PySem PySem.Spec L2
open PyProof.Rows hiding St
theorem pe_never {X : Cx} {e : Expr} : PE X e (fun _ _ _ => False) := ⟨fun _ _ _ _ _ _ h => h.elim⟩
/-- in a try's body: what is wished must hold at all slots -/
theorem passLen {X : Cx} {W : WX} (n : Nat) (tk : Takes X W) (hn : X.N.length = n) : Passes (L2.CX X.prog X.w) X (fun cls d H => ∀ σ : L2.St, σ.length = n → W cls d σ H) := fun _ σ _ _ e s' I c => tk e s' (XE.of_call I (fun _ _ _ h => h σ (I.len.trans hn)) c)
/-- in a def that may raise: what a callee lets out goes out -/
theorem passOut {X : Cx} {E : XK} (tk : Takes X (fun cls d _ H => E cls d H)) : Passes (L2.CX X.prog X.w) X E := passes_call tk fun _ _ _ _ h => h
/-- a callee that may raise, but doesn't as it is called here -/
theorem passNone {X : Cx} : Passes (L2.CX X.prog X.w) X E0 := fun _ _ _ _ _ _ _ c => by
  obtain ⟨_, _, _, _, _, _, _, _, _, _, _, _, h⟩ := c
  exact h.elim
section
variable {prog : Program} {w : World} {A : Around} {E : Value → Shared → Prop} {s : Shared}
theorem isinst_exact {K : PySem.W.Frag} {x D : Addr} {oe : Obj} {od : Option Obj} {Q : Value → Shared → Prop} (J : PySem.W.InstAt s.heap x oe D od) (h : Q (.bool true) s) : wpAny (model prog w) A (call (.builtin "isinstance") [.ref x, .ref D]) Q E s := by
  refine call_isinstance (S := fun _ R s => (∃ oe od, PySem.W.InstAt s.heap x oe D od) ∧ R (.ok (.ret (.bool true))) s) (fun prog w A R s hs => isinstance_outer ?_ (fun z => nomatch z)) ⟨⟨oe, od, J⟩, h⟩
  obtain ⟨⟨oe, od, J⟩, hR⟩ := hs
  unfold Builtin.«isinstance.nested»
  refine wpAny_bind (J.type.here ?_)
  rw [if_pos (by simp)]
  exact wpAny_bind (wpAny_rule (wpAny_pure hR))
end
/-- isinstance(e, D), e the error that the suite holds, of the class D, with its own dict -/
def rIsX (cls : Value) (d : Option Addr) (a : Addr) : List V → Hp → VK → Prop := fun xs H Q => ∃ (D dd : Addr) (fs : List (Str × V)), xs = [.ref a, .ref D] ∧ cls = .ref D ∧ d = some dd ∧ H dd = some (.xd fs) ∧ Q (.bl true) H
theorem call_isX {X : Cx} {a : Addr} {oe : Obj} {cls : Value} {d : Option Addr} {pn : List (Addr × Obj)} (hz : Zc cls d oe) (hf : ∃ vs, oe.data = .fields vs) : CallR (X.suite a ((a, oe) :: pn)) (.builtin "isinstance") (rIsX cls d a) := by
  intro pins s σ H xs us Q I r h
  obtain ⟨D, dd, fs, rfl, rfl, rfl, hd, q⟩ := h
  obtain ⟨u, v, rfl, ru, rv⟩ := r.two
  cases ru
  cases rv
  obtain ⟨hget, _⟩ := I.pin (a, oe) (List.mem_append.mpr (.inl List.mem_cons_self))
  obtain ⟨vs, hv⟩ := hf
  obtain ⟨mA, hn, _⟩ := I.hok dd _ hd
  obtain ⟨oD, es, ep, eD, _, _⟩ := id hn
  have J : PySem.W.InstAt s.heap a oe D (some oD) := by
    obtain ⟨oc, od, oda, osl⟩ := oe
    obtain ⟨z1, z2⟩ := hz
    dsimp only at z1 z2 hv
    subst z1 z2 hv
    exact ⟨hget, rfl, rfl, eD⟩
  exact isinst_exact (K := X.K) J ⟨.bl true, H, I, rfl, q⟩
/-- an error of the class at X is what «except S» names -/
theorem exm_sub {K : PySem.W.Frag} {X S : Addr} (h1 : PySem.W.subIn K (.ref S) (.type "BaseException") = some true) (h2 : PySem.W.isClsIn K S = true) (h3 : PySem.W.typeIn K (.ref S) = some (.type "type")) (h4 : PySem.W.subIn K (.ref X) (.ref S) = some true) :
    PySem.W.exmOne K (.ref X) (.ref S) = some true := by
  have e1 : (PySem.W.subIn K (.ref S) (.type "BaseException") == some true) = true := by rw [h1] <;> rfl
  have e2 : ((PySem.W.clsIn K S).isSome && PySem.W.typeIn K (.ref S) == some (.type "type")) = true := by
    have h2' : (PySem.W.clsIn K S).isSome = true := h2
    rw [h2', h3] <;> rfl
  show (if (PySem.W.subIn K (.ref S) (.type "BaseException") == some true) = true then (if ((PySem.W.clsIn K S).isSome && PySem.W.typeIn K (.ref S) == some (.type "type")) = true then PySem.W.subIn K (.ref X) (.ref S) else none) else none) = some true
  rw [if_pos e1, if_pos e2]
  exact h4
end Hn

/-! SortB -/
/-! sorted(xs) of truths -/
namespace Hn
open PySem PySem.Spec L2
open PyProof.Rows hiding St
/-- a truth's number -/
def b2 : Value → Nat
  | .bool true => 1
  | _ => 0
def ltB (v u : Value) : Bool := decide (b2 v < b2 u)
theorem swo_B : SrtO.Swo ltB := by
  refine ⟨fun x y h => ?_, fun x y z h1 h2 => ?_⟩
  · have a := of_decide_eq_true (p := b2 x < b2 y) h
    exact decide_eq_false (p := b2 y < b2 x) (by omega)
  · have a := of_decide_eq_false (p := b2 y < b2 x) h1
    have b := of_decide_eq_false (p := b2 z < b2 y) h2
    exact decide_eq_false (p := b2 z < b2 x) (by omega)
theorem bool_first (b : Bool) : firstOfTuple' (.bool b) = pure none := by
  first
  | rfl
  | (cases b <;> rfl)
  | (simp only [firstOfTuple']; rfl)
theorem bools_first : ∀ bs : List Bool, (bs.map Value.bool).mapM firstOfTuple' = pure (bs.map fun _ => none)
  | [] => rfl
  | b :: r => by
    rw [List.map_cons, List.mapM_cons, bool_first, bools_first r]
    simp
theorem bools_type : ∀ bs : List Bool, (bs.map Value.bool).mapM typeOf = pure (bs.map fun _ => Value.type "bool")
  | [] => rfl
  | b :: r => by
    rw [List.map_cons, List.mapM_cons, bools_type r]
    show (pure (Value.type "bool") >>= fun b => pure _ >>= fun bs => pure (b :: bs)) = _
    simp
theorem kind_B {b c : Bool} {r : List Bool} : keyKind' ((b :: c :: r).map Value.bool).toArray = pure oneType' := by
  rw [keyKind'_eq, List.mapM_toArray, bools_first]
  simp only [map_pure, pure_bind]
  rw [if_neg (by simp), if_neg (by simp)]
  rw [oneTypeOnly'_eq, List.mapM_toArray, bools_type]
  simp only [map_pure, pure_bind]
  have hall : ((List.map (fun _ => Value.type "bool") (b :: c :: r)).toArray.all fun x => x == Value.type "bool") = true := by
    simp only [List.all_toArray, List.all_map, List.all_eq_true]
    intro _ _
    rfl
  have h0 : (List.map (fun _ => Value.type "bool") (b :: c :: r)).toArray[0]? = some (Value.type "bool") := by simp
  rw [h0]
  simp only [hall, if_true, pure_bind, Option.isSome_some]
section
variable {prog : Program} {w : World} {A : Around} {E : Value → Shared → Prop} {s : Shared}
theorem lt_B {p q : Bool} {Q : Bool → Shared → Prop} (h : Q (decide (b2 (.bool p) < b2 (.bool q))) s) : wpAny (model prog w) A (oneLt' true (.bool p) (.bool q)) Q E s := by
  rw [oneLt'_eq]
  simp only [if_true]
  refine wpAny_bind (wpAny_cRoomFor_byValue rfl ?_)
  refine wpAny_bind (wpAny_callSpecialIfBound?_slot (typeIs_bool' s p) PySem.F.slot_bool_lt (wpAny_call_entry PySem.F.slot_bool_lt (typeIs_bool' s p) PySem.F.entry_int_lt ?_ (PySem.F.args_int_lt_2 _ _)))
  cases p <;> cases q <;> exact wpAny_pure ⟨_, rfl, wpAny_truthy_bool h⟩
theorem bools_cmp {bs : List Bool} : SrtO.Cmp prog w A s oneType' (fun p => p.1 ∈ bs.map Value.bool) (SrtO.lt2 ltB) := by
  intro x y hx hy
  obtain ⟨p, _, e⟩ := List.mem_map.mp hx
  obtain ⟨q, _, e'⟩ := List.mem_map.mp hy
  show wpAny (model prog w) A (keyLt' oneType' x.1 y.1) (fun r s' => s' = s ∧ r = ltB x.1 y.1) (fun _ _ => False) s
  rw [← e, ← e', keyLt'_oneType]
  exact lt_B ⟨rfl, rfl⟩
theorem bools_sortable {a : Addr} {bs : List Bool} (h2 : 2 ≤ (bs.map Value.bool).length) : SrtO.SortableO prog w A s a (bs.map Value.bool) ltB := by
  intro h' _
  refine ⟨oneType', fun Q E hq => ?_, bools_cmp⟩
  match bs, h2 with
  | b :: c :: r, _ =>
    rw [kind_B]
    exact wpAny_pure hq
  | [], h => exact absurd h (by decide)
  | [b], h => exact absurd h (by simp)
end
/-- the truth of such a value -/
def tb : Value → Bool
  | .bool b => b
  | _ => false
theorem tb_map (bs : List Bool) : (bs.map Value.bool).map tb = bs := by
  rw [List.map_map]
  exact List.map_id bs
theorem vals_B : ∀ {bs : List Bool} {us : List Value}, Vals (bv bs) us → us = bs.map Value.bool
  | [], _, .nil => rfl
  | b :: r, _, .cons x t => by
    cases (show _ = Value.bool b from x)
    rw [vals_B t]
    rfl
theorem back_B : ∀ {us : List Value}, (∀ u ∈ us, ∃ b, u = Value.bool b) → us = (us.map tb).map Value.bool
  | [], _ => rfl
  | u :: r, h => by
    obtain ⟨b, rfl⟩ := h u List.mem_cons_self
    show Value.bool b :: r = Value.bool b :: (r.map tb).map Value.bool
    rw [← back_B fun v hv => h v (List.mem_cons_of_mem _ hv)]
theorem to_vals : ∀ bs : List Bool, Vals (bv bs) (bs.map Value.bool)
  | [] => .nil
  | b :: r => .cons rfl (to_vals r)
/-- sorted(xs), xs a list of truths -/
def rSortedB (K : PySem.W.Frag) : List V → Hp → VK → Prop := fun vs H Q => ∃ (a : Addr) (bs : List Bool), vs = [V.ref a] ∧ SqL K H a (bv bs) ∧
  ∀ (bs' : List Bool) (p : Addr), bs'.Perm bs → bs'.Pairwise (fun x y => x = true → y = true) → H p = none → Q (.ref p) (upd H p (.lst (bv bs')))
theorem K_sortedB {X : Cx} {K : PySem.W.Frag} (hK : X.K = K) : CallR X (.builtin "sorted") (rSortedB K) := by
  subst hK
  intro pins s σ H vs us Q I r h
  obtain ⟨a, bs, rfl, hs, q⟩ := h
  obtain ⟨its, rv, hl, hz⟩ := I.list hs
  rw [Vals.ref1 r]
  obtain rfl := vals_B rv
  refine SrtO.sorted_ord swo_B hl.isList (by rw [← rv.length]; exact hz) (fun h2 h₁ a' _ _ => bools_sortable h2) fun out h1 h2 => ?_
  have hb : out = (out.map tb).map Value.bool := back_B fun u hu => by
    obtain ⟨b, _, e⟩ := List.mem_map.mp (h2.perm.mem_iff.mp hu)
    exact ⟨b, e.symm⟩
  have hp : (out.map tb).Perm bs := by
    have z := h2.perm.map tb
    rwa [tb_map] at z
  have ho : (out.map tb).Pairwise (fun x y => x = true → y = true) := by
    rw [List.pairwise_map]
    refine List.Pairwise.imp_of_mem (fun {x y} hx hy z e => ?_) h1
    obtain ⟨p, _, ep⟩ := List.mem_map.mp (h2.perm.mem_iff.mp hx)
    obtain ⟨c, _, ec⟩ := List.mem_map.mp (h2.perm.mem_iff.mp hy)
    subst ep ec
    have z' : ¬ b2 (.bool c) < b2 (.bool p) := of_decide_eq_false (p := b2 (.bool c) < b2 (.bool p)) z
    obtain rfl : p = true := e
    cases c with
    | true => rfl
    | false => exact absurd (by decide) z'
  obtain ⟨ep, he'⟩ := PyProof.Rows.sortedAll_at s.heap (bs.map Value.bool) out.toArray
  have hlen : (bv (out.map tb)).length ≤ sizeLine := by
    rw [List.length_map, hp.length_eq]
    rwa [List.length_map] at hz
  exact ⟨.ref _, upd H (s.heap.objs.size + 1) (.lst (bv (out.map tb))), I.laid (t' := s.toks) (fun _ _ => PyProof.Rows.sortedAll_old) (Nat.le_succ _) ⟨hlen, out, ep, by have z := to_vals (out.map tb); rwa [← hb] at z, he'⟩, rfl, q _ _ hp ho (I.hok.fresh (Nat.le_succ _))⟩
end Hn

/-! Gap -/
/-! windows with gaps -/
namespace Hn
open PySem L2
def Desc (bs : List Bool) : Prop := bs.Pairwise fun x y => y = true → x = true
theorem desc_form : ∀ {bs : List Bool}, Desc bs → bs = List.replicate (bs.count true) true ++ List.replicate (bs.count false) false
  | [], _ => rfl
  | true :: r, h => by
    have ih := desc_form (List.pairwise_cons.mp h).2
    rw [List.count_cons_self, List.count_cons_of_ne (by decide), List.replicate_succ, List.cons_append, ← ih]
  | false :: r, h => by
    obtain ⟨h1, h2⟩ := List.pairwise_cons.mp h
    have z : r.count true = 0 := List.count_eq_zero.mpr fun hm => absurd (h1 true hm rfl) (by decide)
    have ih := desc_form h2
    rw [z] at ih
    rw [List.count_cons_self, List.count_cons_of_ne (by decide), z, List.replicate_succ]
    show false :: r = false :: List.replicate (List.count false r) false
    exact congrArg (false :: ·) ih
theorem desc_eq {bs cs : List Bool} (h1 : Desc bs) (h2 : Desc cs) (p : bs.Perm cs) : bs = cs := by
  rw [desc_form h1, desc_form h2, p.count_eq, p.count_eq]
/-- sorted, the other way about -/
theorem back_iff {bs cs : List Bool} (p : cs.Perm bs) (h : cs.Pairwise fun x y => x = true → y = true) : bs = cs.reverse ↔ Desc bs := by
  have hr : Desc cs.reverse := List.pairwise_reverse.mpr (h.imp fun {x y} z => z)
  constructor
  · intro e
    rw [e]
    exact hr
  · intro d
    exact desc_eq d hr (p.symm.trans (List.reverse_perm cs).symm)
theorem eqvAll_B : ∀ a b : List Bool, PyData.eqvAll (a.map PyData.bool) (b.map PyData.bool) = decide (a = b)
  | [], [] => rfl
  | [], y :: r => rfl
  | x :: r, [] => rfl
  | x :: r, y :: t => by
    show (PyData.eqv (.bool x) (.bool y) && PyData.eqvAll (r.map PyData.bool) (t.map PyData.bool)) = decide (x :: r = y :: t)
    rw [eqvAll_B r t]
    have e : PyData.eqv (.bool x) (.bool y) = decide (x = y) := by cases x <;> cases y <;> rfl
    rw [e]
    by_cases h : x = y
    · subst h
      simp
    · simp [h]
theorem eqv_B (a b : List Bool) : PyData.eqv (dB a) (dB b) = decide (a = b) := eqvAll_B a b
/-- who serves the hour h, by how long ago -/
def servesB (ns : List Int) (h : Int) : List Bool := (List.range ns.length).map fun b : Nat => decide (Clk.S ns (h - b) > (b : Int))
theorem serves_desc {ns : List Int} (v : Clk.Valid ns) (h : Int) : Desc (servesB ns h) := by
  unfold Desc servesB
  rw [List.pairwise_map]
  refine List.Pairwise.imp_of_mem (fun {a b} ha hb hlt e => ?_) List.pairwise_lt_range
  have h1 := List.mem_range.mp ha
  have h2 := List.mem_range.mp hb
  have z1 := Clk.wd_iff v h h1
  have z2 := Clk.wd_iff v h h2
  have e' := of_decide_eq_true e
  exact decide_eq_true (by omega)
theorem desc_at {ns : List Int} {h : Int} (d : Desc (servesB ns h)) {a : Nat} (ha : a + 1 < ns.length) (e : Clk.S ns (h - ((a + 1 : Nat) : Int)) > ((a + 1 : Nat) : Int)) : Clk.S ns (h - a) > (a : Int) := by
  unfold Desc servesB at d
  rw [List.pairwise_map, List.pairwise_iff_getElem] at d
  have z := d a (a + 1) (by rw [List.length_range]; omega) (by rw [List.length_range]; omega) (Nat.lt_succ_self a)
  rw [List.getElem_range, List.getElem_range] at z
  exact of_decide_eq_true (z (decide_eq_true e))
theorem valid_of_desc {ns : List Int} (pos : 0 < ns.length) (top : ns.length ≤ 48) (fit : ∀ x ∈ ns, 1 ≤ x ∧ x ≤ ns.length) (d : ∀ h : Nat, h < ns.length → Desc (servesB ns h)) : Clk.Valid ns := by
  refine Clk.Valid.of pos top (fun i h => fit _ (List.getElem_mem h)) fun i hi => ?_
  refine Decidable.by_contra fun no => ?_
  obtain ⟨k1, e1⟩ := Clk.S_at pos ((i : Int) + 1)
  obtain ⟨k0, e0⟩ := Clk.S_at pos (i : Int)
  have f1 := fit _ (List.getElem_mem k1)
  have f0 := fit _ (List.getElem_mem k0)
  rw [← e1] at f1
  rw [← e0] at f0
  obtain ⟨s, hs⟩ := Int.eq_ofNat_of_zero_le (show 0 ≤ Clk.S ns ((i : Int) + 1) by omega)
  have n0 : (ns.length : Int) ≠ 0 := by omega
  have r0 := Int.emod_nonneg ((i : Int) + 1 + s) n0
  have r1 := Int.emod_lt_of_pos ((i : Int) + 1 + s) (show (0 : Int) < ns.length by omega)
  obtain ⟨h, hh⟩ := Int.eq_ofNat_of_zero_le r0
  have back : ∀ x : Int, Clk.S ns ((h : Int) - x) = Clk.S ns ((i : Int) + 1 + s - x) := fun x => Clk.S_mod (by
    rw [← hh, Int.emod_sub_emod])
  have z := desc_at (d h (by omega)) (a := s) (by omega) (by
    rw [back, show (i : Int) + 1 + s - ((s + 1 : Nat) : Int) = i by omega]
    omega)
  rw [back, show (i : Int) + 1 + s - s = (i : Int) + 1 by omega] at z
  omega
end Hn

/-! Rows -/
/-! rows of rows -/
namespace Hn
open PySem L2
def rowsNext (k : Nat) (rs : List (List Int)) : List (List Int) := rs.flatMap fun r => (List.range k).map fun s : Nat => r ++ [1 + (s : Int)]
def rowsOf (k : Nat) : Nat → List (List Int)
  | 0 => [[]]
  | m + 1 => rowsNext k (rowsOf k m)
theorem rowsNext_len (k : Nat) (rs : List (List Int)) : (rowsNext k rs).length = rs.length * k := by
  unfold rowsNext
  induction rs with
  | nil => simp
  | cons r t ih =>
    rw [List.flatMap_cons, List.length_append, ih, List.length_map, List.length_range, List.length_cons, Nat.succ_mul]
    omega
theorem rowsOf_len (k : Nat) : ∀ m, (rowsOf k m).length = k ^ m
  | 0 => rfl
  | m + 1 => by
    show (rowsNext k (rowsOf k m)).length = _
    rw [rowsNext_len, rowsOf_len k m, Nat.pow_succ]
theorem rowsOf_mem (k : Nat) : ∀ (m : Nat) (r : List Int), r ∈ rowsOf k m → r.length = m ∧ ∀ x ∈ r, 1 ≤ x ∧ x ≤ k
  | 0, r, h => by
    obtain rfl : r = [] := by simpa [rowsOf] using h
    exact ⟨rfl, fun x hx => absurd hx (List.not_mem_nil)⟩
  | m + 1, r, h => by
    obtain ⟨r', h1, h2⟩ := List.mem_flatMap.mp (show r ∈ rowsNext k (rowsOf k m) from h)
    obtain ⟨s, h3, rfl⟩ := List.mem_map.mp h2
    obtain ⟨l, f⟩ := rowsOf_mem k m r' h1
    have hs := List.mem_range.mp h3
    refine ⟨by rw [List.length_append, l]; rfl, fun x hx => ?_⟩
    rcases List.mem_append.mp hx with z | z
    · exact f x z
    · obtain rfl := List.mem_singleton.mp z
      exact ⟨by omega, by omega⟩
theorem rowsNext_take (k : Nat) (rs : List (List Int)) {j : Nat} (h : j < rs.length) : rowsNext k (rs.take (j + 1)) = rowsNext k (rs.take j) ++ (List.range k).map fun s : Nat => rs[j] ++ [1 + (s : Int)] := by
  unfold rowsNext
  rw [take_next h, List.flatMap_append]
  simp
/-- the rows rs at as, none of them at L -/
inductive RA (L : Addr) (H : Hp) : List Addr → List (List Int) → Prop
  | nil : RA L H [] []
  | cons {a : Addr} {as : List Addr} {r : List Int} {rs : List (List Int)} : a ≠ L → H a = some (.lst (iv r)) → RA L H as rs → RA L H (a :: as) (r :: rs)
theorem RA.imp {L M : Addr} {H H' : Hp} {as : List Addr} {rs : List (List Int)} (x : RA L H as rs) (h : ∀ a o, a ≠ L → H a = some o → a ≠ M ∧ H' a = some o) : RA M H' as rs := by
  induction x with
  | nil => exact .nil
  | cons n e _ ih =>
    obtain ⟨n', e'⟩ := h _ _ n e
    exact .cons n' e' ih
theorem RA.append {L : Addr} {H : Hp} {as bs : List Addr} {rs ts : List (List Int)} (x : RA L H as rs) (y : RA L H bs ts) : RA L H (as ++ bs) (rs ++ ts) := by
  induction x with
  | nil => exact y
  | cons n e _ ih => exact .cons n e ih
theorem RA.len {L : Addr} {H : Hp} {as : List Addr} {rs : List (List Int)} (x : RA L H as rs) : as.length = rs.length := by
  induction x with
  | nil => rfl
  | cons _ _ _ ih => rw [List.length_cons, List.length_cons, ih]
theorem RA.at_ {L : Addr} {H : Hp} {as : List Addr} {rs : List (List Int)} (x : RA L H as rs) : ∀ (i : Nat) (h : i < as.length) (h2 : i < rs.length), as[i] ≠ L ∧ H as[i] = some (.lst (iv rs[i])) := by
  induction x with
  | nil => exact fun i h => absurd h (Nat.not_lt_zero i)
  | cons n e _ ih =>
    intro i h h2
    cases i with
    | zero => exact ⟨n, e⟩
    | succ i => exact ih i (Nat.lt_of_succ_lt_succ h) (Nat.lt_of_succ_lt_succ h2)
theorem RA.of {L : Addr} {H : Hp} : ∀ {as : List Addr} {rs : List (List Int)}, as.length = rs.length → (∀ i (h : i < as.length) (h2 : i < rs.length), as[i] ≠ L ∧ H as[i] = some (.lst (iv rs[i]))) → RA L H as rs
  | [], [], _, _ => .nil
  | a :: as, r :: rs, hl, h => .cons (h 0 (Nat.zero_lt_succ _) (Nat.zero_lt_succ _)).1 (h 0 (Nat.zero_lt_succ _) (Nat.zero_lt_succ _)).2 (RA.of (Nat.succ.inj hl) fun i h1 h2 => h (i + 1) (Nat.succ_lt_succ h1) (Nat.succ_lt_succ h2))
  | [], r :: rs, hl, _ => nomatch hl
  | a :: as, [], hl, _ => nomatch hl
theorem units65 {k : Nat} {A : PySem.Around} (hr : Room k A) : A.units + 65 < PySem.cLine := by
  have := hr.un
  omega
theorem K_notInD {X : Cx} {K : PySem.W.Frag} (hu : X.A.units + 65 < PySem.cLine) (h : X.K = K) : OpR X (compareOp .NotIn) (rNotInD K) := by
  subst h
  exact op_notInD hu
theorem K_ptup {X : Cx} {K : PySem.W.Frag} {pos : PySem.Pos} {es : List PySem.Expr} {k : Nat} {t : TGs} {n : Nat} (hK : X.K = K) (hc : X.calm = true) (h : PGs X es t)
    (hn : (PySem.assignEach es X.env).length = n := by rfl) (hst : (PySem.assignEach es X.env).findIdx? (·.1) = none := by rfl) : PG X (.Tuple es k pos) (gTup K n t) := by
  subst hK
  exact pg_tup hc h hn hst
end Hn

/-! Ends -/
/-! the ends of stays; all rows are listed -/
namespace Hn
open PySem L2
/-- when those leave who begin at each hour, and who begins first on the next day -/
def endsOf (ns : List Int) : List Int := Clk.row (ns.length + 1) fun x => x + Clk.S ns x
theorem ends_up {ns : List Int} (v : Clk.Valid ns) (i : Int) : ∀ d : Nat, i + Clk.S ns i ≤ i + d + Clk.S ns (i + d)
  | 0 => by
    rw [show i + ((0 : Nat) : Int) = i by omega]
    exact Int.le_refl _
  | d + 1 => by
    have h := ends_up v i d
    have n := v.near (i + d)
    rw [show i + ((d + 1 : Nat) : Int) = i + d + 1 by omega]
    omega
theorem ends_pair {ns : List Int} (v : Clk.Valid ns) : (endsOf ns).Pairwise (· ≤ ·) := by
  unfold endsOf Clk.row
  rw [List.pairwise_map]
  refine List.pairwise_lt_range.imp fun {i j} h => ?_
  have z := ends_up v (i : Int) (j - i)
  rw [show (i : Int) + ((j - i : Nat) : Int) = j by omega] at z
  exact z
theorem valid_of_ends {ns : List Int} (pos : 0 < ns.length) (top : ns.length ≤ 48) (fit : ∀ x ∈ ns, 1 ≤ x ∧ x ≤ ns.length) (h : (endsOf ns).Pairwise (· ≤ ·)) : Clk.Valid ns := by
  refine Clk.Valid.of pos top (fun i h => fit _ (List.getElem_mem h)) fun i hi => ?_
  unfold endsOf Clk.row at h
  rw [List.pairwise_map, List.pairwise_iff_getElem] at h
  have z := h i (i + 1) (by rw [List.length_range]; omega) (by rw [List.length_range]; omega) (Nat.lt_succ_self i)
  rw [List.getElem_range, List.getElem_range] at z
  rw [show ((i + 1 : Nat) : Int) = (i : Int) + 1 by omega] at z
  have z' : (i : Int) + Clk.S ns i ≤ (i : Int) + 1 + Clk.S ns ((i : Int) + 1) := z
  omega
/-- the ends as the text makes them -/
theorem ends_text {ns : List Int} (pos : 0 < ns.length) : Clk.row ns.length (fun x => x + Clk.S ns x) ++ [(ns.length : Int) + Clk.S ns 0] = endsOf ns := by
  unfold endsOf
  have e : Clk.S ns (ns.length : Int) = Clk.S ns 0 := Clk.S_mod (by rw [Int.emod_self, Int.zero_emod])
  unfold Clk.row
  rw [List.range_succ, List.map_append, ← e]
  rfl
/-- sorted is the row itself just where it rises -/
theorem up_eq : ∀ {a b : List Int}, a.Pairwise (· ≤ ·) → b.Pairwise (· ≤ ·) → a.Perm b → a = b
  | [], b, _, _, p => (List.nil_perm.mp p).symm
  | x :: r, [], _, _, p => absurd p.length_eq (by simp)
  | x :: r, y :: t, ha, hb, p => by
    obtain ⟨h1, h2⟩ := List.pairwise_cons.mp ha
    obtain ⟨g1, g2⟩ := List.pairwise_cons.mp hb
    have e : x = y := by
      have m1 : x ∈ y :: t := p.mem_iff.mp List.mem_cons_self
      have m2 : y ∈ x :: r := p.mem_iff.mpr List.mem_cons_self
      rcases List.mem_cons.mp m1 with z | z
      · exact z
      · rcases List.mem_cons.mp m2 with w | w
        · exact w.symm
        · have := g1 x z
          have := h1 y w
          omega
    subst e
    rw [up_eq h2 g2 ((List.perm_cons x).mp p)]
theorem sorted_iff {a b : List Int} (p : b.Perm a) (hb : b.Pairwise (· ≤ ·)) : a = b ↔ a.Pairwise (· ≤ ·) := ⟨fun e => e ▸ hb, fun h => up_eq h hb p.symm⟩
/-- each row of so many stays is listed -/
theorem rowsOf_all (k : Nat) : ∀ (m : Nat) (r : List Int), r.length = m → (∀ x ∈ r, 1 ≤ x ∧ x ≤ k) → r ∈ rowsOf k m
  | 0, r, hl, _ => by
    rw [List.length_eq_zero_iff.mp hl]
    exact List.mem_singleton.mpr rfl
  | m + 1, r, hl, hf => by
    have ne : r ≠ [] := fun z => by rw [z] at hl; cases hl
    have e := List.dropLast_concat_getLast ne
    have hx := hf _ (List.getLast_mem ne)
    obtain ⟨s, hs⟩ := Int.eq_ofNat_of_zero_le (show 0 ≤ r.getLast ne - 1 by omega)
    refine List.mem_flatMap.mpr ⟨r.dropLast, rowsOf_all k m _ (by rw [List.length_dropLast, hl]; rfl) fun x h => hf x ((List.dropLast_sublist r).subset h), List.mem_map.mpr ⟨s, List.mem_range.mpr (by omega), ?_⟩⟩
    rw [show 1 + (s : Int) = r.getLast ne by omega]
    exact e
theorem wipe_two (σ : L2.St) (i j : Nat) (hij : i ≠ j) (x y : V) : wipe (((wipe σ [i, j]).set i (some x)).set j (some y)) [i, j] = wipe σ [i, j] := by
  show (((((σ.set j none).set i none).set i (some x)).set j (some y)).set j none).set i none = (σ.set j none).set i none
  rw [List.set_set, List.set_comm none none hij.symm, List.set_set, List.set_set, List.set_comm none none hij, List.set_set]
/-- a comprehension over enumerate: elements that change nothing -/
theorem lc_enumL {K : PySem.W.Frag} {a : Addr} {xs : List V} {te : TE} {p r : Nat} {σ : L2.St} {H1 : Hp} {D : Addr} {Qd : Hp → Prop} (f : Nat → V) (hpr : p ≠ r) (hS : SqL K H1 a xs) (nD : H1 D = none) (hz : xs.length ≤ 10000)
    (he : ∀ i (hi : i < xs.length) (H : Hp) (R : VK), Same H1 H → (∀ H4, Same H H4 → R (f i) H4) → te (((wipe σ [p, r]).set p (some (.int (i : Nat)))).set r (some xs[i])) H R)
    (hd : ∀ H, Same H1 H → H D = some (.lst ((List.range xs.length).map f)) → Qd H) : LcG (Ite K a) (gTup K 2 (gCons (gName p) (gCons (gName r) gNil))) tYes te [p, r] σ H1 D Qd := by
  refine ⟨fun i m H => m = xs.length - i ∧ i ≤ xs.length ∧ Same H1 H ∧ H D = some (.lst ((List.range i).map f)), ⟨_, rfl, Nat.zero_le _, same_new nD, upd_same⟩, ?_⟩
  rintro i m H ⟨rfl, hi, sm, hD⟩
  have q := sm.seq hS
  by_cases hlt : i < xs.length
  · refine .inr ⟨⟨xs, xs[i], q, List.getElem?_eq_getElem hlt⟩, fun H' => Same H1 H' ∧ H' D = some (.lst ((List.range (i + 1)).map f)), fun H' p' => ⟨xs.length - (i + 1), by omega, rfl, hlt, p'⟩, ?_⟩
    rintro x H' ⟨T, y, rfl, nT, rfl, hy⟩
    have e := hy xs q
    rw [List.getElem?_eq_getElem hlt] at e
    cases e
    have s2 := sm.trans (same_new (o := .tup [.int (i : Nat), xs[i]]) nT)
    refine ⟨T, _, rfl, .inl (.inl upd_same), rfl, _, _, rfl, _, _, rfl, rfl, wipe_two _ _ _ hpr _ _, ?_⟩
    refine he i hlt _ _ s2 fun H4 s4 => ?_
    obtain ⟨q1, q2, q3⟩ := same_turn (f := f) nD s2 (same_new nT _ _ hD) s4
    exact ⟨_, q1, by rw [List.length_map, List.length_range]; exact small_line (by omega), q2, q3⟩
  · obtain rfl : i = xs.length := by omega
    exact .inl ⟨⟨xs, q, Nat.le_refl _⟩, hd H sm hD⟩
/-- clocks of the rows vs at cs -/
inductive CA (K : PySem.W.Frag) (C : Addr) (H : Hp) : List Addr → List (List Int) → Prop
  | nil : CA K C H [] []
  | cons {c : Addr} {cs : List Addr} {v : List Int} {vs : List (List Int)} : ClkAt K C H c v → CA K C H cs vs → CA K C H (c :: cs) (v :: vs)
theorem CA.imp {K : PySem.W.Frag} {C : Addr} {H H' : Hp} {cs : List Addr} {vs : List (List Int)} (x : CA K C H cs vs) (h : ∀ c v, ClkAt K C H c v → ClkAt K C H' c v) : CA K C H' cs vs := by
  induction x with
  | nil => exact .nil
  | cons a _ ih => exact .cons (h _ _ a) ih
theorem CA.snoc {K : PySem.W.Frag} {C : Addr} {H : Hp} {cs : List Addr} {vs : List (List Int)} (x : CA K C H cs vs) {c : Addr} {v : List Int} (a : ClkAt K C H c v) : CA K C H (cs ++ [c]) (vs ++ [v]) := by
  induction x with
  | nil => exact .cons a .nil
  | cons b _ ih => exact .cons b ih
theorem CA.len {K : PySem.W.Frag} {C : Addr} {H : Hp} {cs : List Addr} {vs : List (List Int)} (x : CA K C H cs vs) : cs.length = vs.length := by
  induction x with
  | nil => rfl
  | cons _ _ ih => rw [List.length_cons, List.length_cons, ih]
theorem CA.at_ {K : PySem.W.Frag} {C : Addr} {H : Hp} {cs : List Addr} {vs : List (List Int)} (x : CA K C H cs vs) : ∀ (i : Nat) (h : i < cs.length) (h2 : i < vs.length), ClkAt K C H cs[i] vs[i] := by
  induction x with
  | nil => exact fun i h => absurd h (Nat.not_lt_zero i)
  | cons a _ ih =>
    intro i h h2
    cases i with
    | zero => exact a
    | succ i => exact ih i (Nat.lt_of_succ_lt_succ h) (Nat.lt_of_succ_lt_succ h2)
open Classical in
/-- the rows that are stays of a clock -/
noncomputable def valids (rs : List (List Int)) : List (List Int) := rs.filter fun r => decide (Clk.Valid r)
theorem valids_in {rs : List (List Int)} {j : Nat} (h : j < rs.length) (v : Clk.Valid rs[j]) : valids (rs.take (j + 1)) = valids (rs.take j) ++ [rs[j]] := by
  unfold valids
  rw [take_next h, List.filter_append, List.filter_cons_of_pos (by simpa using v)]
  rfl
theorem valids_out {rs : List (List Int)} {j : Nat} (h : j < rs.length) (v : ¬ Clk.Valid rs[j]) : valids (rs.take (j + 1)) = valids (rs.take j) := by
  unfold valids
  rw [take_next h, List.filter_append, List.filter_cons_of_neg (by simpa using v)]
  exact List.append_nil _
theorem valids_mem {rs : List (List Int)} {r : List Int} : r ∈ valids rs ↔ r ∈ rs ∧ Clk.Valid r := by
  unfold valids
  rw [List.mem_filter]
  simp
end Hn

namespace Hn
open PySem L2
def topS (i : Nat) : Stmt := PySem.Challenge.pw_hourneeds_k18_whole_small_clocks.main.body.getD i (.Pass ⟨0, 0, 0, 0⟩)
abbrev s_lbag : Stmt := topS 22
abbrev s_lall_rows : Stmt := topS 27
abbrev s_is_row : Stmt := topS 12
abbrev s_is_integer : Stmt := topS 8
abbrev s_is_from_one : Stmt := topS 17
abbrev s_are_stays : Stmt := topS 18
abbrev s_Overtaken_init : Stmt := inClass (topS 4) 0
abbrev s_check_nobody_overtaken : Stmt := topS 19
abbrev s_Clock_init : Stmt := inClass (topS 16) 0
abbrev s_ltried : Stmt := topS 25
abbrev s_lhas_gaps : Stmt := topS 26
abbrev s_Clock_stays : Stmt := inClass (topS 16) 7
abbrev s_turned_row : Stmt := topS 14
abbrev s_Clock_turned : Stmt := inClass (topS 16) 12
abbrev s_Clock_hours : Stmt := inClass (topS 16) 2
abbrev s_width : Stmt := topS 20
abbrev s_Clock_widths : Stmt := inClass (topS 16) 8
abbrev s_Clock_mirrored : Stmt := inClass (topS 16) 13
abbrev s_ltake : Stmt := topS 23
abbrev s_lone : Stmt := topS 24
abbrev s_Clock_eq : Stmt := inClass (topS 16) 6
abbrev s_law : Stmt := topS 28
/-- a def of the text: where it stands, its object, its name, how its arguments bind -/
structure DefAt (K : PySem.W.Frag) (mg : Str → Option Value) (x : Str) (st : Stmt) (ps : List Str) where
  f : Addr
  fd : FuncData
  F : Fun K x x st f fd
  m : mg x = some (.ref f)
  b : Binds K fd ps []
/-- a method of the class at C -/
structure MethAt (K : PySem.W.Frag) (C : Addr) (x qual : Str) (st : Stmt) (ps : List Str) where
  f : Addr
  fd : FuncData
  F : Fun K x qual st f fd
  b : Binds K fd ps []
structure ExcAt (K : PySem.W.Frag) (mg : Str → Option Value) (x : Str) where
  C : Addr
  mg : mg x = some (.ref C)
structure ClsAt (K : PySem.W.Frag) (mg : Str → Option Value) (x : Str) where
  C : Addr
  cl : Cls K C
  mg : mg x = some (.ref C)
structure Env (K : PySem.W.Frag) (mg : Str → Option Value) where
  C_NeedError : ExcAt K mg "NeedError"
  C_Overtaken : ExcAt K mg "Overtaken"
  C_Clock : ClsAt K mg "Clock"
  lbag : DefAt K mg "_law_bag" s_lbag ["_law_script"]
  lall_rows : DefAt K mg "_law_all_rows" s_lall_rows ["_law_many", "_law_most"]
  is_row : DefAt K mg "is_row" s_is_row ["thing"]
  is_integer : DefAt K mg "is_integer" s_is_integer ["thing"]
  is_from_one : DefAt K mg "_is_from_one" s_is_from_one ["most", "thing"]
  are_stays : DefAt K mg "_are_stays" s_are_stays ["thing"]
  Overtaken_init : MethAt K C_Overtaken.C "__init__" "Overtaken.__init__" s_Overtaken_init ["self", "hour"]
  x_Overtaken : OexC K C_Overtaken.C
  i_Overtaken : PySem.W.findIn K (.ref C_Overtaken.C) "__init__" = some (some (.ref Overtaken_init.f))
  t_Overtaken : PySem.W.typeIn K (.ref Overtaken_init.f) = some (.type "function")
  check_nobody_overtaken : DefAt K mg "_check_nobody_overtaken" s_check_nobody_overtaken ["stays"]
  Clock_init : MethAt K C_Clock.C "__init__" "Clock.__init__" s_Clock_init ["self", "stays"]
  mk_Clock : Mk K C_Clock.C Clock_init.f
  ltried : DefAt K mg "_law_tried" s_ltried ["_law_row"]
  lhas_gaps : DefAt K mg "_law_has_gaps" s_lhas_gaps ["_law_row"]
  Clock_stays : MethAt K C_Clock.C "stays" "Clock.stays" s_Clock_stays ["self"]
  m_Clock_stays : Meth K C_Clock.C "stays" Clock_stays.f
  turned_row : DefAt K mg "turned_row" s_turned_row ["row", "by"]
  Clock_turned : MethAt K C_Clock.C "turned" "Clock.turned" s_Clock_turned ["self", "by"]
  m_Clock_turned : Meth K C_Clock.C "turned" Clock_turned.f
  Clock_hours : MethAt K C_Clock.C "hours" "Clock.hours" s_Clock_hours ["self"]
  p_Clock_hours_p : Addr
  p_Clock_hours : PropOf K C_Clock.C "hours" p_Clock_hours_p Clock_hours.f
  width : DefAt K mg "_width" s_width ["stays", "hour"]
  Clock_widths : MethAt K C_Clock.C "widths" "Clock.widths" s_Clock_widths ["self"]
  m_Clock_widths : Meth K C_Clock.C "widths" Clock_widths.f
  Clock_mirrored : MethAt K C_Clock.C "mirrored" "Clock.mirrored" s_Clock_mirrored ["self"]
  m_Clock_mirrored : Meth K C_Clock.C "mirrored" Clock_mirrored.f
  ltake : DefAt K mg "_law_take" s_ltake ["_law_bag_here", "_law_upto"]
  lone : DefAt K mg "_law_one" s_lone ["_law_bag_here", "_law_some"]
  Clock_eq : MethAt K C_Clock.C "__eq__" "Clock.__eq__" s_Clock_eq ["self", "other"]
  m_Clock_eq : Meth K C_Clock.C "__eq__" Clock_eq.f
  law : DefAt K mg "law" s_law ["_law_script"]
  h_Overtaken : PySem.W.findIn K (.ref C_Overtaken.C) "hour" = some none
  e_Overtaken : PySem.W.exmOne K (.ref C_Overtaken.C) (.ref C_NeedError.C) = some true
  n_Clock__stays : NoAttr K C_Clock.C "_stays"
  ic_Clock : PySem.W.findIn K (.ref C_Clock.C) "__class__" = some (some (.builtin "object.__class__"))
  ig_Clock : PySem.W.specialIn K (.builtin "object.__class__") "__get__" = some (some (.builtin "getset_descriptor.__get__"))
  it_Clock : PySem.W.takesIn K (.builtin "object.__class__") = some true
  ob_Clock : PySem.W.mroIn K C_Clock.C (.type "object") = some true
  ne_Clock : PySem.W.findIn K (.ref C_Clock.C) "__ne__" = some (some (.builtin "object.__ne__"))
  t_MOST_HOURS : Tok
  c_MOST_HOURS : mg "MOST_HOURS" = some (.int 48 t_MOST_HOURS)
  n_len : mg "len" = none
  n_range : mg "range" = none
  n_abs : mg "abs" = none
  n_int : mg "int" = none
  n_bool : mg "bool" = none
  n_list : mg "list" = none
  n_tuple : mg "tuple" = none
  n_isinstance : mg "isinstance" = none
  n_all : mg "all" = none
  n_enumerate : mg "enumerate" = none
  n_sorted : mg "sorted" = none
  n_iter : mg "iter" = none
theorem sc_lbag : FnScope ["_law_script", "_law_cell"] ["_law_script"] (defScope s_lbag) := ⟨rfl, rfl, rfl, by decide +kernel, rfl, by decide +kernel, by decide +kernel⟩
theorem sc_lall_rows : FnScope ["_law_many", "_law_most", "_law_found", "_law_at", "_law_longer", "_law_row", "_law_stay"] ["_law_many", "_law_most"] (defScope s_lall_rows) := ⟨rfl, rfl, rfl, by decide +kernel, rfl, by decide +kernel, by decide +kernel⟩
theorem sc_is_row : FnScope ["thing"] ["thing"] (defScope s_is_row) := ⟨rfl, rfl, rfl, by decide +kernel, rfl, by decide +kernel, by decide +kernel⟩
theorem sc_is_integer : FnScope ["thing"] ["thing"] (defScope s_is_integer) := ⟨rfl, rfl, rfl, by decide +kernel, rfl, by decide +kernel, by decide +kernel⟩
theorem sc_is_from_one : FnScope ["most", "thing"] ["most", "thing"] (defScope s_is_from_one) := ⟨rfl, rfl, rfl, by decide +kernel, rfl, by decide +kernel, by decide +kernel⟩
theorem sc_are_stays : FnScope ["thing", "item"] ["thing"] (defScope s_are_stays) := ⟨rfl, rfl, rfl, by decide +kernel, rfl, by decide +kernel, by decide +kernel⟩
theorem sc_Overtaken_init : FnScope ["self", "hour"] ["self", "hour"] (defScope s_Overtaken_init) := ⟨rfl, rfl, rfl, by decide +kernel, rfl, by decide +kernel, by decide +kernel⟩
theorem sc_check_nobody_overtaken : FnScope ["stays", "hour", "stay"] ["stays"] (defScope s_check_nobody_overtaken) := ⟨rfl, rfl, rfl, by decide +kernel, rfl, by decide +kernel, by decide +kernel⟩
theorem sc_Clock_init : FnScope ["self", "stays"] ["self", "stays"] (defScope s_Clock_init) := ⟨rfl, rfl, rfl, by decide +kernel, rfl, by decide +kernel, by decide +kernel⟩
theorem sc_ltried : FnScope ["_law_row", "e"] ["_law_row"] (defScope s_ltried) := ⟨rfl, rfl, rfl, by decide +kernel, rfl, by decide +kernel, by decide +kernel⟩
theorem sc_lhas_gaps : FnScope ["_law_row", "_law_many", "_law_hour", "_law_serves", "_law_back"] ["_law_row"] (defScope s_lhas_gaps) := ⟨rfl, rfl, rfl, by decide +kernel, rfl, by decide +kernel, by decide +kernel⟩
theorem sc_Clock_stays : FnScope ["self"] ["self"] (defScope s_Clock_stays) := ⟨rfl, rfl, rfl, by decide +kernel, rfl, by decide +kernel, by decide +kernel⟩
theorem sc_turned_row : FnScope ["row", "by", "first"] ["row", "by"] (defScope s_turned_row) := ⟨rfl, rfl, rfl, by decide +kernel, rfl, by decide +kernel, by decide +kernel⟩
theorem sc_Clock_turned : FnScope ["self", "by"] ["self", "by"] (defScope s_Clock_turned) := ⟨rfl, rfl, rfl, by decide +kernel, rfl, by decide +kernel, by decide +kernel⟩
theorem sc_Clock_hours : FnScope ["self"] ["self"] (defScope s_Clock_hours) := ⟨rfl, rfl, rfl, by decide +kernel, rfl, by decide +kernel, by decide +kernel⟩
theorem sc_width : FnScope ["stays", "hour", "width"] ["stays", "hour"] (defScope s_width) := ⟨rfl, rfl, rfl, by decide +kernel, rfl, by decide +kernel, by decide +kernel⟩
theorem sc_Clock_widths : FnScope ["self", "hour"] ["self"] (defScope s_Clock_widths) := ⟨rfl, rfl, rfl, by decide +kernel, rfl, by decide +kernel, by decide +kernel⟩
theorem sc_Clock_mirrored : FnScope ["self"] ["self"] (defScope s_Clock_mirrored) := ⟨rfl, rfl, rfl, by decide +kernel, rfl, by decide +kernel, by decide +kernel⟩
theorem sc_ltake : FnScope ["_law_bag_here", "_law_upto", "_law_early", "_law_second", "_law_cell", "_law_mixed", "_law_drawn"] ["_law_bag_here", "_law_upto"] (defScope s_ltake) := ⟨rfl, rfl, rfl, by decide +kernel, rfl, by decide +kernel, by decide +kernel⟩
theorem sc_lone : FnScope ["_law_bag_here", "_law_some"] ["_law_bag_here", "_law_some"] (defScope s_lone) := ⟨rfl, rfl, rfl, by decide +kernel, rfl, by decide +kernel, by decide +kernel⟩
theorem sc_Clock_eq : FnScope ["self", "other"] ["self", "other"] (defScope s_Clock_eq) := ⟨rfl, rfl, rfl, by decide +kernel, rfl, by decide +kernel, by decide +kernel⟩
theorem sc_law : FnScope ["_law_script", "_law_bag_here", "_law_many", "_law_turn", "_law_clocks", "_law_row", "_law_known", "_law_clock", "_law_ends", "_law_one_here", "_law_other", "_law_at", "_law_stay"] ["_law_script"] (defScope s_law) := ⟨rfl, rfl, rfl, by decide +kernel, rfl, by decide +kernel, by decide +kernel⟩
end Hn

namespace Hn
open PySem L2
section
variable {P : Program} {w : World} {K : PySem.W.Frag} {mg : Str → Option Value} {base : Heap}

def spBag (K : PySem.W.Frag) : Sp := fun vs H Q _ => ∃ (a : Addr) (ns : List Int), vs = [.ref a] ∧ SqL K H a (iv ns) ∧ ns.length ≤ 63 ∧ ∀ b H', H b = none → Same H H' → Bag H' b → Q (.ref b) H'
theorem ok_lbag (T : Env K mg) : FnOk P w K mg base CX0 1 T.lbag.f T.lbag.fd ["_law_script"] (spBag K) := by
  refine T.lbag.F.ok sc_lbag (fun vs H Q E h => ?_) (fun cdv A outer s H vs Q E hr h => ?_)
  · obtain ⟨a, ns, rfl, _⟩ := h
    rfl
  · obtain ⟨a, ns, rfl, hS, hl, q⟩ := h
    refine ⟨_, (pss_one (ps_ret (pe_lst (pa_cons pe_int (pa_cons pe_int (pa_cons pe_int (pa_cons (pe_lc (own := [("_law_cell", 1)]) (g := gName 1) (tt := tYes) (by rfl) sc_lbag.nd  (K_pil (K := K) rfl (pe_slice (K_slL (K := K) rfl) (pv 0) po_none (po_some pe_int))) (blkOk_by (N := ["_law_script", "_law_cell"]) (sc := defScope s_lbag) (by decide +kernel)) (fun _ _ _ _ _ => pg_name (i := 1) sc_lbag.nd rfl (by first | exact Or.inl rfl | exact Or.inr rfl)) (fun _ _ _ _ _ => pts_nil) (fun _ _ _ _ _ => (pe_callB call_abs (by rfl) T.n_abs (by decide +kernel) (pa_cons (pv 1) pa_nil)))) pa_nil))))))), ?_⟩
    refine ⟨.ref a, rfl, 63, rfl, a, iv ns, rfl, hS, fun c nc => ?_⟩
    have ec : cutV (iv ns) none (some ((63 : Nat) : Int)) = iv ns := by
      unfold cutV
      rw [HT.sIx_none, HT.sIx_nat, iv_len]
      exact List.take_of_length_le (by rw [List.drop_zero, iv_len]; omega)
    have ec' : cutV (iv ns) none (some 63) = iv ns := ec
    rw [ec']
    have s1 : Same H (upd H c (.lst (iv ns))) := same_new nc
    refine ⟨c, rfl, ⟨_, SqL.of upd_same⟩, fun D nD => ?_⟩
    refine lc_mapL (K := K) (a := c) (xs := iv ns) (fun i => .int (if ns.getD i 0 < 0 then -(ns.getD i 0) else ns.getD i 0)) (SqL.of upd_same) nD (by rw [iv_len]; omega) (fun i hi H' R sm k => ?_) (fun H' sm hD => ?_)
    · rw [iv_len] at hi
      refine ⟨.int (ns.getD i 0), ?_, _, rfl, k _ (Same.refl _)⟩
      rw [List.getElem_map, List.getD_eq_getElem?_getD, List.getElem?_eq_getElem hi]
      rfl
    · refine ⟨by show 4 ≤ sizeLine; decide, fun b nb => ?_⟩
      have s2 : Same H (upd H' b (.lst [.int 0, .int 1234567891, .int 0, .ref D])) := (s1.trans sm).trans (same_new nb)
      refine q b _ ((s1.trans sm).free nb) s2 ⟨D, ns.map fun x => if x < 0 then -x else x, 0, 1234567891, 0, upd_same, ?_, by decide, by decide, by decide, by decide, fun x hx => ?_⟩
      · rw [upd_ne (ne_of_none hD nb), hD, iv_len]
        congr 2
        unfold iv
        rw [List.map_map]
        refine range_get fun i hi => ?_
        rw [List.getD_eq_getElem?_getD, List.getElem?_eq_getElem hi]
        rfl
      · obtain ⟨y, _, rfl⟩ := List.mem_map.mp hx
        by_cases h : y < 0
        · rw [if_pos h]
          omega
        · rw [if_neg h]
          omega

/-- all rows of so many stays, each from 1 to k -/
def spRows : Sp := fun vs H Q _ => ∃ (m k : Nat), vs = [.int m, .int k] ∧ m ≤ 4 ∧ k ≤ 4 ∧ ∀ f H' as, H f = none → Same H H' → H' f = some (.lst (as.map V.ref)) → RA f H' as (rowsOf k m) → Q (.ref f) H'
theorem ok_lall_rows (T : Env K mg) : FnOk P w K mg base CX0 1 T.lall_rows.f T.lall_rows.fd ["_law_many", "_law_most"] spRows := by
  refine T.lall_rows.F.ok sc_lall_rows (fun vs H Q E h => ?_) (fun cdv A outer s H vs Q E hr h => ?_)
  · obtain ⟨m, k, rfl, _⟩ := h
    rfl
  · obtain ⟨m, k, rfl, m4, k4, q⟩ := h
    refine ⟨_, (pss_cons (ps_set (i := 2) sc_lall_rows.nd rfl (by first | exact Or.inl rfl | exact Or.inr rfl) (pe_lst (pa_cons (pe_lst pa_nil) pa_nil)))
      (pss_cons (ps_for PassesOwn.never rfl (pi_range1 (by rfl) T.n_range (pa_cons (pv 0) pa_nil)) (pg_name (i := 3) sc_lall_rows.nd rfl (by first | exact Or.inl rfl | exact Or.inr rfl))
      (pss_cons (ps_set (i := 4) sc_lall_rows.nd rfl (by first | exact Or.inl rfl | exact Or.inr rfl) (pe_lst pa_nil))
      (pss_cons (ps_for PassesOwn.never rfl (K_pil (K := K) rfl (pv 2)) (pg_name (i := 5) sc_lall_rows.nd rfl (by first | exact Or.inl rfl | exact Or.inr rfl))
      (pss_one (ps_expr (pe_bm PySem.F.plainAttrs_list PySem.F.slot_list_extend PySem.F.type_list_extend mt_extend (pv 4) (pa_cons (pe_lc (own := [("_law_stay", 6)]) (g := gName 6) (tt := tYes) (by rfl) sc_lall_rows.nd  (pi_range2 (by rfl) T.n_range (pa_cons pe_int (pa_cons (pe_op op_add (pv 1) pe_int) pa_nil))) (blkOk_by (N := ["_law_many", "_law_most", "_law_found", "_law_at", "_law_longer", "_law_row", "_law_stay"]) (sc := defScope s_lall_rows) (by decide +kernel)) (fun _ _ _ _ _ => pg_name (i := 6) sc_lall_rows.nd rfl (by first | exact Or.inl rfl | exact Or.inr rfl)) (fun _ _ _ _ _ => pts_nil) (fun _ _ _ _ _ => (pe_op op_cat (pv 5) (pe_lst (pa_cons (pv 6) pa_nil))))) pa_nil)))))
      (pss_one (ps_set (i := 2) sc_lall_rows.nd rfl (by first | exact Or.inl rfl | exact Or.inr rfl) (pe_callTy (K_list (K := K) rfl) (by rfl) T.n_list (by decide +kernel) (pa_cons (pv 4) pa_nil)))))))
      (pss_one (ps_ret (pv 2))))), ?_⟩
    refine ⟨by show 0 ≤ sizeLine; exact Nat.zero_le _, fun e ne => ⟨by show 1 ≤ sizeLine; decide, fun f nf => ?_⟩⟩
    have nef : e ≠ f := ne_of_none upd_same nf
    have nf0 : H f = none := by rw [← nf, upd_ne nef.symm]
    refine ⟨_, rfl, (m : Nat), rfl, by omega, by omega, ?_⟩
    refine for_range (n := ((m : Nat) : Int).toNat) (fun i σ H' => ∃ (f : Addr) (as : List Addr) (x3 x4 x5 : Option V), σ = [some (.int (m : Nat)), some (.int (k : Nat)), some (.ref f), x3, x4, x5, none] ∧ Same H H' ∧ H f = none ∧ H' f = some (.lst (as.map V.ref)) ∧ RA f H' as (rowsOf k i))
      ⟨f, [e], none, none, none, rfl, (same_new ne).trans (same_new nf), nf0, upd_same, .cons nef (by rw [upd_ne nef, upd_same]; rfl) .nil⟩ ?_ (fun σ H' ⟨f, as, _, _, _, e, sm, hf, eF, ra⟩ => by
        subst e
        rw [Int.toNat_natCast] at ra
        exact ⟨.ref f, rfl, q f H' as hf sm eF ra⟩)
    rintro t σ H1 ht ⟨f, as, x3, x4, x5, rfl, s1, hf, eF, ra⟩
    rw [Int.toNat_natCast] at ht
    have lra := ra.len
    have size : (rowsOf k t).length ≤ 64 := by
      rw [rowsOf_len]
      exact Nat.le_trans (Nat.pow_le_pow_left k4 t) (Nat.pow_le_pow_right (by decide) (show t ≤ 3 by omega))
    refine ⟨by show 0 ≤ sizeLine; exact Nat.zero_le _, fun L nL => ?_⟩
    have nLf : f ≠ L := ne_of_none eF nL
    have s2 := same_new (o := .lst []) nL
    refine ⟨.ref f, rfl, f, rfl, ⟨_, SqL.of (s2 _ _ eF)⟩, for_list (K := K) (a := f) (xs := as.map V.ref) (fun j σ H' => ∃ (bs : List Addr) (y5 : Option V), σ = [some (.int (m : Nat)), some (.int (k : Nat)), some (.ref f), some (.int (0 + (t : Int))), some (.ref L), y5, none] ∧ Same H1 H' ∧ H' L = some (.lst (bs.map V.ref)) ∧ RA L H' bs (rowsNext k ((rowsOf k t).take j)))
      ⟨[], x5, rfl, s2, upd_same, .nil⟩ (fun j σ H' _ ⟨_, _, _, sm, _⟩ => SqL.of (sm _ _ eF)) ?_ ?_⟩
    · rintro j y σ H3 hy ⟨bs, y5, rfl, s3, eL, rb⟩
      have hj : j < as.length := by
        have := (List.getElem?_eq_some_iff.mp hy).1
        rwa [List.length_map] at this
      have hj2 : j < (rowsOf k t).length := by omega
      rw [List.getElem?_map, List.getElem?_eq_getElem hj] at hy
      obtain rfl : V.ref as[j] = y := Option.some.inj hy
      obtain ⟨_, ej⟩ := ra.at_ j hj hj2
      have lb := rb.len
      rw [rowsNext_len, List.length_take, Nat.min_eq_left (Nat.le_of_lt hj2)] at lb
      have lb2 : bs.length ≤ 256 := by
        rw [lb]
        exact Nat.le_trans (Nat.mul_le_mul (show j ≤ 64 by omega) k4) (by decide)
      refine ⟨.ref L, rfl, .inl ⟨rfl, _, SqL.of eL⟩, .int (k : Nat), rfl, _, _, rfl, rfl, 1, (k : Int) + 1, rfl, ⟨by omega, by omega, by omega, by omega⟩, fun D nD => ?_⟩
      refine lc_newR (lo := 1) (n := ((k : Int) + 1 - 1).toNat) (fun s => .lst (iv ((rowsOf k t)[j] ++ [1 + (s : Int)]))) nD (by omega) (fun s hs H' R sm kk => ?_) (fun H4 cs s4 eD lc ec => ?_)
      · have ej' := sm _ _ (s3 _ _ ej)
        refine ⟨.ref as[j], rfl, .int (1 + (s : Int)), rfl, by show 1 ≤ sizeLine; decide, fun p np => ⟨as[j], p, iv (rowsOf k t)[j], [.int (1 + (s : Int))], rfl, rfl, same_new np _ _ ej', upd_same, ?_, fun r nr => ?_⟩⟩
        · have lr := (rowsOf_mem k t _ (List.getElem_mem hj2)).1
          rw [iv_len, lr]
          exact small_line' (by show t + 1 ≤ 10000; omega)
        · have sp := same_new (o := .lst [.int (1 + (s : Int))]) np
          refine kk _ r (sp.trans (same_new nr)) (sp.free nr) ?_
          rw [upd_same]
          unfold iv
          rw [List.map_append]
          rfl
      · have lc' : cs.length = k := by omega
        refine ⟨L, D, _, _, rfl, rfl, s4 _ _ eL, eD, ?_, ?_⟩
        · rw [List.length_map, List.length_map]
          exact small_line' (by omega)
        have nLs : ∀ i (h : i < cs.length), cs[i] ≠ L := fun i h z => by
          have e1 := ec i h
          rw [z, s4 _ _ eL] at e1
          have e2 : bs.map V.ref = iv ((rowsOf k t)[j] ++ [1 + (i : Int)]) := HO.lst.inj (Option.some.inj e1)
          have hm : V.int (1 + (i : Int)) ∈ bs.map V.ref := by
            rw [e2]
            exact List.mem_map.mpr ⟨_, List.mem_append_right _ (List.mem_singleton.mpr rfl), rfl⟩
          obtain ⟨_, _, z⟩ := List.mem_map.mp hm
          cases z
        refine ⟨bs ++ cs, _, rfl, fun b o z => ?_, by rw [upd_same, List.map_append], ?_⟩
        · rw [upd_ne (ne_of_none z nL)]
          exact s4 _ _ (s3 _ _ z)
        · rw [rowsNext_take k _ hj2]
          refine (rb.imp fun a o n z => ⟨n, by rw [upd_ne n]; exact s4 _ _ z⟩).append (RA.of (by rw [List.length_map, List.length_range]; exact lc') fun i h h2 => ⟨nLs i h, ?_⟩)
          rw [upd_ne (nLs i h), List.getElem_map, List.getElem_range]
          exact ec i h
    · rintro σ H5 ⟨bs, y5, rfl, s5, eL, rb⟩
      refine ⟨.ref L, rfl, L, _, rfl, .inl (SqL.of eL), fun g ng => ?_⟩
      rw [List.length_map, lra, List.take_length] at rb
      have s15 := s1.trans s5
      exact ⟨g, bs, _, _, _, rfl, s15.trans (same_new ng), s15.free ng, upd_same, rb.imp fun a o n z => ⟨ne_of_none z ng, same_new ng _ _ z⟩⟩

def spIsRow (K : PySem.W.Frag) : Sp := fun vs H Q _ => ∃ (a : Addr) (xs : List V), vs = [.ref a] ∧ (SqL K H a xs ∨ SqT K H a xs) ∧ ∀ H', Same H H' → Q (.bl (decide (1 ≤ xs.length) && decide (xs.length ≤ 48))) H'
theorem ok_is_row (T : Env K mg) : FnOk P w K mg base CX0 1 T.is_row.f T.is_row.fd ["thing"] (spIsRow K) := by
  refine T.is_row.F.ok sc_is_row (fun vs H Q E h => ?_) (fun cdv A outer s H vs Q E hr h => ?_)
  · obtain ⟨a, xs, rfl, _⟩ := h
    rfl
  · obtain ⟨a, xs, rfl, hI, q⟩ := h
    refine ⟨_, (pss_one (ps_ret (pe_and (pe_callB (K_isiT (K := K) rfl) (by rfl) T.n_isinstance (by decide +kernel) (pa_cons (pv 0) (pa_cons (pe_tup (pa_cons (pe_bltn (v := .ty "list") (by rfl) T.n_list (by decide +kernel) rfl) (pa_cons (pe_bltn (v := .ty "tuple") (by rfl) T.n_tuple (by decide +kernel) rfl) pa_nil))) pa_nil))) (pe_one (pe_chain  op_le op_le pe_int (pe_callB (K_len (K := K) rfl) (by rfl) T.n_len PySem.boot_len (pa_cons (pv 0) pa_nil)) (pe_glob (v := .int 48) (by rfl) T.c_MOST_HOURS ⟨_, rfl⟩)))))), ?_⟩
    refine ⟨.ref a, rfl, by show 2 ≤ sizeLine; decide, fun p np => ?_⟩
    have s1 : Same H (upd H p (.tup [.ty "list", .ty "tuple"])) := same_new np
    have hI1 : SqL K (upd H p (.tup [.ty "list", .ty "tuple"])) a xs ∨ SqT K (upd H p (.tup [.ty "list", .ty "tuple"])) a xs := hI.elim (fun h => .inl (s1.seq h)) fun h => .inr (Same.set s1 h)
    obtain ⟨t, ht, kt⟩ := kit_seq hI1
    refine ⟨.ref a, p, _, t, _, true, rfl, upd_same, .cons (.ty _) (.cons (.ty _) .nil), ht, kt, true, rfl, iteT ?_⟩
    refine ⟨.ref a, rfl, a, _, rfl, hI1, 1, _, rfl, rfl, _, rfl, ?_⟩
    by_cases h : 1 ≤ xs.length
    · refine dec_t (by omega) ⟨_, 48, rfl, rfl, ?_⟩
      have z := q _ s1
      rw [decide_eq_true h, Bool.true_and] at z
      show Q (.bl (decide ((xs.length : Int) ≤ 48))) _
      rw [show decide ((xs.length : Int) ≤ 48) = decide (xs.length ≤ 48) from decide_eq_decide.mpr (by omega)]
      exact z
    · refine dec_f (by omega) ?_
      have z := q _ s1
      rw [decide_eq_false h, Bool.false_and] at z
      exact z

def spIsInteger : Sp := fun vs H Q _ => ∃ i : Int, vs = [.int i] ∧ Q (.bl true) H
theorem ok_is_integer (T : Env K mg) : FnOk P w K mg base CX0 1 T.is_integer.f T.is_integer.fd ["thing"] spIsInteger := by
  refine T.is_integer.F.ok sc_is_integer (fun vs H Q E h => ?_) (fun cdv A outer s H vs Q E hr h => ?_)
  · obtain ⟨i, rfl, _⟩ := h
    rfl
  · obtain ⟨i, rfl, q⟩ := h
    refine ⟨_, (pss_one (ps_ret (pe_and (pe_callB (K_isi (K := K) rfl) (by rfl) T.n_isinstance (by decide +kernel) (pa_cons (pv 0) (pa_cons (pe_bltn (v := .ty "int") (by rfl) T.n_int (by decide +kernel) rfl) pa_nil))) (pe_one (pe_not (pe_callB (K_isi (K := K) rfl) (by rfl) T.n_isinstance (by decide +kernel) (pa_cons (pv 0) (pa_cons (pe_bltn (v := .ty "bool") (by rfl) T.n_bool (by decide +kernel) rfl) pa_nil)))))))), ?_⟩
    refine ⟨_, rfl, .int i, .ty "int", .type "int", .type "int", true, rfl, .ty _, .base (.int i), kit_ty (by decide +kernel), true, rfl, ?_⟩
    refine iteT ⟨_, rfl, .int i, .ty "bool", .type "int", .type "bool", false, rfl, .ty _, .base (.int i), kit_ty (by decide +kernel), false, rfl, ?_⟩
    exact q

def spIsFromOne : Sp := fun vs H Q _ => ∃ n i : Int, vs = [.int n, .int i] ∧ Q (.bl (decide (1 ≤ i) && decide (i ≤ n))) H
theorem ok_is_from_one (T : Env K mg) : FnOk P w K mg base CX0 2 T.is_from_one.f T.is_from_one.fd ["most", "thing"] spIsFromOne := by
  refine T.is_from_one.F.ok sc_is_from_one (fun vs H Q E h => ?_) (fun cdv A outer s H vs Q E hr h => ?_)
  · obtain ⟨n, i, rfl, _⟩ := h
    rfl
  · obtain ⟨n, i, rfl, q⟩ := h
    refine ⟨_, (pss_one (ps_ret (pe_and (pe_call (ok_is_integer T) (hr.mono (by decide)) (by rfl) T.is_integer.m T.is_integer.F.kp T.is_integer.b .nil pass0 (pa_cons (pv 1) pa_nil)) (pe_one (pe_chain  op_le op_le pe_int (pv 1) (pv 0)))))), ?_⟩
    refine ⟨_, rfl, i, rfl, true, rfl, iteT ⟨_, rfl, _, _, rfl, rfl, _, rfl, ?_⟩⟩
    cases e : decide (1 ≤ i) with
    | true =>
      rw [e] at q
      exact iteT ⟨_, rfl, _, _, rfl, rfl, q⟩
    | false =>
      rw [e] at q
      exact iteF q

def okStay (n i : Int) : Bool := decide (1 ≤ i) && decide (i ≤ n)
def spAreStays (K : PySem.W.Frag) : Sp := fun vs H Q _ => ∃ (a : Addr) (ns : List Int), vs = [.ref a] ∧ Ints K H a ns ∧ 1 ≤ ns.length ∧ ns.length ≤ 48 ∧ ∀ H', Same H H' → Q (.bl (ns.all (okStay ns.length))) H'
theorem ok_are_stays (T : Env K mg) : FnOk P w K mg base CX0 3 T.are_stays.f T.are_stays.fd ["thing"] (spAreStays K) := by
  refine T.are_stays.F.ok sc_are_stays (fun vs H Q E h => ?_) (fun cdv A outer s H vs Q E hr h => ?_)
  · obtain ⟨a, ns, rfl, _⟩ := h
    rfl
  · obtain ⟨a, ns, rfl, hI, h1, h48, q⟩ := h
    refine ⟨_, (pss_one (ps_ret (pe_and (pe_call (ok_is_row T) (hr.mono (by decide)) (by rfl) T.is_row.m T.is_row.F.kp T.is_row.b .nil pass0 (pa_cons (pv 0) pa_nil)) (pe_one (pe_callB (K_all (K := K) rfl rfl) (by rfl) T.n_all (by decide +kernel) (pa_cons (pe_lc (own := [("item", 1)]) (g := gName 1) (tt := tYes) (by rfl) sc_are_stays.nd  (K_piq (K := K) rfl (pv 0)) (blkOk_by (N := ["thing", "item"]) (sc := defScope s_are_stays) (by decide +kernel)) (fun _ _ _ _ _ => pg_name (i := 1) sc_are_stays.nd rfl (by first | exact Or.inl rfl | exact Or.inr rfl)) (fun _ _ _ _ _ => pts_nil) (fun _ _ _ _ _ => (pe_call (ok_is_from_one T) (hr.mono (by decide)) (by rfl) T.is_from_one.m T.is_from_one.F.kp T.is_from_one.b .nil pass0 (pa_cons (pe_callB (K_len (K := K) rfl) (by rfl) T.n_len PySem.boot_len (pa_cons (pv 0) pa_nil)) (pa_cons (pv 1) pa_nil))))) pa_nil)))))), ?_⟩
    refine ⟨.ref a, rfl, a, iv ns, rfl, hI, fun H1 s1 => ?_⟩
    rw [iv_len, decide_eq_true h1, decide_eq_true h48]
    refine ⟨true, rfl, iteT ?_⟩
    have hI1 := hI.same s1
    have fin : ∀ (D : Addr) (H' : Hp), Same H1 H' → H' D = some (.lst ((List.range (iv ns).length).map fun i => .bl (okStay ns.length (ns.getD i 0)))) → ∃ (a : Addr) (bs : List Bool), [V.ref D] = [V.ref a] ∧ SqL K H' a (bv bs) ∧ Q (.bl (bs.all id)) H' := by
      intro D H' sm hD
      have e : (List.range (iv ns).length).map (fun i => V.bl (okStay ns.length (ns.getD i 0))) = bv (ns.map (okStay ns.length)) := by
        rw [iv_len, bv, List.map_map]
        refine range_get fun i hi => ?_
        rw [List.getD_eq_getElem?_getD, List.getElem?_eq_getElem hi]
        rfl
      rw [e] at hD
      refine ⟨D, _, rfl, SqL.of hD, ?_⟩
      rw [List.all_map]
      exact q _ (s1.trans sm)
    have turn : ∀ i (hi : i < (iv ns).length), (iv ns)[i] = V.int (ns.getD i 0) := fun i hi => by
      rw [iv_len] at hi
      rw [List.getElem_map, List.getD_eq_getElem?_getD, List.getElem?_eq_getElem hi]
      rfl
    rcases hI1 with hI1 | hI1
    · refine .inl ⟨.ref a, rfl, a, rfl, ⟨_, hI1⟩, fun D nD => ?_⟩
      refine lc_mapL (fun i => .bl (okStay ns.length (ns.getD i 0))) hI1 nD (by rw [iv_len]; omega) (fun i hi H' R sm k => ?_) (fun H' sm hD => fin D H' sm hD)
      rw [turn i hi]
      refine ⟨.ref a, rfl, a, _, rfl, .inl (sm.seq hI1), _, rfl, _, _, rfl, ?_⟩
      rw [iv_len]
      exact k _ (Same.refl _)
    · refine .inr ⟨.ref a, rfl, a, rfl, ⟨_, hI1⟩, fun D nD => ?_⟩
      refine lc_mapT (fun i => .bl (okStay ns.length (ns.getD i 0))) hI1 nD (by rw [iv_len]; omega) (fun i hi H' R sm k => ?_) (fun H' sm hD => fin D H' sm hD)
      rw [turn i hi]
      refine ⟨.ref a, rfl, a, _, rfl, .inr (Same.set sm hI1), _, rfl, _, _, rfl, ?_⟩
      rw [iv_len]
      exact k _ (Same.refl _)

def spOInit (K : PySem.W.Frag) (C : Addr) : Sp := fun vs H Q _ => ∃ (a : Addr) (v : V), vs = [.ref a, v] ∧ H a = some (exo a C none) ∧ ∀ dx, H dx = none → dx ≠ a → Q .non (upd (upd H dx (exd dx [("hour", v)])) a (exo a C (some dx)))
theorem ok_Overtaken_init (T : Env K mg) : FnOk P w K mg base CX0 1 T.Overtaken_init.f T.Overtaken_init.fd ["self", "hour"] (spOInit K T.C_Overtaken.C) := by
  refine T.Overtaken_init.F.ok sc_Overtaken_init (fun vs H Q E h => ?_) (fun cdv A outer s H vs Q E hr h => ?_)
  · obtain ⟨a, v, rfl, _⟩ := h
    rfl
  · obtain ⟨a, v, rfl, ha, q⟩ := h
    refine ⟨_, (pss_one (ps_ost (pv 0) (pv 1))), ?_⟩
    exact ⟨v, rfl, .ref a, rfl, a, T.C_Overtaken.C, rfl, T.x_Overtaken, T.h_Overtaken, .inl ⟨ha, q⟩⟩

/-- who begins at hour i is overtaken -/
def Over (ns : List Int) (i : Nat) : Prop := ¬ Clk.S ns i ≤ Clk.S ns ((i : Int) + 1) + 1
/-- the error of the class at C, its dict at d, for the hour i -/
def Told (E : XK) (C : Addr) (H : Hp) (f : Str) (v : V) : Prop := ∀ d H', Same H H' → H d = none → H' d = some (.xd [(f, v)]) → E (.ref C) (some d) H'
def spNobody (K : PySem.W.Frag) (C : Addr) : Sp := fun vs H Q E => ∃ (a : Addr) (ns : List Int), vs = [.ref a] ∧ Ints K H a ns ∧ 0 < ns.length ∧ ((∀ i : Nat, i < ns.length → ¬ Over ns i) → ∀ H', Same H H' → Q .non H') ∧
  ∀ i : Nat, i < ns.length → Over ns i → (∀ j : Nat, j < i → ¬ Over ns j) → Told E C H "hour" (.int (i : Int))
theorem ok_check_nobody_overtaken (T : Env K mg) : FnOk P w K mg base (L2.CX P w) 3 T.check_nobody_overtaken.f T.check_nobody_overtaken.fd ["stays"] (spNobody K T.C_Overtaken.C) := by
  refine T.check_nobody_overtaken.F.okX sc_check_nobody_overtaken (fun vs H Q E h => ?_) (fun cdv A outer s H vs Q E hr h => ?_)
  · obtain ⟨a, ns, rfl, _⟩ := h
    rfl
  · obtain ⟨a, ns, rfl, hI, hp, q, qE⟩ := h
    refine ⟨_, (pss_one (ps_for (passes_of rfl) rfl (pi_enumQ (by rfl) T.n_enumerate (pa_cons (pv 0) pa_nil)) (pg_tup rfl (pgs_cons (pg_name (i := 1) sc_check_nobody_overtaken.nd rfl (by first | exact Or.inl rfl | exact Or.inr rfl)) (pgs_cons (pg_name (i := 2) sc_check_nobody_overtaken.nd rfl (by first | exact Or.inl rfl | exact Or.inr rfl)) pgs_nil)))
      (pss_one (ps_if (pt_cmpR op_gt (pv 2) (pe_op op_add (pe_ix (K_ixQ (K := K) rfl) (pv 0) (pe_op op_mod (pe_op op_add (pv 1) pe_int) (pe_callB (K_len (K := K) rfl) (by rfl) T.n_len PySem.boot_len (pa_cons (pv 0) pa_nil))) (fun _ _ => rfl)) pe_int) (nomark _)) (pss_one (ps_raise rfl (takes_of rfl rfl rfl rfl) (pmk_oex T.x_Overtaken T.i_Overtaken T.t_Overtaken (ok_Overtaken_init T) (hr.mono (by decide)) T.Overtaken_init.b .nil pass0 (by rfl) T.C_Overtaken.mg (pa_cons (pv 1) pa_nil)))) pss_nil)))), ?_⟩
    rcases hI with hI | hI
    · refine .inl ⟨.ref a, rfl, a, _, rfl, hI, ?_⟩
      refine for_enumL (K := K) (a := a) (xs := iv ns) (fun i σ H' => ∃ x y, σ = [some (.ref a), x, y] ∧ Same H H' ∧ ∀ j : Nat, j < i → ¬ Over ns j) ⟨none, none, rfl, Same.refl H, fun j z => absurd z (Nat.not_lt_zero j)⟩ (fun i σ H' ⟨_, _, _, sm, _⟩ => sm.seq hI) ?_ (fun σ H' ⟨_, _, _, sm, no⟩ => q (fun j hj => no j (by rw [iv_len]; exact hj)) H' sm)
      rintro i hi σ H' p ⟨x, y, rfl, sm, no⟩ np
      have hi' : i < ns.length := by rwa [iv_len] at hi
      have s2 : Same H (upd H' p (.tup [.int (i : Nat), (iv ns)[i]])) := sm.trans (same_new np)
      have ei : (iv ns)[i] = V.int (Clk.S ns i) := by rw [List.getElem_map, Clk.S_get hi']
      rw [ei] at s2 ⊢
      refine ⟨p, _, rfl, .inl (.inl upd_same), rfl, _, _, rfl, _, _, rfl, rfl, ?_⟩
      refine ⟨_, rfl, .ref a, rfl, _, rfl, _, _, rfl, rfl, .ref a, rfl, a, _, rfl, .inl (s2.seq hI), _, _, rfl, rfl, ?_⟩
      rw [iv_len]
      refine ⟨(by omega), a, _, _, _, rfl, rfl, .inl (s2.seq hI), at_round hp _, _, _, rfl, rfl, _, _, rfl, rfl, _, rfl, ?_⟩
      by_cases ov : Over ns i
      · refine dec_t (by unfold Over at ov; omega) ⟨.int (i : Nat), rfl, by show 1 ≤ 1000; decide, fun e ne => ?_⟩
        refine ⟨e, _, rfl, upd_same, fun d nd de => ⟨rfl, d, _, upd_same, by rw [upd_ne de, upd_same], (by rw [← nd, upd_ne de]), ?_⟩⟩
        have nd2 : upd H' p (.tup [.int (i : Nat), V.int (Clk.S ns i)]) d = none := by rw [← nd, upd_ne de]
        refine qE i hi' ov no d _ (fun b o z => ?_) (s2.free nd2) upd_same
        have z2 := s2 _ _ z
        have nb : b ≠ d := ne_of_none z2 nd2
        have nbe : b ≠ e := ne_of_none z2 ne
        rw [upd_ne nb, del_ne nbe, upd_ne nbe, upd_ne nb, upd_ne nbe]
        exact z2
      · exact dec_f (by unfold Over at ov; omega) ⟨_, _, rfl, s2, fun j hj => by
          rcases Nat.lt_succ_iff_lt_or_eq.mp hj with z | z
          · exact no j z
          · rw [z]
            exact ov⟩
    · refine .inr ⟨.ref a, rfl, a, _, rfl, hI, ?_⟩
      refine for_enumT (K := K) (a := a) (xs := iv ns) (fun i σ H' => ∃ x y, σ = [some (.ref a), x, y] ∧ Same H H' ∧ ∀ j : Nat, j < i → ¬ Over ns j) ⟨none, none, rfl, Same.refl H, fun j z => absurd z (Nat.not_lt_zero j)⟩ (fun i σ H' ⟨_, _, _, sm, _⟩ => Same.set sm hI) ?_ (fun σ H' ⟨_, _, _, sm, no⟩ => q (fun j hj => no j (by rw [iv_len]; exact hj)) H' sm)
      rintro i hi σ H' p ⟨x, y, rfl, sm, no⟩ np
      have hi' : i < ns.length := by rwa [iv_len] at hi
      have s2 : Same H (upd H' p (.tup [.int (i : Nat), (iv ns)[i]])) := sm.trans (same_new np)
      have ei : (iv ns)[i] = V.int (Clk.S ns i) := by rw [List.getElem_map, Clk.S_get hi']
      rw [ei] at s2 ⊢
      refine ⟨p, _, rfl, .inl (.inl upd_same), rfl, _, _, rfl, _, _, rfl, rfl, ?_⟩
      refine ⟨_, rfl, .ref a, rfl, _, rfl, _, _, rfl, rfl, .ref a, rfl, a, _, rfl, .inr (Same.set s2 hI), _, _, rfl, rfl, ?_⟩
      rw [iv_len]
      refine ⟨(by omega), a, _, _, _, rfl, rfl, .inr (Same.set s2 hI), at_round hp _, _, _, rfl, rfl, _, _, rfl, rfl, _, rfl, ?_⟩
      by_cases ov : Over ns i
      · refine dec_t (by unfold Over at ov; omega) ⟨.int (i : Nat), rfl, by show 1 ≤ 1000; decide, fun e ne => ?_⟩
        refine ⟨e, _, rfl, upd_same, fun d nd de => ⟨rfl, d, _, upd_same, by rw [upd_ne de, upd_same], (by rw [← nd, upd_ne de]), ?_⟩⟩
        have nd2 : upd H' p (.tup [.int (i : Nat), V.int (Clk.S ns i)]) d = none := by rw [← nd, upd_ne de]
        refine qE i hi' ov no d _ (fun b o z => ?_) (s2.free nd2) upd_same
        have z2 := s2 _ _ z
        have nb : b ≠ d := ne_of_none z2 nd2
        have nbe : b ≠ e := ne_of_none z2 ne
        rw [upd_ne nb, del_ne nbe, upd_ne nbe, upd_ne nb, upd_ne nbe]
        exact z2
      · exact dec_f (by unfold Over at ov; omega) ⟨_, _, rfl, s2, fun j hj => by
          rcases Nat.lt_succ_iff_lt_or_eq.mp hj with z | z
          · exact no j z
          · rw [z]
            exact ov⟩

theorem all_ok' {ns : List Int} (r : ∀ x ∈ ns, 1 ≤ x ∧ x ≤ ns.length) : ns.all (okStay ns.length) = true := List.all_eq_true.mpr fun x hx => by
  obtain ⟨h1, h2⟩ := r x hx
  unfold okStay
  rw [decide_eq_true h1, decide_eq_true h2]
  rfl
def spInit (K : PySem.W.Frag) (C : Addr) : Sp := fun vs H Q _ => ∃ (p dx a : Addr) (ns : List Int), vs = [.ref p, .ref a] ∧ H p = some (.ins C dx []) ∧ Ints K H a ns ∧ Clk.Valid ns ∧
  ∀ H' : Hp, (∀ b o, b ≠ p → H b = some o → H' b = some o) → ClkAt K C H' p ns → Q .non H'
/-- stays of a clock, or an hour that is overtaken is told -/
def spInitX (K : PySem.W.Frag) (C CO : Addr) : Sp := fun vs H Q E => ∃ (p dx a : Addr) (ns : List Int), vs = [.ref p, .ref a] ∧ H p = some (.ins C dx []) ∧ Ints K H a ns ∧ 0 < ns.length ∧ ns.length ≤ 48 ∧ (∀ x ∈ ns, 1 ≤ x ∧ x ≤ ns.length) ∧
  (Clk.Valid ns → ∀ H' : Hp, (∀ b o, b ≠ p → H b = some o → H' b = some o) → ClkAt K C H' p ns → Q .non H') ∧
  ∀ i : Nat, i < ns.length → Over ns i → (∀ j : Nat, j < i → ¬ Over ns j) → Told E CO H "hour" (.int (i : Int))
theorem ok_Clock_init (T : Env K mg) : FnOk P w K mg base (L2.CX P w) 4 T.Clock_init.f T.Clock_init.fd ["self", "stays"] (spInitX K T.C_Clock.C T.C_Overtaken.C) := by
  refine T.Clock_init.F.okX sc_Clock_init (fun vs H Q E h => ?_) (fun cdv A outer s H vs Q E hr h => ?_)
  · obtain ⟨p, dx, a, ns, rfl, _⟩ := h
    rfl
  · obtain ⟨p, dx, a, ns, rfl, hp, hI, pos, top, fit, q, qE⟩ := h
    refine ⟨_, (pss_cons (ps_if (pt_not (pt_val (pe_call (ok_are_stays T) (hr.mono (by decide)) (by rfl) T.are_stays.m T.are_stays.F.kp T.are_stays.b .nil pass0 (pa_cons (pv 1) pa_nil)))) (pss_one ps_never) pss_nil)
      (pss_cons (ps_expr (pe_call (ok_check_nobody_overtaken T) (hr.mono (by decide)) (by rfl) T.check_nobody_overtaken.m T.check_nobody_overtaken.F.kp T.check_nobody_overtaken.b .nil (passOut (takes_of rfl rfl rfl rfl)) (pa_cons (pv 1) pa_nil)))
      (pss_one (ps_fld (pv 0) (pe_callTy (K_tuple (K := K) rfl) (by rfl) T.n_tuple (by decide +kernel) (pa_cons (pv 1) pa_nil)) rfl)))), ?_⟩
    refine ⟨.ref a, rfl, a, ns, rfl, hI, pos, top, fun H1 s1 => ⟨_, rfl, ?_⟩⟩
    rw [all_ok' fit]
    refine iteF ⟨.ref a, rfl, a, ns, rfl, hI.same s1, pos, fun no H2 s2 => ?_, fun i hi ov first d H' sm nd hd => qE i hi ov first d H' (s1.trans sm) (s1.free nd) hd⟩
    have hv : Clk.Valid ns := Clk.Valid.of pos top (fun i h => fit _ (List.getElem_mem h)) fun i hi => Decidable.of_not_not (no i hi)
    have s12 := s1.trans s2
    have hp2 := s12 _ _ hp
    have fin : ∀ (t : Addr) (H3 : Hp), Same H H3 → SqT K H3 t (iv ns) → Q .non (upd H3 p (.ins T.C_Clock.C dx (putF "_stays" (.ref t) []))) := fun t H3 s3 hT => by
      have h3 := s3 _ _ hp
      refine q hv _ (fun b o nb e => by rw [upd_ne nb]; exact s3 _ _ e) ⟨hv, dx, t, by rw [upd_same]; rfl, ?_⟩
      rcases hT with (h | ⟨o, h⟩) | h
      · exact .inl (.inl (by rw [upd_ne (ne_of h h3 fun z => nomatch z)]; exact h))
      · exact .inl (.inr ⟨o, by rw [upd_ne (ne_of h h3 fun z => nomatch z)]; exact h⟩)
      · exact .inr h
    refine ⟨.ref a, rfl, a, iv ns, rfl, ?_⟩
    rcases hI.same s12 with hI2 | hI2
    · refine .inl ⟨hI2, fun t nt => ?_⟩
      have s3 : Same H (upd H2 t (.tup (iv ns))) := s12.trans (same_new nt)
      exact ⟨_, rfl, p, _, dx, [], rfl, s3 _ _ hp, T.C_Clock.cl, T.n_Clock__stays, (by show 0 < 1000; decide), fin t _ s3 (.inl (.inl upd_same))⟩
    · exact .inr ⟨hI2, _, rfl, p, _, dx, [], rfl, hp2, T.C_Clock.cl, T.n_Clock__stays, (by show 0 < 1000; decide), fin a _ s12 hI2⟩
/-- for stays of a clock -/
theorem ok_Clock_init0 (T : Env K mg) : FnOk P w K mg base (L2.CX P w) 4 T.Clock_init.f T.Clock_init.fd ["self", "stays"] (spInit K T.C_Clock.C) := (ok_Clock_init T).imp fun vs H Q E h => by
  obtain ⟨p, dx, a, ns, rfl, hp, hI, hv, q⟩ := h
  exact ⟨p, dx, a, ns, rfl, hp, hI, hv.pos, hv.top, fun x hx => hv.mem hx, fun _ => q, fun i _ ov => absurd (hv.near i) ov⟩

/-- the clock of a row, or None -/
def spTried (K : PySem.W.Frag) (C : Addr) : Sp := fun vs H Q _ => ∃ (a : Addr) (ns : List Int), vs = [.ref a] ∧ Ints K H a ns ∧ 0 < ns.length ∧ ns.length ≤ 48 ∧ (∀ x ∈ ns, 1 ≤ x ∧ x ≤ ns.length) ∧
  (Clk.Valid ns → ∀ r H', H r = none → Same H H' → ClkAt K C H' r ns → Q (.ref r) H') ∧ (¬ Clk.Valid ns → ∀ H', Same H H' → Q .non H')
theorem ok_ltried (T : Env K mg) : FnOk P w K mg base CX0 6 T.ltried.f T.ltried.fd ["_law_row"] (spTried K T.C_Clock.C) := by
  refine T.ltried.F.ok sc_ltried (fun vs H Q E h => ?_) (fun cdv A outer s H vs Q E hr h => ?_)
  · obtain ⟨a, ns, rfl, _⟩ := h
    rfl
  · obtain ⟨a, ns, rfl, hI, pos, top, fit, q, qn⟩ := h
    refine ⟨_, (pss_one (ps_try_as (i := 1) (Wout := fun _ _ _ _ => False) rfl rfl sc_ltried.nd rfl rfl ⟨rfl, by decide, .inl T.C_NeedError.mg⟩ takes0 (fun W pn xe tk _ => (pss_one (ps_ret (pe_make T.mk_Clock (ok_Clock_init T) (hr.mono (by decide)) (by rfl) T.C_Clock.mg T.Clock_init.b .nil (passLen 2 tk rfl) (pa_cons (pv 0) pa_nil))))) (fun a oe cls d pn hz hf => (pss_one (ps_ret (pe_ifExp (pt_val (pe_callB (call_isX hz hf) (by rfl) T.n_isinstance (by decide +kernel) (pa_cons (pv 1) (pa_cons (pe_glob (v := .ref T.C_Overtaken.C) (by rfl) T.C_Overtaken.mg rfl) pa_nil)))) pe_non pe_never)))))), ?_⟩
    refine ⟨.ref a, rfl, fun x dx nx nd nex => ⟨x, dx, a, ns, rfl, upd_same, made_ints nx nd hI, pos, top, fit, fun hv H' kb hC => ⟨rfl, q hv x H' nx (made_same nx nd kb) hC⟩, fun i hi ov first d H' sm nd2 hd σ hl => ?_⟩⟩
    refine ⟨true, T.e_Overtaken, fun _ e ne => ?_, fun z => Bool.noConfusion z⟩
    have s0 : Same H (upd (upd H dx (.own x)) x (.ins T.C_Clock.C dx [])) := fun b o z => by
      rw [upd_ne (ne_of_none z nx), upd_ne (ne_of_none z nd)]
      exact z
    have no : ¬ Clk.Valid ns := fun hv => ov (hv.near i)
    refine ⟨.ref e, List.getElem?_set_self (by rw [hl]; decide), ?_⟩
    refine ⟨T.C_Overtaken.C, d, _, rfl, rfl, rfl, hd, true, rfl, iteT ?_⟩
    exact qn no H' (s0.trans sm)

/-- whether some window has a gap -/
def spGaps (K : PySem.W.Frag) : Sp := fun vs H Q _ => ∃ (a : Addr) (ns : List Int), vs = [.ref a] ∧ SqL K H a (iv ns) ∧ 0 < ns.length ∧ ns.length ≤ 48 ∧ (∀ x ∈ ns, 1 ≤ x ∧ x ≤ ns.length) ∧
  (Clk.Valid ns → ∀ H', Same H H' → Q (.bl false) H') ∧ (¬ Clk.Valid ns → ∀ H', Same H H' → Q (.bl true) H')
theorem ok_lhas_gaps (T : Env K mg) : FnOk P w K mg base CX0 1 T.lhas_gaps.f T.lhas_gaps.fd ["_law_row"] (spGaps K) := by
  refine T.lhas_gaps.F.ok sc_lhas_gaps (fun vs H Q E h => ?_) (fun cdv A outer s H vs Q E hr h => ?_)
  · obtain ⟨a, ns, rfl, _⟩ := h
    rfl
  · obtain ⟨a, ns, rfl, hS, pos, top, fit, qf, qt⟩ := h
    refine ⟨_, (pss_cons (ps_set (i := 1) sc_lhas_gaps.nd rfl (by first | exact Or.inl rfl | exact Or.inr rfl) (pe_callB (K_len (K := K) rfl) (by rfl) T.n_len PySem.boot_len (pa_cons (pv 0) pa_nil)))
      (pss_cons (ps_for PassesOwn.never rfl (pi_range1 (by rfl) T.n_range (pa_cons (pv 1) pa_nil)) (pg_name (i := 2) sc_lhas_gaps.nd rfl (by first | exact Or.inl rfl | exact Or.inr rfl))
      (pss_cons (ps_setLc (i := 3) (own := [("_law_back", 4)]) (g := gName 4) (tt := tYes) (by rfl) sc_lhas_gaps.nd rfl rfl (sw_true rfl rfl rfl (by decide +kernel)) (pi_range1 (by rfl) T.n_range (pa_cons (pv 1) pa_nil)) (blkOk_by (N := ["_law_row", "_law_many", "_law_hour", "_law_serves", "_law_back"]) (sc := defScope s_lhas_gaps) (by decide +kernel)) (fun _ _ _ _ _ => pg_name (i := 4) sc_lhas_gaps.nd rfl (by first | exact Or.inl rfl | exact Or.inr rfl)) (fun _ _ _ _ _ => pts_nil) (fun _ _ _ _ _ => (pe_cmpR op_gt (pe_ix (K_ixL (K := K) rfl) (pv 0) (pe_op op_mod (pe_callTy call_int1 (by rfl) T.n_int (by decide +kernel) (pa_cons (pe_op op_sub (pv 2) (pv 4)) pa_nil)) (pv 1)) (fun _ _ => rfl)) (pv 4) (nomark _))))
      (pss_one (ps_if (pt_cmpR (K_neD (K := K) hr.units rfl) (pv 3) (K_revL (K := K) rfl (pe_callB (K_sortedB (K := K) rfl) (by rfl) T.n_sorted (by decide +kernel) (pa_cons (pv 3) pa_nil))) (nomark _)) (pss_one (ps_ret pe_bl)) pss_nil))))
      (pss_one (ps_ret pe_bl)))), ?_⟩
    refine ⟨.ref a, rfl, a, _, rfl, .inl hS, ?_⟩
    rw [iv_len]
    refine ⟨_, rfl, (ns.length : Nat), rfl, by omega, by omega, ?_⟩
    refine for_range (n := ((ns.length : Nat) : Int).toNat) (fun i σ H' => ∃ x2 x3, σ = [some (.ref a), some (.int (ns.length : Nat)), x2, x3, none] ∧ Same H H' ∧ ∀ j : Nat, j < i → Desc (servesB ns j))
      ⟨none, none, rfl, Same.refl H, fun j z => absurd z (Nat.not_lt_zero j)⟩ ?_ (fun σ H' ⟨_, _, _, sm, no⟩ => qf (valid_of_desc pos top fit fun h hh => no h (by rw [Int.toNat_natCast]; exact hh)) H' sm)
    rintro h σ H1 hh ⟨x2, x3, rfl, s1, no⟩
    rw [Int.toNat_natCast] at hh
    rw [show (0 : Int) + (h : Int) = h by omega]
    refine ⟨_, rfl, (ns.length : Nat), rfl, by omega, by omega, fun D nD => ?_⟩
    refine lc_mapR (n := ((ns.length : Nat) : Int).toNat) (fun b => .bl (decide (Clk.S ns ((h : Int) - (b : Int)) > (b : Int)))) nD (by omega) (fun b hb H' R sm kk => ?_) (fun H2 s2 e2 => ?_)
    · rw [show (0 : Int) + (b : Int) = b by omega]
      refine ⟨.ref a, rfl, .int h, rfl, .int b, rfl, _, _, rfl, rfl, .inl ⟨_, rfl, .int (ns.length : Nat), rfl, _, _, rfl, rfl, by omega, ?_⟩⟩
      exact ⟨a, iv ns, _, .int (Clk.S ns ((h : Int) - (b : Int))), rfl, rfl, (s1.trans sm).seq hS, at_round pos _, .int b, rfl, _, _, rfl, rfl, kk _ (Same.refl _)⟩
    have eb : (List.range ((ns.length : Nat) : Int).toNat).map (fun b : Nat => V.bl (decide (Clk.S ns ((h : Int) - (b : Int)) > (b : Int)))) = bv (servesB ns h) := by
      rw [Int.toNat_natCast]
      unfold servesB bv
      rw [List.map_map]
      rfl
    rw [eb] at e2
    refine ⟨.ref D, rfl, .ref D, rfl, D, servesB ns h, rfl, SqL.of e2, fun cs p3 hp hs n3 => ⟨p3, _, rfl, SqL.of upd_same, fun p4 n4 => ?_⟩⟩
    have s3 := same_new (o := .lst (bv cs)) n3
    have s4 := same_new (o := .lst (bv cs).reverse) n4
    have e4 : upd (upd H2 p3 (.lst (bv cs))) p4 (.lst (bv cs).reverse) p4 = some (.lst (bv cs.reverse)) := by
      rw [upd_same]
      unfold bv
      rw [List.map_reverse]
    have t4 := ((s1.trans s2).trans s3).trans s4
    refine ⟨_, _, Dp.bools (SqL.of (s4 _ _ (s3 _ _ e2))), Dp.bools (SqL.of e4), shaped_B _, shaped_B _, _, rfl, ?_⟩
    rw [eqv_B]
    have bi := back_iff hp hs
    by_cases d : Desc (servesB ns h)
    · rw [decide_eq_true (bi.mpr d)]
      refine iteF ⟨_, _, rfl, t4, fun j hj => ?_⟩
      rcases Nat.lt_succ_iff_lt_or_eq.mp hj with z | z
      · exact no j z
      · rw [z]
        exact d
    · rw [decide_eq_false fun e => d (bi.mp e)]
      exact iteT (qt (fun v => d (serves_desc v h)) _ t4)

def spStays (K : PySem.W.Frag) (C : Addr) : Sp := fun vs H Q _ => ∃ (p : Addr) (ns : List Int), vs = [.ref p] ∧ ClkAt K C H p ns ∧ ∀ l, H l = none → Q (.ref l) (upd H l (.lst (iv ns)))
theorem ok_Clock_stays (T : Env K mg) : FnOk P w K mg base CX0 1 T.Clock_stays.f T.Clock_stays.fd ["self"] (spStays K T.C_Clock.C) := by
  refine T.Clock_stays.F.ok sc_Clock_stays (fun vs H Q E h => ?_) (fun cdv A outer s H vs Q E hr h => ?_)
  · obtain ⟨p, ns, rfl, _⟩ := h
    rfl
  · obtain ⟨p, ns, rfl, hc, q⟩ := h
    obtain ⟨dx, t, h1, h2⟩ := hc.ex
    refine ⟨_, (pss_one (ps_ret (pe_callTy (K_list (K := K) rfl) (by rfl) T.n_list (by decide +kernel) (pa_cons (K_fld (K := K) rfl (pv 0) rfl) pa_nil)))), ?_⟩
    exact ⟨_, rfl, p, _, dx, _, .ref t, rfl, h1, T.C_Clock.cl, T.n_Clock__stays, rfl, t, _, rfl, .inr h2, q⟩

def spTurnedRow (K : PySem.W.Frag) : Sp := fun vs H Q _ => ∃ (a : Addr) (ns : List Int) (k : Int), vs = [.ref a, .int k] ∧ SqT K H a (iv ns) ∧ 0 < ns.length ∧ ns.length ≤ 48 ∧
  ∀ t H', Same H H' → SqT K H' t (iv (Clk.trn ns k)) → Q (.ref t) H'
theorem ok_turned_row (T : Env K mg) : FnOk P w K mg base CX0 1 T.turned_row.f T.turned_row.fd ["row", "by"] (spTurnedRow K) := by
  refine T.turned_row.F.ok sc_turned_row (fun vs H Q E h => ?_) (fun cdv A outer s H vs Q E hr h => ?_)
  · obtain ⟨a, ns, k, rfl, _⟩ := h
    rfl
  · obtain ⟨a, ns, k, rfl, h2, hp, ht, q⟩ := h
    have hm0 := Int.emod_nonneg k (show (ns.length : Int) ≠ 0 by omega)
    have hm1 := Int.emod_lt_of_pos k (show (0 : Int) < ns.length by omega)
    have hcut := Clk.cut_trn hp k
    obtain ⟨f, hf⟩ := Int.eq_ofNat_of_zero_le hm0
    have hfn : f < ns.length := by omega
    have hfl : f ≤ (iv ns).length := by rw [iv_len]; omega
    rw [hf] at hcut
    have efl : (((f : Int)).toNat) = f := rfl
    rw [efl] at hcut
    refine ⟨_, (pss_cons (ps_set (i := 2) sc_turned_row.nd rfl (by first | exact Or.inl rfl | exact Or.inr rfl) (pe_op op_mod (pv 1) (pe_callB (K_len (K := K) rfl) (by rfl) T.n_len PySem.boot_len (pa_cons (pv 0) pa_nil))))
      (pss_one (ps_ret (pe_op (K_catT (K := K) rfl) (pe_slice (K_slT (K := K) rfl) (pv 0) (po_some (pv 2)) po_none) (pe_slice (K_slT (K := K) rfl) (pv 0) po_none (po_some (pv 2))))))), ?_⟩
    refine ⟨.int k, rfl, .ref a, rfl, a, iv ns, rfl, .inr h2, k, _, rfl, rfl, by rw [iv_len]; omega, ?_⟩
    dsimp only
    rw [iv_len, hf]
    refine ⟨.ref a, rfl, .int f, rfl, f, rfl, a, iv ns, rfl, h2, fun whole => ?_, fun part p1 np1 => ?_⟩
    · have hf0 : f = 0 := by
        have w := whole.1
        rw [HT.sIx_nat, iv_len, Nat.min_eq_left (Nat.le_of_lt hfn)] at w
        exact w
      subst hf0
      refine ⟨.ref a, rfl, .int (0 : Nat), rfl, _, rfl, a, iv ns, rfl, h2, fun whole2 => ?_, fun part2 p2 np2 => ?_⟩
      · exfalso
        have w := whole2.2
        rw [HT.sIx_nat, iv_len] at w
        omega
      · have s2 : Same H (upd H p2 (.tup (cutV (iv ns) none (some ((0 : Nat) : Int))))) := same_new np2
        rw [cut_hi (Nat.zero_le _)] at s2 ⊢
        have e : Clk.trn ns k = ns := by rw [← hcut]; simp
        refine ⟨a, p2, iv ns, _, rfl, rfl, Same.set s2 h2, .inl (.inl upd_same), ?_, ?_, fun _ => ?_, fun ne => absurd rfl ne⟩
        · intro z
          have := congrArg List.length z
          rw [iv_len, List.length_nil] at this
          omega
        · rw [iv_len]
          exact small_line' (by simp; omega)
        · exact q a _ s2 (by rw [e]; exact Same.set s2 h2)
    · have hf0 : f ≠ 0 := by
        rintro rfl
        refine part ⟨?_, ?_⟩
        · rw [HT.sIx_nat, Nat.zero_min]
        · rw [HT.sIx_none]
      have s1 : Same H (upd H p1 (.tup (cutV (iv ns) (some (f : Int)) none))) := same_new np1
      refine ⟨.ref a, rfl, .int f, rfl, _, rfl, a, iv ns, rfl, Same.set s1 h2, fun whole2 => ?_, fun part2 p2 np2 => ?_⟩
      · exfalso
        have w := whole2.2
        rw [HT.sIx_nat, iv_len] at w
        omega
      · have s2 := same_new (o := .tup (cutV (iv ns) none (some (f : Int)))) np2
        have s12 := s1.trans s2
        have g1 := s2 _ _ (upd_same (H := H) (a := p1) (o := .tup (cutV (iv ns) (some (f : Int)) none)))
        refine ⟨p1, p2, _, _, rfl, rfl, .inl (.inl g1), .inl (.inl upd_same), ?_, ?_, fun e => ?_, fun _ p3 np3 => ?_⟩
        · rw [cut_lo hfl]
          intro z
          have := congrArg List.length z
          rw [List.length_drop, iv_len, List.length_nil] at this
          omega
        · rw [cut_lo hfl, cut_hi hfl, List.length_drop, List.length_take, iv_len]
          exact small_line' (by omega)
        · exfalso
          rw [cut_hi hfl] at e
          have := congrArg List.length e
          rw [List.length_take, iv_len, List.length_nil] at this
          omega
        · refine q p3 _ (s12.trans (same_new np3)) (.inl (.inl ?_))
          rw [upd_same, cut_lo hfl, cut_hi hfl, ← hcut]
          unfold iv
          rw [List.map_append, List.map_drop, List.map_take]

def spTurned (K : PySem.W.Frag) (C : Addr) : Sp := fun vs H Q _ => ∃ (p : Addr) (ns : List Int) (k : Int), vs = [.ref p, .int k] ∧ ClkAt K C H p ns ∧
  ∀ r H', H r = none → Same H H' → ClkAt K C H' r (Clk.trn ns k) → Q (.ref r) H'
theorem ok_Clock_turned (T : Env K mg) : FnOk P w K mg base CX0 6 T.Clock_turned.f T.Clock_turned.fd ["self", "by"] (spTurned K T.C_Clock.C) := by
  refine T.Clock_turned.F.ok sc_Clock_turned (fun vs H Q E h => ?_) (fun cdv A outer s H vs Q E hr h => ?_)
  · obtain ⟨p, ns, k, rfl, _⟩ := h
    rfl
  · obtain ⟨p, ns, k, rfl, hc, q⟩ := h
    obtain ⟨dx, t, h1, h2⟩ := hc.ex
    refine ⟨_, (pss_one (ps_ret (pe_make T.mk_Clock (ok_Clock_init0 T) (hr.mono (by decide)) (by rfl) T.C_Clock.mg T.Clock_init.b .nil passNone (pa_cons (pe_call (ok_turned_row T) (hr.mono (by decide)) (by rfl) T.turned_row.m T.turned_row.F.kp T.turned_row.b .nil pass0 (pa_cons (K_fld (K := K) rfl (pv 0) rfl) (pa_cons (pv 1) pa_nil))) pa_nil)))), ?_⟩
    refine ⟨.ref p, rfl, p, _, dx, _, .ref t, rfl, h1, T.C_Clock.cl, T.n_Clock__stays, rfl, .int k, rfl, t, ns, k, rfl, h2, hc.ok.pos, hc.ok.top, fun a H3 s3 hT => ?_⟩
    intro x dx nx nd nex
    refine ⟨x, dx, a, _, rfl, upd_same, made_ints nx nd (.inr hT), Clk.valid_trn hc.ok k, fun H' kb hC => ⟨rfl, ?_⟩⟩
    exact q x H' (s3.free nx) (s3.trans (made_same nx nd kb)) hC

def spHours (K : PySem.W.Frag) (C : Addr) : Sp := fun vs H Q _ => ∃ (p : Addr) (ns : List Int), vs = [.ref p] ∧ ClkAt K C H p ns ∧ Q (.int ns.length) H
theorem ok_Clock_hours (T : Env K mg) : FnOk P w K mg base CX0 1 T.Clock_hours.f T.Clock_hours.fd ["self"] (spHours K T.C_Clock.C) := by
  refine T.Clock_hours.F.ok sc_Clock_hours (fun vs H Q E h => ?_) (fun cdv A outer s H vs Q E hr h => ?_)
  · obtain ⟨p, ns, rfl, _⟩ := h
    rfl
  · obtain ⟨p, ns, rfl, hc, q⟩ := h
    obtain ⟨dx, t, h1, h2⟩ := hc.ex
    refine ⟨_, (pss_one (ps_ret (pe_callB (K_len (K := K) rfl) (by rfl) T.n_len PySem.boot_len (pa_cons (K_fld (K := K) rfl (pv 0) rfl) pa_nil)))), ?_⟩
    refine ⟨_, rfl, p, _, dx, _, .ref t, rfl, h1, T.C_Clock.cl, T.n_Clock__stays, rfl, t, _, rfl, .inr h2, ?_⟩
    rw [iv_len]
    exact q

def spWidth (K : PySem.W.Frag) : Sp := fun vs H Q _ => ∃ (a : Addr) (ns : List Int) (x : Int), vs = [.ref a, .int x] ∧ SqT K H a (iv ns) ∧ Clk.Valid ns ∧ Q (.int (Clk.wd ns x)) H
theorem ok_width (T : Env K mg) : FnOk P w K mg base CX0 1 T.width.f T.width.fd ["stays", "hour"] (spWidth K) := by
  refine T.width.F.ok sc_width (fun vs H Q E h => ?_) (fun cdv A outer s H vs Q E hr h => ?_)
  · obtain ⟨a, ns, x, rfl, _⟩ := h
    rfl
  · obtain ⟨a, ns, x, rfl, hS, hv, q⟩ := h
    refine ⟨_, (pss_cons (ps_set (i := 2) sc_width.nd rfl (by first | exact Or.inl rfl | exact Or.inr rfl) pe_int)
      (pss_cons (ps_while PassesOwn.never (pt_cmpR op_gt (pe_ix (K_ixT (K := K) rfl) (pv 0) (pe_op op_mod (pe_op op_sub (pv 1) (pv 2)) (pe_callB (K_len (K := K) rfl) (by rfl) T.n_len PySem.boot_len (pa_cons (pv 0) pa_nil))) (fun _ _ => rfl)) (pv 2) (nomark _)) (pss_one (ps_aug (i := 2) sc_width.nd rfl (by first | exact Or.inl rfl | exact Or.inr rfl) pe_int ip_add)))
      (pss_one (ps_ret (pv 2))))), ?_⟩
    have hp := hv.pos
    refine ⟨fun m σ H' => ∃ w : Nat, σ = [some (.ref a), some (.int x), some (.int w)] ∧ H' = H ∧ 1 ≤ w ∧ w ≤ ns.length ∧ m = ns.length - w ∧ ∀ b, b < w → (b : Int) < Clk.S ns (x - b), ⟨_, 1, rfl, rfl, Nat.le_refl _, hp, rfl, fun b hb => ?_⟩, ?_⟩
    · obtain rfl : b = 0 := by omega
      have := hv.lo (x - ((0 : Nat) : Int))
      show (0 : Int) < _
      omega
    · rintro m σ H' ⟨w, rfl, rfl, h1, h2, rfl, all⟩
      refine ⟨.ref a, rfl, .int x, rfl, .int w, rfl, _, _, rfl, rfl, .ref a, rfl, a, _, rfl, .inr hS, _, _, rfl, rfl, ?_⟩
      rw [iv_len]
      refine ⟨(by omega), a, _, _, _, rfl, rfl, hS, at_round hp _, .int w, rfl, _, _, rfl, rfl, _, rfl, ite2 (fun e => ?_) (fun e => ?_)⟩
      · have e' := of_decide_eq_true e
        have hw : w < ns.length := by
          have := hv.hi (x - w)
          omega
        refine ⟨fun σ' H'' => σ' = [some (.ref a), some (.int x), some (.int ((w + 1 : Nat) : Int))] ∧ H'' = H', ?_, ?_⟩
        · rintro σ' H'' ⟨rfl, rfl⟩
          refine ⟨ns.length - (w + 1), by omega, w + 1, rfl, rfl, by omega, hw, rfl, fun b hb => ?_⟩
          by_cases hbw : b < w
          · exact all b hbw
          · obtain rfl : b = w := by omega
            exact e'
        · exact ⟨_, rfl, _, _, rfl, rfl, rfl, rfl⟩
      · have e' : ¬ (w : Int) < Clk.S ns (x - w) := fun z => e (decide_eq_true z)
        have ew := Clk.wd_found hv x h1 h2 all e'
        rw [ew] at q
        exact ⟨_, rfl, q⟩

def spWidths (K : PySem.W.Frag) (C : Addr) : Sp := fun vs H Q _ => ∃ (p : Addr) (ns : List Int), vs = [.ref p] ∧ ClkAt K C H p ns ∧ ∀ l H', H l = none → Same H H' → H' l = some (.lst (iv (Clk.widths ns))) → Q (.ref l) H'
theorem ok_Clock_widths (T : Env K mg) : FnOk P w K mg base CX0 3 T.Clock_widths.f T.Clock_widths.fd ["self"] (spWidths K T.C_Clock.C) := by
  refine T.Clock_widths.F.ok sc_Clock_widths (fun vs H Q E h => ?_) (fun cdv A outer s H vs Q E hr h => ?_)
  · obtain ⟨p, ns, rfl, _⟩ := h
    rfl
  · obtain ⟨p, ns, rfl, hc, q⟩ := h
    refine ⟨_, (pss_one (ps_ret (pe_lc (own := [("hour", 1)]) (g := gName 1) (tt := tYes) (by rfl) sc_Clock_widths.nd  (pi_range1 (by rfl) T.n_range (pa_cons (pe_prop (pv 0) T.C_Clock.cl T.p_Clock_hours (ok_Clock_hours T) (hr.mono (by decide)) T.Clock_hours.b .nil pass0 rfl) pa_nil)) (blkOk_by (N := ["self", "hour"]) (sc := defScope s_Clock_widths) (by decide +kernel)) (fun _ _ _ _ _ => pg_name (i := 1) sc_Clock_widths.nd rfl (by first | exact Or.inl rfl | exact Or.inr rfl)) (fun _ _ _ _ _ => pts_nil) (fun _ _ _ _ _ => (pe_call (ok_width T) (hr.mono (by decide)) (by rfl) T.width.m T.width.F.kp T.width.b .nil pass0 (pa_cons (K_fld (K := K) rfl (pv 0) rfl) (pa_cons (pv 1) pa_nil))))))), ?_⟩
    obtain ⟨dx, t, h1, h2⟩ := hc.ex
    have hp := hc.ok.pos
    have ht := hc.ok.top
    refine ⟨.ref p, rfl, p, dx, _, rfl, h1, p, ns, rfl, hc, ns.length, rfl, by omega, by omega, fun D nD => ?_⟩
    refine lc_mapR (n := ((ns.length : Int) - 0).toNat) (fun i => .int (Clk.wd ns i)) nD (by omega) (fun i hi H' R sm k => ?_) (fun H' sm hD => q D H' nD sm ?_)
    · refine ⟨.ref p, rfl, p, _, dx, _, .ref t, rfl, sm _ _ h1, T.C_Clock.cl, T.n_Clock__stays, rfl, _, rfl, t, ns, _, rfl, Same.set sm h2, hc.ok, ?_⟩
      rw [Int.zero_add]
      exact k _ (Same.refl _)
    · rw [hD]
      congr 2
      unfold Clk.widths Clk.row iv
      rw [List.map_map, Int.sub_zero, Int.toNat_natCast]
      rfl

def spMirrored (K : PySem.W.Frag) (C : Addr) : Sp := fun vs H Q _ => ∃ (p : Addr) (ns : List Int), vs = [.ref p] ∧ ClkAt K C H p ns ∧ ∀ r H', H r = none → Same H H' → ClkAt K C H' r (Clk.mir ns) → Q (.ref r) H'
theorem ok_Clock_mirrored (T : Env K mg) : FnOk P w K mg base CX0 6 T.Clock_mirrored.f T.Clock_mirrored.fd ["self"] (spMirrored K T.C_Clock.C) := by
  refine T.Clock_mirrored.F.ok sc_Clock_mirrored (fun vs H Q E h => ?_) (fun cdv A outer s H vs Q E hr h => ?_)
  · obtain ⟨p, ns, rfl, _⟩ := h
    rfl
  · obtain ⟨p, ns, rfl, hc, q⟩ := h
    obtain ⟨dx, t, h1, h2⟩ := hc.ex
    refine ⟨_, (pss_one (ps_ret (pe_make T.mk_Clock (ok_Clock_init0 T) (hr.mono (by decide)) (by rfl) T.C_Clock.mg T.Clock_init.b .nil passNone (pa_cons (K_revL (K := K) rfl (pe_meth0 (pv 0) T.C_Clock.cl T.m_Clock_widths (ok_Clock_widths T) (hr.mono (by decide)) T.Clock_widths.b .nil pass0)) pa_nil)))), ?_⟩
    refine ⟨.ref p, rfl, p, dx, _, rfl, h1, rfl, p, ns, rfl, hc, fun l H1 nl s1 hl => ⟨l, _, rfl, SqL.of hl, fun m nm => ?_⟩⟩
    have s2 : Same H (upd H1 m (.lst (iv (Clk.widths ns)).reverse)) := s1.trans (same_new nm)
    intro x dx nx nd nex
    have e : (iv (Clk.widths ns)).reverse = iv (Clk.mir ns) := by
      unfold iv
      rw [← List.map_reverse, Clk.widths_rev]
    refine ⟨x, dx, m, Clk.mir ns, rfl, upd_same, made_ints nx nd (.inl (SqL.of (by rw [upd_same, e]))), Clk.valid_mir hc.ok, fun H' kb hC => ⟨rfl, ?_⟩⟩
    exact q x H' (s2.free nx) (s2.trans (made_same nx nd kb)) hC

def spTake : Sp := fun vs H Q _ => ∃ (b : Addr) (u : Int), vs = [.ref b, .int u] ∧ Bag H b ∧ 1 ≤ u ∧ u < 1073741824 ∧ ∀ H' v, Drew b H H' → 0 ≤ v → v < u → Q (.int v) H'
/-- the bag as it stands within -/
def BagOf (H0 H : Hp) (b c : Addr) (cs : List Int) (g m i : Int) : Prop := H b = some (.lst [.int g, .int m, .int i, .ref c]) ∧ H c = some (.lst (iv cs)) ∧ But b H0 H
theorem BagOf.put {H0 H : Hp} {b c : Addr} {cs : List Int} {g m i g' m' i' : Int} (h : BagOf H0 H b c cs g m i) (n : c ≠ b) : BagOf H0 (upd H b (.lst [.int g', .int m', .int i', .ref c])) b c cs g' m' i' :=
  ⟨upd_same, by rw [upd_ne n]; exact h.2.1, h.2.2.upd⟩
theorem BagOf.drew {H0 H : Hp} {b c : Addr} {cs : List Int} {g m i : Int} (h : BagOf H0 H b c cs g m i) (h1 : 0 ≤ g) (h2 : 0 ≤ m) (h3 : m < 2147483647) (h4 : 0 ≤ i) (h5 : BagAt H0 b c cs) : Drew b H0 H := by
  refine ⟨h.2.2, fun c' cs' h' => ?_, ⟨c, cs, h5⟩⟩
  obtain ⟨g0, m0, i0, e1, e2, _⟩ := h5
  obtain ⟨g1, m1, i1, k1, k2, _, _, _, _, k3⟩ := h'
  rw [e1] at k1
  have z := V_lst_inj k1
  have zc : c = c' := by
    injection z with _ z
    injection z with _ z
    injection z with _ z
    injection z with z _
    exact V.ref.inj z
  subst zc
  rw [e2] at k2
  exact ⟨g, m, i, h.1, h.2.1.trans (congrArg (fun z => some (HO.lst z)) (V_lst_inj k2)), h1, h2, h3, h4, k3⟩
theorem at4 (x y z w : V) : atI [x, y, z, w] 0 = some x ∧ atI [x, y, z, w] 1 = some y ∧ atI [x, y, z, w] 2 = some z ∧ atI [x, y, z, w] 3 = some w := ⟨rfl, rfl, rfl, rfl⟩
theorem ok_ltake (T : Env K mg) : FnOk P w K mg base CX0 1 T.ltake.f T.ltake.fd ["_law_bag_here", "_law_upto"] spTake := by
  refine T.ltake.F.ok sc_ltake (fun vs H Q E h => ?_) (fun cdv A outer s H vs Q E hr h => ?_)
  · obtain ⟨b, u, rfl, _⟩ := h
    rfl
  · obtain ⟨b, u, rfl, hb, hu1, hu2, q⟩ := h
    obtain ⟨c, cs, hb⟩ := hb
    obtain ⟨g, m, i, e1, e2, g0, m0, m1, i0, cs0⟩ := id hb
    have ncb : c ≠ b := by
      rintro rfl
      rw [e1] at e2
      have z := List.map_eq_cons_iff.mp (V_lst_inj e2).symm
      obtain ⟨x1, l1, rfl, _, z⟩ := z
      have z2 := List.map_eq_cons_iff.mp z
      obtain ⟨x2, l2, rfl, _, z⟩ := z2
      have z3 := List.map_eq_cons_iff.mp z
      obtain ⟨x3, l3, rfl, _, z⟩ := z3
      have z4 := List.map_eq_cons_iff.mp z
      obtain ⟨x4, l4, rfl, z5, z⟩ := z4
      cases z5
    have B0 : BagOf H H b c cs g m i := ⟨e1, e2, But.refl b H⟩
    refine ⟨_, (C8.pss_cut (ps_if (pt_cmpR op_eq (pe_ix (K_ixL (K := K) rfl) (pv 0) pe_int (fun _ _ => rfl)) pe_int (nomark _)) (pss_cons (ps_set (i := 4) sc_ltake.nd rfl (by first | exact Or.inl rfl | exact Or.inr rfl) pe_int)
      (C8.pss_cut (ps_if (pt_cmpR op_lt (pe_ix (K_ixL (K := K) rfl) (pv 0) pe_int (fun _ _ => rfl)) (pe_callB (K_len (K := K) rfl) (by rfl) T.n_len PySem.boot_len (pa_cons (pe_ix (K_ixL (K := K) rfl) (pv 0) pe_int (fun _ _ => rfl)) pa_nil)) (nomark _)) (pss_one (ps_set (i := 4) sc_ltake.nd rfl (by first | exact Or.inl rfl | exact Or.inr rfl) (pe_ix (K_ixL (K := K) rfl) (pe_ix (K_ixL (K := K) rfl) (pv 0) pe_int (fun _ _ => rfl)) (pe_ix (K_ixL (K := K) rfl) (pv 0) pe_int (fun _ _ => rfl)) (fun _ _ => rfl)))) pss_nil)
      (pss_cons (ps_augS (pv 0) pe_int (K_get (K := K) rfl) pe_int ip_add set_list)
      (C8.pss_cut (ps_if (pt_cmpR op_ge (pv 4) pe_int (nomark _)) (pss_one (ps_asg (pv 4) (pg_sub (pv 0) pe_int set_list))) pss_nil)
      (pss_cons (ps_set (i := 5) sc_ltake.nd rfl (by first | exact Or.inl rfl | exact Or.inr rfl) (pe_op op_add (pe_op op_add (pe_op op_mul (pe_ix (K_ixL (K := K) rfl) (pv 0) pe_int (fun _ _ => rfl)) pe_int) (pe_op op_mod (pe_callTy call_int1 (by rfl) T.n_int (by decide +kernel) (pa_cons (pv 4) pa_nil)) pe_int)) (pe_op op_mul pe_int (pe_ix (K_ixL (K := K) rfl) (pv 0) pe_int (fun _ _ => rfl)))))
      (pss_one (ps_asg (pe_op op_mod (pe_callTy call_int1 (by rfl) T.n_int (by decide +kernel) (pa_cons (pv 5) pa_nil)) pe_int) (pg_sub (pv 0) pe_int set_list)))))))) pss_nil)
      (pss_cons (ps_if (pt_cmpR op_gt (pe_ix (K_ixL (K := K) rfl) (pv 0) pe_int (fun _ _ => rfl)) pe_int (nomark _)) (pss_cons (ps_set (i := 6) sc_ltake.nd rfl (by first | exact Or.inl rfl | exact Or.inr rfl) (pe_op op_mod (pe_callTy call_int1 (by rfl) T.n_int (by decide +kernel) (pa_cons (pe_ix (K_ixL (K := K) rfl) (pv 0) pe_int (fun _ _ => rfl)) pa_nil)) (pv 1)))
      (pss_cons (ps_asg (pe_op op_fdiv (pe_callTy call_int1 (by rfl) T.n_int (by decide +kernel) (pa_cons (pe_ix (K_ixL (K := K) rfl) (pv 0) pe_int (fun _ _ => rfl)) pa_nil)) (pv 1)) (pg_sub (pv 0) pe_int set_list))
      (pss_one (ps_ret (pv 6))))) pss_nil)
      (pss_cons (ps_set (i := 2) sc_ltake.nd rfl (by first | exact Or.inl rfl | exact Or.inr rfl) (pe_op op_mod (pe_callTy call_int1 (by rfl) T.n_int (by decide +kernel) (pa_cons (pe_op op_mul (pe_op op_add (pe_ix (K_ixL (K := K) rfl) (pv 0) pe_int (fun _ _ => rfl)) pe_int) pe_int) pa_nil)) pe_int))
      (pss_cons (ps_set (i := 3) sc_ltake.nd rfl (by first | exact Or.inl rfl | exact Or.inr rfl) (pe_op op_mod (pe_callTy call_int1 (by rfl) T.n_int (by decide +kernel) (pa_cons (pe_op op_mul (pe_op op_mod (pe_callTy call_int1 (by rfl) T.n_int (by decide +kernel) (pa_cons (pe_op op_mul (pv 2) (pv 2)) pa_nil)) pe_int) pe_int) pa_nil)) pe_int))
      (pss_one (ps_ret (pe_op op_mod (pe_callTy call_int1 (by rfl) T.n_int (by decide +kernel) (pa_cons (pe_op op_fdiv (pv 3) pe_int) pa_nil)) (pv 1)))))))), ?_⟩
    refine ⟨fun σ H' => ∃ y4 y5 g' m' i', σ = [some (.ref b), some (.int u), none, none, y4, y5, none] ∧ BagOf H H' b c cs g' m' i' ∧ 0 ≤ g' ∧ 0 ≤ m' ∧ m' < 2147483647 ∧ 0 ≤ i', ?_, ?_⟩
    · -- a cell is taken
      refine ⟨.ref b, rfl, b, _, 0, _, rfl, rfl, SqL.of e1, rfl, rfl, _, rfl, ite2 (fun _ => ?_) (fun _ => ⟨none, none, g, m, i, rfl, B0, g0, m0, m1, i0⟩)⟩
      refine ⟨fun σ H' => ∃ x : Int, 0 ≤ x ∧ σ = [some (.ref b), some (.int u), none, none, some (.int x), none, none] ∧ H' = H, ?_, ?_⟩
      · refine ⟨.ref b, rfl, b, _, 2, _, rfl, rfl, SqL.of e1, rfl, .ref b, rfl, b, _, 3, _, rfl, rfl, SqL.of e1, rfl, c, _, rfl, .inl (SqL.of e2), _, _, rfl, rfl, _, rfl, ?_⟩
        rw [iv_len]
        refine ite2 (fun e => ?_) (fun _ => ⟨0, Int.le_refl _, rfl, rfl⟩)
        have e' : i < cs.length := of_decide_eq_true e
        obtain ⟨j, rfl⟩ := Int.eq_ofNat_of_zero_le i0
        have hj : j < cs.length := by omega
        refine ⟨.ref b, rfl, b, _, 3, _, rfl, rfl, SqL.of e1, rfl, .ref b, rfl, b, _, 2, _, rfl, rfl, SqL.of e1, rfl, c, _, _, .int cs[j], rfl, rfl, SqL.of e2, atI_nat (iv_get hj), cs[j], cs0 _ (List.getElem_mem hj), rfl, rfl⟩
      · rintro σ H' ⟨x, hx, rfl, rfl⟩
        -- bag[2] += 1
        refine ⟨.ref b, rfl, b, _, 2, _, rfl, rfl, SqL.of e1, rfl, _, _, rfl, rfl, b, _, 2, 2, rfl, rfl, e1, rfl, ?_⟩
        have B1 : BagOf H' (upd H' b (.lst [.int g, .int m, .int (i + 1), .ref c])) b c cs g m (i + 1) := B0.put ncb
        refine ⟨fun σ H'' => ∃ g' : Int, 0 ≤ g' ∧ σ = [some (.ref b), some (.int u), none, none, some (.int x), none, none] ∧ BagOf H' H'' b c cs g' m (i + 1), ?_, ?_⟩
        · refine ⟨.int x, rfl, _, _, rfl, rfl, _, rfl, ite2 (fun _ => ?_) (fun _ => ⟨g, g0, rfl, B1⟩)⟩
          exact ⟨.int x, rfl, .ref b, rfl, b, _, 0, 0, rfl, rfl, upd_same, rfl, x, hx, rfl, by rw [upd_upd]; exact B0.put ncb⟩
        · rintro σ H2 ⟨g', hg', rfl, B2⟩
          refine ⟨.ref b, rfl, b, _, 1, _, rfl, rfl, SqL.of B2.1, rfl, m, _, rfl, rfl, .inr ⟨by decide, by decide⟩, ?_⟩
          refine ⟨.int x, rfl, .inl ⟨x, rfl, x, _, rfl, rfl, (by show (0 : Int) < 2147483647; decide), _, _, rfl, rfl, .ref b, rfl, b, _, 2, _, rfl, rfl, SqL.of B2.1, rfl, _, _, rfl, rfl, .inl ⟨by decide, by decide⟩, _, _, rfl, rfl, ?_⟩⟩
          refine ⟨_, rfl, .inl ⟨_, rfl, _, _, rfl, rfl, (by show (0 : Int) < 2147483647; decide), .ref b, rfl, b, _, 1, 1, rfl, rfl, B2.1, rfl, ?_⟩⟩
          refine ⟨_, _, g', _, i + 1, rfl, B2.put ncb, hg', Int.emod_nonneg _ (by decide), Int.emod_lt_of_pos _ (by decide), by omega⟩
    · rintro σ H1 ⟨y4, y5, g, m, i, rfl, B, g0, m0, m1, i0⟩
      refine ⟨.ref b, rfl, b, _, 0, _, rfl, rfl, SqL.of B.1, rfl, _, _, rfl, rfl, _, rfl, ite2 (fun _ => ?_) (fun _ => ?_)⟩
      · -- drawn from the number
        refine ⟨.ref b, rfl, b, _, 0, _, rfl, rfl, SqL.of B.1, rfl, .inl ⟨_, rfl, _, rfl, _, _, rfl, rfl, by omega, ?_⟩⟩
        refine ⟨.ref b, rfl, b, _, 0, _, rfl, rfl, SqL.of B.1, rfl, .inl ⟨_, rfl, _, rfl, _, _, rfl, rfl, ⟨by omega, hu2⟩, .ref b, rfl, b, _, 0, 0, rfl, rfl, B.1, rfl, ?_⟩⟩
        exact ⟨_, rfl, q _ _ ((B.put ncb).drew (Int.ediv_nonneg g0 (by omega)) m0 m1 i0 hb) (Int.emod_nonneg _ (by omega)) (Int.emod_lt_of_pos _ (by omega))⟩
      · -- drawn from the mix
        refine ⟨.ref b, rfl, b, _, 1, _, rfl, rfl, SqL.of B.1, rfl, _, _, rfl, rfl, _, _, rfl, rfl, .inr ⟨by decide, by decide⟩, .inl ⟨_, rfl, _, _, rfl, rfl, (by show (0 : Int) < 1000000007; decide), ?_⟩⟩
        refine ⟨_, rfl, _, rfl, (m + 1) * 39373 % 1000000007, _, rfl, rfl, .inl ⟨by omega, by omega⟩, .inl ⟨_, rfl, _, _, rfl, rfl, (by show (0 : Int) < 998244353; decide), _, _, rfl, rfl, .inr ⟨by decide, by decide⟩, .inl ⟨_, rfl, _, _, rfl, rfl, (by show (0 : Int) < 998244353; decide), ?_⟩⟩⟩
        refine ⟨_, rfl, _, _, rfl, rfl, ⟨(by show (0 : Int) < 7; decide), (by show (7 : Int) < 1073741824; decide)⟩, .inl ⟨_, rfl, _, rfl, _, _, rfl, rfl, (by show 0 < u; omega), ?_⟩⟩
        exact q _ _ (B.drew g0 m0 m1 i0 hb) (Int.emod_nonneg _ (by omega)) (Int.emod_lt_of_pos _ (by omega))

def spOne (K : PySem.W.Frag) : Sp := fun vs H Q _ => ∃ (b a : Addr) (xs : List V), vs = [.ref b, .ref a] ∧ Bag H b ∧ SqL K H a xs ∧ a ≠ b ∧ 0 < xs.length ∧ xs.length ≤ 1000 ∧ ∀ (H' : Hp) (i : Nat) (h : i < xs.length), Drew b H H' → Q xs[i] H'
theorem ok_lone (T : Env K mg) : FnOk P w K mg base CX0 2 T.lone.f T.lone.fd ["_law_bag_here", "_law_some"] (spOne K) := by
  refine T.lone.F.ok sc_lone (fun vs H Q E h => ?_) (fun cdv A outer s H vs Q E hr h => ?_)
  · obtain ⟨b, a, xs, rfl, _⟩ := h
    rfl
  · obtain ⟨b, a, xs, rfl, hb, hS, nab, pos, top, q⟩ := h
    refine ⟨_, (pss_one (ps_ret (pe_ix (K_ixL (K := K) rfl) (pv 1) (pe_call (ok_ltake T) (hr.mono (by decide)) (by rfl) T.ltake.m T.ltake.F.kp T.ltake.b .nil pass0 (pa_cons (pv 0) (pa_cons (pe_callB (K_len (K := K) rfl) (by rfl) T.n_len PySem.boot_len (pa_cons (pv 1) pa_nil)) pa_nil))) (fun _ _ => rfl)))), ?_⟩
    refine ⟨.ref a, rfl, .ref b, rfl, .ref a, rfl, a, xs, rfl, .inl hS, b, xs.length, rfl, hb, by omega, by omega, fun H1 v d1 v0 v1 => ?_⟩
    obtain ⟨i, rfl⟩ := Int.eq_ofNat_of_zero_le v0
    have hi : i < xs.length := by omega
    exact ⟨a, xs, _, xs[i], rfl, rfl, d1.but.seq nab hS, atI_nat (List.getElem?_eq_getElem hi), q H1 i hi d1⟩

def spEq (K : PySem.W.Frag) (C : Addr) : Sp := fun vs H Q _ => ∃ (p r : Addr) (ns ms : List Int), vs = [.ref p, .ref r] ∧ ClkAt K C H p ns ∧ ClkAt K C H r ms ∧ Q (.bl (decide (ns = ms))) H
theorem ok_Clock_eq (T : Env K mg) : FnOk P w K mg base CX0 1 T.Clock_eq.f T.Clock_eq.fd ["self", "other"] (spEq K T.C_Clock.C) := by
  refine T.Clock_eq.F.ok sc_Clock_eq (fun vs H Q E h => ?_) (fun cdv A outer s H vs Q E hr h => ?_)
  · obtain ⟨p, r, ns, ms, rfl, _⟩ := h
    rfl
  · obtain ⟨p, r, ns, ms, rfl, hc, hd, q⟩ := h
    obtain ⟨dx, t, h1, h2⟩ := hc.ex
    obtain ⟨dy, u, g1, g2⟩ := hd.ex
    refine ⟨_, (pss_one (ps_ret (pe_and (pe_callB (K_isi (K := K) rfl) (by rfl) T.n_isinstance (by decide +kernel) (pa_cons (pv 1) (pa_cons (pe_glob (v := .ref T.C_Clock.C) (by rfl) T.C_Clock.mg rfl) pa_nil))) (pe_one (pe_cmpR (K_eqD (K := K) hr.units rfl) (K_fld (K := K) rfl (pv 0) rfl) (K_fld (K := K) rfl (pv 1) rfl) (nomark _)))))), ?_⟩
    refine ⟨_, rfl, .ref r, .ref T.C_Clock.C, .ref T.C_Clock.C, .ref T.C_Clock.C, true, rfl, .own _, .base (.ins g1 T.C_Clock.cl T.ic_Clock T.ig_Clock T.it_Clock T.ob_Clock), kit_self _ _, true, rfl, ?_⟩
    refine iteT ?_
    refine ⟨_, rfl, p, _, dx, _, .ref t, rfl, h1, T.C_Clock.cl, T.n_Clock__stays, rfl, _, rfl, r, _, dy, _, .ref u, rfl, g1, T.C_Clock.cl, T.n_Clock__stays, rfl, ?_⟩
    refine ⟨.tuple (ns.map PyData.int), .tuple (ms.map PyData.int), .tup h2 (dpI ns), .tup g2 (dpI ms), shaped_tupI ns, shaped_tupI ms, ?_⟩
    rw [eqv_tupI]
    exact q

def spLaw (K : PySem.W.Frag) : Sp := fun vs H Q _ => ∃ (a : Addr) (ns : List Int), vs = [.ref a] ∧ SqL K H a (ns.map V.int) ∧ ns.length ≤ 63 ∧ ∀ H', Q (.bl true) H'
theorem ok_law (T : Env K mg) : FnOk P w K mg base CX0 7 T.law.f T.law.fd ["_law_script"] (spLaw K) := by
  refine T.law.F.ok sc_law (fun vs H Q E h => ?_) (fun cdv A outer s H vs Q E hr h => ?_)
  · obtain ⟨a, ns, rfl, _⟩ := h
    rfl
  · obtain ⟨a, ns, rfl, hS, hl, q⟩ := h
    refine ⟨_, (pss_cons (ps_set (i := 1) sc_law.nd rfl (by first | exact Or.inl rfl | exact Or.inr rfl) (pe_call (ok_lbag T) (hr.mono (by decide)) (by rfl) T.lbag.m T.lbag.F.kp T.lbag.b .nil pass0 (pa_cons (pv 0) pa_nil)))
      (pss_cons (ps_for PassesOwn.never rfl (K_pit (K := K) rfl (pe_tup (pa_cons pe_int (pa_cons pe_int (pa_cons pe_int (pa_cons pe_int pa_nil)))))) (pg_name (i := 2) sc_law.nd rfl (by first | exact Or.inl rfl | exact Or.inr rfl))
      (pss_cons (ps_set (i := 4) sc_law.nd rfl (by first | exact Or.inl rfl | exact Or.inr rfl) (pe_lst pa_nil))
      (pss_cons (ps_for PassesOwn.never rfl (K_pil (K := K) rfl (pe_call (ok_lall_rows T) (hr.mono (by decide)) (by rfl) T.lall_rows.m T.lall_rows.F.kp T.lall_rows.b .nil pass0 (pa_cons (pv 2) (pa_cons (pv 2) pa_nil)))) (pg_name (i := 5) sc_law.nd rfl (by first | exact Or.inl rfl | exact Or.inr rfl))
      (C8.pss_cut (ps_set (i := 7) sc_law.nd rfl (by first | exact Or.inl rfl | exact Or.inr rfl) (pe_call (ok_ltried T) (hr.mono (by decide)) (by rfl) T.ltried.m T.ltried.F.kp T.ltried.b .nil pass0 (pa_cons (pv 5) pa_nil)))
      (pss_cons (ps_set (i := 8) sc_law.nd rfl (by first | exact Or.inl rfl | exact Or.inr rfl) (pe_op op_cat (pe_lc (own := [("_law_at", 11), ("_law_stay", 12)]) (g := _) (tt := tYes) (by rfl) sc_law.nd  (pi_enum (by rfl) T.n_enumerate (pa_cons (pv 5) pa_nil)) (blkOk_by (N := ["_law_script", "_law_bag_here", "_law_many", "_law_turn", "_law_clocks", "_law_row", "_law_known", "_law_clock", "_law_ends", "_law_one_here", "_law_other", "_law_at", "_law_stay"]) (sc := defScope s_law) (by decide +kernel)) (fun _ _ _ _ _ => (K_ptup (K := K) (n := 2) rfl rfl (pgs_cons (pg_name (i := 11) sc_law.nd rfl (by first | exact Or.inl rfl | exact Or.inr rfl)) (pgs_cons (pg_name (i := 12) sc_law.nd rfl (by first | exact Or.inl rfl | exact Or.inr rfl)) pgs_nil)))) (fun _ _ _ _ _ => pts_nil) (fun _ _ _ _ _ => (pe_op op_add (pv 11) (pv 12)))) (pe_lst (pa_cons (pe_op op_add (pv 2) (pe_ix (K_ixL (K := K) rfl) (pv 5) pe_int (fun _ _ => rfl))) pa_nil))))
      (pss_cons (ps_if (PW.pt (pw_or (pt_cmpR op_ne (pe_cmpR op_isN (pv 7) pe_non (nomark _)) (pe_call (ok_lhas_gaps T) (hr.mono (by decide)) (by rfl) T.lhas_gaps.m T.lhas_gaps.F.kp T.lhas_gaps.b .nil pass0 (pa_cons (pv 5) pa_nil)) (nomark _)) (pw_or1 (pt_cmpR op_ne (pe_cmpR op_isN (pv 7) pe_non (nomark _)) (pe_cmpR (K_neD (K := K) hr.units rfl) (pv 8) (pe_callB (K_sorted (K := K) rfl) (by rfl) T.n_sorted (by decide +kernel) (pa_cons (pv 8) pa_nil)) (nomark _)) (nomark _))))) (pss_one (ps_ret pe_bl)) pss_nil)
      (pss_one (ps_if (pt_cmpR op_notN (pv 7) pe_non (nomark _)) (pss_one (ps_expr (pe_bm PySem.F.plainAttrs_list PySem.F.slot_list_append PySem.F.type_list_append mt_append (pv 4) (pa_cons (pv 7) pa_nil)))) pss_nil))))))
      (pss_cons (ps_setLc (i := 6) (own := [("_law_clock", 7)]) (g := gName 7) (tt := tYes) (by rfl) sc_law.nd rfl rfl (sw_true rfl rfl rfl (by decide +kernel)) (K_pil (K := K) rfl (pv 4)) (blkOk_by (N := ["_law_script", "_law_bag_here", "_law_many", "_law_turn", "_law_clocks", "_law_row", "_law_known", "_law_clock", "_law_ends", "_law_one_here", "_law_other", "_law_at", "_law_stay"]) (sc := defScope s_law) (by decide +kernel)) (fun _ _ _ _ _ => pg_name (i := 7) sc_law.nd rfl (by first | exact Or.inl rfl | exact Or.inr rfl)) (fun _ _ _ _ _ => pts_nil) (fun _ _ _ _ _ => (pe_meth0 (pv 7) T.C_Clock.cl T.m_Clock_stays (ok_Clock_stays T) (hr.mono (by decide)) T.Clock_stays.b .nil pass0)))
      (pss_cons (ps_for PassesOwn.never rfl (K_pil (K := K) rfl (pv 4)) (pg_name (i := 7) sc_law.nd rfl (by first | exact Or.inl rfl | exact Or.inr rfl))
      (pss_one (ps_if (PW.pt (pw_or (pt_cmpR (K_notInD (K := K) (units65 hr) rfl) (pe_meth0 (pe_meth (pv 7) T.C_Clock.cl T.m_Clock_turned (ok_Clock_turned T) (hr.mono (by decide)) T.Clock_turned.b .nil pass0 (pa_cons pe_int pa_nil)) T.C_Clock.cl T.m_Clock_stays (ok_Clock_stays T) (hr.mono (by decide)) T.Clock_stays.b .nil pass0) (pv 6) rfl) (pw_or1 (pt_cmpR (K_notInD (K := K) (units65 hr) rfl) (pe_meth0 (pe_meth0 (pv 7) T.C_Clock.cl T.m_Clock_mirrored (ok_Clock_mirrored T) (hr.mono (by decide)) T.Clock_mirrored.b .nil pass0) T.C_Clock.cl T.m_Clock_stays (ok_Clock_stays T) (hr.mono (by decide)) T.Clock_stays.b .nil pass0) (pv 6) rfl)))) (pss_one (ps_ret pe_bl)) pss_nil)))
      (pss_cons (ps_par (i := 9) (j := 10) (by rfl) sc_law.nd rfl rfl (by decide) rfl rfl (pa_cons (pe_call (ok_lone T) (hr.mono (by decide)) (by rfl) T.lone.m T.lone.F.kp T.lone.b .nil pass0 (pa_cons (pv 1) (pa_cons (pv 4) pa_nil))) (pa_cons (pe_call (ok_lone T) (hr.mono (by decide)) (by rfl) T.lone.m T.lone.F.kp T.lone.b .nil pass0 (pa_cons (pv 1) (pa_cons (pv 4) pa_nil))) pa_nil)) (by rfl))
      (pss_one (ps_if (pt_cmpR op_ne (pe_cmpR (op_eqOwn T.m_Clock_eq (ok_Clock_eq T) (hr.mono (by decide)) T.Clock_eq.b pass0) (pv 9) (pv 10) (nomark _)) (pe_cmpR (K_eqD (K := K) hr.units rfl) (pe_meth0 (pv 9) T.C_Clock.cl T.m_Clock_stays (ok_Clock_stays T) (hr.mono (by decide)) T.Clock_stays.b .nil pass0) (pe_meth0 (pv 10) T.C_Clock.cl T.m_Clock_stays (ok_Clock_stays T) (hr.mono (by decide)) T.Clock_stays.b .nil pass0) (nomark _)) (nomark _)) (pss_one (ps_ret pe_bl)) pss_nil))))))))
      (pss_cons (ps_for PassesOwn.never rfl (pi_range1 (by rfl) T.n_range (pa_cons pe_int pa_nil)) (pg_name (i := 3) sc_law.nd rfl (by first | exact Or.inl rfl | exact Or.inr rfl))
      (pss_cons (ps_setLc (i := 5) (own := [("_law_at", 11)]) (g := gName 11) (tt := tYes) (by rfl) sc_law.nd rfl rfl (sw_true rfl rfl rfl (by decide +kernel)) (pi_range1 (by rfl) T.n_range (pa_cons pe_int pa_nil)) (blkOk_by (N := ["_law_script", "_law_bag_here", "_law_many", "_law_turn", "_law_clocks", "_law_row", "_law_known", "_law_clock", "_law_ends", "_law_one_here", "_law_other", "_law_at", "_law_stay"]) (sc := defScope s_law) (by decide +kernel)) (fun _ _ _ _ _ => pg_name (i := 11) sc_law.nd rfl (by first | exact Or.inl rfl | exact Or.inr rfl)) (fun _ _ _ _ _ => pts_nil) (fun _ _ _ _ _ => (pe_op op_add pe_int (pe_call (ok_ltake T) (hr.mono (by decide)) (by rfl) T.ltake.m T.ltake.F.kp T.ltake.b .nil pass0 (pa_cons (pv 1) (pa_cons pe_int pa_nil))))))
      (C8.pss_cut (ps_set (i := 7) sc_law.nd rfl (by first | exact Or.inl rfl | exact Or.inr rfl) (pe_call (ok_ltried T) (hr.mono (by decide)) (by rfl) T.ltried.m T.ltried.F.kp T.ltried.b .nil pass0 (pa_cons (pv 5) pa_nil)))
      (pss_one (ps_if (PW.pt (pw_or (pt_cmpR op_ne (pe_cmpR op_isN (pv 7) pe_non (nomark _)) (pe_call (ok_lhas_gaps T) (hr.mono (by decide)) (by rfl) T.lhas_gaps.m T.lhas_gaps.F.kp T.lhas_gaps.b .nil pass0 (pa_cons (pv 5) pa_nil)) (nomark _)) (pw_or1 (PW.pt (pw_and (pt_cmpR op_notN (pv 7) pe_non (nomark _)) (pw_and1 (pt_cmpR (K_neD (K := K) hr.units rfl) (pe_meth0 (pv 7) T.C_Clock.cl T.m_Clock_stays (ok_Clock_stays T) (hr.mono (by decide)) T.Clock_stays.b .nil pass0) (pv 5) (nomark _)))))))) (pss_one (ps_ret pe_bl)) pss_nil)))))
      (pss_one (ps_ret pe_bl))))), ?_⟩
    refine ⟨.ref a, rfl, a, ns, rfl, hS, hl, fun b H1 nb s1 hb1 => ?_⟩
    refine ⟨by show 4 ≤ sizeLine; decide, fun p np => ⟨p, rfl, ⟨_, .inl (.inl upd_same)⟩, ?_⟩⟩
    have hb2 := hb1.same (same_new (o := .tup [.int 1, .int 2, .int 3, .int 4]) np)
    have ep : upd H1 p (.tup [.int 1, .int 2, .int 3, .int 4]) p = some (.tup [.int 1, .int 2, .int 3, .int 4]) := upd_same
    generalize upd H1 p (.tup [.int 1, .int 2, .int 3, .int 4]) = H2 at hb2 ep ⊢
    have nbp : p ≠ b := by
      obtain ⟨xs, z⟩ := hb2.lst
      exact ne_of ep z fun z => nomatch z
    refine for_tup (K := K) (a := p) (xs := [.int 1, .int 2, .int 3, .int 4]) (fun i σ H' => ∃ x2 x3 x4 x5 x6 x7 x8 x9 x10, σ = [some (.ref a), some (.ref b), x2, x3, x4, x5, x6, x7, x8, x9, x10, none, none] ∧ Drew b H2 H')
      ⟨none, none, none, none, none, none, none, none, none, rfl, Drew.refl hb2⟩ (fun i σ H' _ ⟨_, _, _, _, _, _, _, _, _, _, d⟩ => .inl (.inl (d.but _ _ nbp ep))) ?_ ?_
    · rintro i y σ H3 hy ⟨x2, x3, x4, x5, x6, x7, x8, x9, x10, rfl, d3⟩
      obtain ⟨m, rfl, m1, m4⟩ : ∃ m : Nat, y = V.int m ∧ 1 ≤ m ∧ m ≤ 4 := by
        have w := List.mem_of_getElem? hy
        simp only [List.mem_cons, List.not_mem_nil, or_false] at w
        rcases w with rfl | rfl | rfl | rfl
        · exact ⟨1, rfl, by decide, by decide⟩
        · exact ⟨2, rfl, by decide, by decide⟩
        · exact ⟨3, rfl, by decide, by decide⟩
        · exact ⟨4, rfl, by decide, by decide⟩
      refine ⟨by show 0 ≤ sizeLine; exact Nat.zero_le _, fun L nL => ?_⟩
      have hb3 := d3.bag
      have nLb : L ≠ b := hb3.ne nL
      have d4 : Drew b H2 (upd H3 L (.lst [])) := d3.same (same_new nL)
      have eL : upd H3 L (.lst []) L = some (.lst []) := upd_same
      have s34 := same_new (o := .lst []) nL
      generalize upd H3 L (.lst []) = H4 at d4 eL s34 ⊢
      refine ⟨.int (m : Nat), rfl, .int (m : Nat), rfl, m, m, rfl, m4, m4, fun f H5 as nf s5 eF ra => ⟨f, rfl, ⟨_, SqL.of eF⟩, ?_⟩⟩
      have nfL : f ≠ L := (ne_of_none eL nf).symm
      have eL5 := s5 _ _ eL
      have lra := ra.len
      have d5 := d4.same s5
      -- the rows, one behind another
      refine for_list (K := K) (a := f) (xs := as.map V.ref) (fun j σ H' => ∃ (cs : List Addr) (z5 z7 z8 : Option V), σ = [some (.ref a), some (.ref b), some (.int (m : Nat)), x3, some (.ref L), z5, x6, z7, z8, x9, x10, none, none] ∧ But L H5 H' ∧ H' L = some (.lst (cs.map V.ref)) ∧ CA K T.C_Clock.C H' cs (valids ((rowsOf m m).take j)))
        ⟨[], x5, x7, x8, rfl, But.refl L H5, eL5, .nil⟩ (fun j σ H' _ ⟨_, _, _, _, _, bt, _⟩ => SqL.of (bt _ _ nfL eF)) ?_ ?_
      · rintro j y σ H6 hy ⟨cs, z5, z7, z8, rfl, bt, eL6, ca⟩
        have hj : j < as.length := by
          have z := (List.getElem?_eq_some_iff.mp hy).1
          rwa [List.length_map] at z
        have hj2 : j < (rowsOf m m).length := lra ▸ hj
        rw [List.getElem?_map, List.getElem?_eq_getElem hj] at hy
        cases hy
        obtain ⟨_, e5⟩ := ra.at_ j hj hj2
        obtain ⟨rl, fit⟩ := rowsOf_mem m m _ (List.getElem_mem hj2)
        have vin := fun v => valids_in hj2 v
        have vout := fun v => valids_out hj2 v
        generalize (rowsOf m m)[j] = r at e5 rl fit vin vout
        generalize as[j] = ad at e5 ⊢
        have adL : ad ≠ L := by
          rintro rfl
          rw [eL5] at e5
          have z := congrArg List.length (V_lst_inj e5)
          rw [iv_len, List.length_nil] at z
          omega
        have e6 := bt _ _ adL e5
        have pos : 0 < r.length := by omega
        have top : r.length ≤ 48 := by omega
        have fit' : ∀ x ∈ r, 1 ≤ x ∧ x ≤ r.length := by rw [rl]; exact fit
        refine ⟨fun σ' H' => ∃ v, σ' = [some (.ref a), some (.ref b), some (.int (m : Nat)), x3, some (.ref L), some (.ref ad), x6, some v, z8, x9, x10, none, none] ∧ Same H6 H' ∧ ((v = .non ∧ ¬ Clk.Valid r) ∨ ∃ c, v = .ref c ∧ Clk.Valid r ∧ ClkAt K T.C_Clock.C H' c r), ?_, ?_⟩
        · exact ⟨.ref ad, rfl, ad, r, rfl, .inl (SqL.of e6), pos, top, fit', fun hv c H7 nc s7 hC => ⟨_, rfl, s7, .inr ⟨c, rfl, hv, hC⟩⟩, fun hn H7 s7 => ⟨_, rfl, s7, .inl ⟨rfl, hn⟩⟩⟩
        · rintro σ' H7 ⟨v, rfl, s7, hvv⟩
          have e7 := s7 _ _ e6
          refine ⟨.ref ad, rfl, ad, iv r, rfl, SqL.of e7, fun D nD => ?_⟩
          refine lc_enumL (K := K) (fun i => .int ((i : Int) + Clk.S r i)) (by decide) (SqL.of e7) nD (by rw [iv_len]; omega) (fun i hi H' R sm kk => ?_) (fun H8 s8 e8 => ?_)
          · have hi' : i < r.length := by rwa [iv_len] at hi
            have ei : (iv r)[i] = V.int (Clk.S r i) := by rw [List.getElem_map, Clk.S_get hi']
            rw [ei]
            exact ⟨_, rfl, _, rfl, _, _, rfl, rfl, kk _ (Same.refl _)⟩
          have e78 := s8 _ _ e7
          refine ⟨.int (m : Nat), rfl, .ref ad, rfl, ad, iv r, 0, .int (Clk.S r 0), rfl, rfl, SqL.of e78, at_hour (by omega) (by omega), _, _, rfl, rfl, (by show 1 ≤ sizeLine; decide), fun q2 nq2 => ?_⟩
          have s9 := same_new (o := .lst [.int ((m : Int) + Clk.S r 0)]) nq2
          refine ⟨D, q2, _, _, rfl, rfl, s9 _ _ e8, upd_same, ?_, fun p3 np3 => ?_⟩
          · rw [List.length_map, List.length_range, iv_len]
            exact small_line' (by simp; omega)
          have ee : (List.range (iv r).length).map (fun i : Nat => V.int ((i : Int) + Clk.S r i)) ++ [V.int ((m : Int) + Clk.S r 0)] = iv (endsOf r) := by
            rw [iv_len, range_row r.length fun x => x + Clk.S r x, ← ends_text pos, rl]
            unfold iv
            rw [List.map_append]
            rfl
          have e3 : upd (upd H8 q2 (.lst [.int ((m : Int) + Clk.S r 0)])) p3 (.lst ((List.range (iv r).length).map (fun i : Nat => V.int ((i : Int) + Clk.S r i)) ++ [V.int ((m : Int) + Clk.S r 0)])) p3 = some (.lst (iv (endsOf r))) := by rw [upd_same, ee]
          have s10 : Same H7 (upd (upd H8 q2 (.lst [.int ((m : Int) + Clk.S r 0)])) p3 (.lst ((List.range (iv r).length).map (fun i : Nat => V.int ((i : Int) + Clk.S r i)) ++ [V.int ((m : Int) + Clk.S r 0)]))) := (s8.trans s9).trans (same_new np3)
          dsimp only
          generalize upd (upd H8 q2 (.lst [.int ((m : Int) + Clk.S r 0)])) p3 (.lst ((List.range (iv r).length).map (fun i : Nat => V.int ((i : Int) + Clk.S r i)) ++ [V.int ((m : Int) + Clk.S r 0)])) = H9 at e3 s10 ⊢
          have e9 := s10 _ _ e7
          have se : (endsOf r).length < 64 := by
            unfold endsOf
            rw [Clk.row_len]
            omega
          rcases hvv with ⟨rfl, hn⟩ | ⟨c, rfl, hv, hC⟩
          · refine ⟨.non, rfl, rfl, .ref ad, rfl, ad, r, rfl, SqL.of e9, pos, top, fit', fun hv => absurd hv hn, fun _ H10 s11 => ⟨rfl, _, rfl, ?_⟩⟩
            refine iteF ⟨.non, rfl, rfl, .ref p3, rfl, .ref p3, rfl, p3, endsOf r, rfl, SqL.of (s11 _ _ e3), se, fun xs p4 hp hs n4 => ?_⟩
            have en : PyData.eqv (dI (endsOf r)) (dI xs) = false := by
              rw [eqv_I]
              exact decide_eq_false fun z => hn (valid_of_ends pos top fit' ((sorted_iff hp hs).mp z))
            have s12 := s11.trans (same_new (o := .lst (iv xs)) n4)
            refine ⟨dI (endsOf r), dI xs, Dp.ints (SqL.of (s12 _ _ e3)), Dp.ints (SqL.of upd_same), shaped_I _, shaped_I _, rfl, _, rfl, ?_⟩
            rw [en]
            refine iteF ⟨.non, rfl, rfl, _, rfl, iteF ?_⟩
            have bt2 : But L H6 (upd H10 p4 (.lst (iv xs))) := But.of ((s7.trans s10).trans s12)
            refine ⟨cs, _, _, _, rfl, bt.trans bt2, ((s7.trans s10).trans s12) _ _ eL6, ?_⟩
            rw [vout hn]
            exact ca.imp fun c v h => h.same ((s7.trans s10).trans s12)
          · refine ⟨.ref c, rfl, rfl, .ref ad, rfl, ad, r, rfl, SqL.of e9, pos, top, fit', fun _ H10 s11 => ⟨rfl, _, rfl, ?_⟩, fun hn => absurd hv hn⟩
            refine iteF ⟨.ref c, rfl, rfl, .ref p3, rfl, .ref p3, rfl, p3, endsOf r, rfl, SqL.of (s11 _ _ e3), se, fun xs p4 hp hs n4 => ?_⟩
            have en : PyData.eqv (dI (endsOf r)) (dI xs) = true := by
              rw [eqv_I]
              exact decide_eq_true ((sorted_iff hp hs).mpr (ends_pair hv))
            have s12 := s11.trans (same_new (o := .lst (iv xs)) n4)
            refine ⟨dI (endsOf r), dI xs, Dp.ints (SqL.of (s12 _ _ e3)), Dp.ints (SqL.of upd_same), shaped_I _, shaped_I _, rfl, _, rfl, ?_⟩
            rw [en]
            refine iteF ⟨.ref c, rfl, rfl, _, rfl, iteT ?_⟩
            have sA := (s7.trans s10).trans s12
            have sB := s10.trans s12
            have lc : cs.length < sizeLine := by
              have z : (valids ((rowsOf m m).take j)).length ≤ (rowsOf m m).length := Nat.le_trans (List.length_filter_le _ _) (by rw [List.length_take]; omega)
              rw [rowsOf_len, ← ca.len] at z
              have z2 : m ^ m ≤ 256 := by
                have w : m = 1 ∨ m = 2 ∨ m = 3 ∨ m = 4 := by omega
                rcases w with rfl | rfl | rfl | rfl <;> decide
              exact small_line (by omega)
            refine ⟨.ref L, rfl, .inl ⟨rfl, _, SqL.of (sA _ _ eL6)⟩, .ref c, rfl, L, _, _, rfl, rfl, sA _ _ eL6, by rw [List.length_map]; exact lc, ?_⟩
            have e7L := s7 _ _ eL6
            generalize upd H10 p4 (.lst (iv xs)) = H11 at sA sB s12 ⊢
            have bt2 : But L H6 (upd H11 L (.lst (cs.map V.ref ++ [.ref c]))) := (But.of sA).upd
            have bt3 : But L H7 (upd H11 L (.lst (cs.map V.ref ++ [.ref c]))) := (But.of sB).upd
            refine ⟨cs ++ [c], _, _, _, rfl, bt.trans bt2, by rw [upd_same, List.map_append]; rfl, ?_⟩
            rw [vin hv]
            exact (ca.imp fun c v h => h.but ⟨_, eL6⟩ bt2).snoc (hC.but ⟨_, e7L⟩ bt3)
      · rintro σ H6 ⟨cs, z5, z7, z8, rfl, bt, eL6, ca⟩
        have d6 : Drew b H2 H6 := d3.past nL (s34.trans s5) bt
        rw [List.length_map, lra, List.take_length] at ca
        have mem : ∀ r : List Int, r.length = m → Clk.Valid r → r ∈ valids (rowsOf m m) := fun r hl hv => valids_mem.mpr ⟨rowsOf_all m m r hl fun x hx => hl ▸ hv.mem hx, hv⟩
        have vmem : ∀ r, r ∈ valids (rowsOf m m) → r.length = m ∧ Clk.Valid r := fun r hr => ⟨(rowsOf_mem m m r (valids_mem.mp hr).1).1, (valids_mem.mp hr).2⟩
        have small : (valids (rowsOf m m)).length ≤ 256 := by
          have z : (valids (rowsOf m m)).length ≤ (rowsOf m m).length := List.length_filter_le _ _
          rw [rowsOf_len] at z
          have z2 : m ^ m ≤ 256 := by
            have w : m = 1 ∨ m = 2 ∨ m = 3 ∨ m = 4 := by omega
            rcases w with rfl | rfl | rfl | rfl <;> decide
          omega
        have some1 : 0 < (valids (rowsOf m m)).length := List.length_pos_of_mem (mem (List.replicate m 1) (List.length_replicate ..) (Clk.even_valid (by omega) (by omega) (by decide) (by omega)))
        generalize valids (rowsOf m m) = vs at ca mem vmem small some1
        have lcs := ca.len
        refine ⟨.ref L, rfl, L, rfl, ⟨_, SqL.of eL6⟩, fun D nD => ?_⟩
        have nDb : D ≠ b := d6.bag.ne nD
        refine lc_newL (K := K) (a := L) (xs := cs.map V.ref) (fun i => .lst (iv (vs.getD i []))) (SqL.of eL6) nD (by rw [List.length_map]; omega) (fun i hi H R sm kk => ?_) (fun H7 bs s7 eD lb eb => ?_)
        · rw [List.length_map] at hi
          rw [List.getElem_map]
          have hi2 : i < vs.length := by omega
          have hC := (ca.at_ i hi hi2).same sm
          obtain ⟨dx, t, h1, h2⟩ := hC.ex
          rw [List.getD_eq_getElem?_getD, List.getElem?_eq_getElem hi2] at kk
          exact ⟨_, rfl, cs[i], dx, _, rfl, h1, rfl, cs[i], vs[i], rfl, hC, fun l nl => kk _ l (same_new nl) nl upd_same⟩
        rw [List.length_map] at lb
        have ca7 := ca.imp fun c v h => ClkAt.same h s7
        have eL7 := s7 _ _ eL6
        have d7 := d6.same s7
        have eb' : ∀ k (h : k < bs.length) (h2 : k < vs.length), SqL K H7 bs[k] (iv vs[k]) := fun k h h2 => by
          have z := eb k h
          rw [List.getD_eq_getElem?_getD, List.getElem?_eq_getElem h2] at z
          exact SqL.of z
        have dpK : ∀ H', Same H7 H' → Dp K H' (.ref D) (dL vs) := fun H' sm => dp_L (SqL.of (sm _ _ eD)) (by omega) fun k h h2 => sm.seq (eb' k h h2)
        have shL : SeqAt.shaped (dL vs) = true := shaped_list fun d hd => by
          obtain ⟨r, _, rfl⟩ := List.mem_map.mp hd
          exact ⟨lay_I r, Nat.le_trans (dep_I r) (by decide)⟩
        have known : ∀ r : List Int, r.length = m → Clk.Valid r → (!(vs.map dI).any fun z => PyData.eqv z (dI r)) = false := fun r hl hv => by
          rw [List.any_eq_true.mpr ⟨dI r, List.mem_map.mpr ⟨r, mem r hl hv, rfl⟩, by rw [eqv_I]; exact decide_eq_true rfl⟩]
          rfl
        refine ⟨.ref L, rfl, L, rfl, ⟨_, SqL.of eL7⟩, for_list (K := K) (a := L) (xs := cs.map V.ref) (fun j σ H' => ∃ y7, σ = [some (.ref a), some (.ref b), some (.int (m : Nat)), x3, some (.ref L), z5, some (.ref D), y7, z8, x9, x10, none, none] ∧ Same H7 H')
          ⟨z7, rfl, Same.refl _⟩ (fun j σ H' _ ⟨_, _, sm⟩ => sm.seq (SqL.of eL7)) ?_ ?_⟩
        · rintro j y σ H8 hy ⟨y7, rfl, s8⟩
          have hj : j < cs.length := by
            have z := (List.getElem?_eq_some_iff.mp hy).1
            rwa [List.length_map] at z
          have hj2 : j < vs.length := by omega
          rw [List.getElem?_map, List.getElem?_eq_getElem hj] at hy
          cases hy
          have hC := (ca7.at_ j hj hj2).same s8
          obtain ⟨vl, vv⟩ := vmem vs[j] (List.getElem_mem hj2)
          generalize vs[j] = v at hC vl vv
          generalize cs[j] = c at hC ⊢
          obtain ⟨dx, t, h1, h2⟩ := hC.ex
          refine ⟨.ref c, rfl, c, dx, _, rfl, h1, rfl, c, v, 1, rfl, hC, fun r H9 nr s9 hR => ?_⟩
          obtain ⟨dr, tr, g1, g2⟩ := hR.ex
          refine ⟨r, dr, _, rfl, g1, rfl, r, Clk.trn v 1, rfl, hR, fun l nl => ⟨.ref D, rfl, ?_⟩⟩
          have s10 := s9.trans (same_new (o := .lst (iv (Clk.trn v 1))) nl)
          refine ⟨dI (Clk.trn v 1), vs.map dI, Dp.ints (SqL.of upd_same), dpK _ (s8.trans s10), shaped_I _, shL, _, rfl, ?_⟩
          rw [known _ (by rw [Clk.trn_len]; exact vl) (Clk.valid_trn vv 1)]
          refine iteF ?_
          refine ⟨.ref c, rfl, c, dx, _, rfl, s10 _ _ h1, rfl, c, v, rfl, hC.same s10, fun r' H11 nr' s11 hR' => ?_⟩
          obtain ⟨dr', tr', g1', g2'⟩ := hR'.ex
          refine ⟨r', dr', _, rfl, g1', rfl, r', Clk.mir v, rfl, hR', fun l' nl' => ⟨.ref D, rfl, ?_⟩⟩
          have s12 := (s10.trans s11).trans (same_new (o := .lst (iv (Clk.mir v))) nl')
          refine ⟨dI (Clk.mir v), vs.map dI, Dp.ints (SqL.of upd_same), dpK _ (s8.trans s12), shaped_I _, shL, _, rfl, ?_⟩
          rw [known _ (by rw [Clk.mir_len]; exact vl) (Clk.valid_mir vv)]
          exact iteF ⟨_, rfl, s8.trans s12⟩
        · rintro σ H8 ⟨y7, rfl, s8⟩
          have d8 := d7.same s8
          have ca8 := ca7.imp fun c v h => ClkAt.same h s8
          have eL8 := s8 _ _ eL7
          refine ⟨.ref b, rfl, .ref L, rfl, b, L, cs.map V.ref, rfl, d8.bag, SqL.of eL8, nLb, by rw [List.length_map]; omega, by rw [List.length_map]; omega, fun H9 i1 hi1 d9 => ?_⟩
          refine ⟨.ref b, rfl, .ref L, rfl, b, L, cs.map V.ref, rfl, d9.bag, SqL.of (d9.but _ _ nLb eL8), nLb, by rw [List.length_map]; omega, by rw [List.length_map]; omega, fun H10 i2 hi2 d10 => ⟨_, _, rfl, ?_⟩⟩
          rw [List.length_map] at hi1 hi2
          rw [List.getElem_map, List.getElem_map]
          have hC1 := ((ca8.at_ i1 hi1 (by omega)).drew d8.bag d9).drew d9.bag d10
          have hC2 := ((ca8.at_ i2 hi2 (by omega)).drew d8.bag d9).drew d9.bag d10
          generalize vs[i1]'(by omega) = v1 at hC1
          generalize vs[i2]'(by omega) = v2 at hC2
          generalize cs[i1] = c1 at hC1 ⊢
          generalize cs[i2] = c2 at hC2 ⊢
          obtain ⟨dx1, t1, h1, _⟩ := hC1.ex
          obtain ⟨dx2, t2, h2, _⟩ := hC2.ex
          refine ⟨.ref c1, rfl, .ref c2, rfl, c1, c2, _, _, _, _, rfl, rfl, h1, h2, c1, c2, v1, v2, rfl, hC1, hC2, _, rfl, ?_⟩
          refine ⟨_, rfl, c1, _, _, rfl, h1, rfl, c1, v1, rfl, hC1, fun l1 nl1 => ?_⟩
          have s11 := same_new (o := .lst (iv v1)) nl1
          refine ⟨_, rfl, c2, _, _, rfl, s11 _ _ h2, rfl, c2, v2, rfl, hC2.same s11, fun l2 nl2 => ?_⟩
          have s12 := same_new (o := .lst (iv v2)) nl2
          refine ⟨dI v1, dI v2, Dp.ints (SqL.of (s12 _ _ upd_same)), Dp.ints (SqL.of upd_same), shaped_I _, shaped_I _, rfl, _, rfl, ?_⟩
          rw [eqv_I]
          show if (!decide (V.bl (decide (v1 = v2)) = V.bl (decide (v1 = v2)))) = true then _ else _
          rw [decide_eq_true rfl]
          refine iteF ?_
          exact ⟨_, _, _, _, _, _, _, _, _, rfl, ((d8.trans d9).trans d10).same (s11.trans s12)⟩
    · rintro σ H3 ⟨x2, x3, x4, x5, x6, x7, x8, x9, x10, rfl, d3⟩
      refine ⟨20, rfl, by decide, by decide, ?_⟩
      refine for_range (n := 20) (fun i σ H' => ∃ y3 y5 y7, σ = [some (.ref a), some (.ref b), x2, y3, x4, y5, x6, y7, x8, x9, x10, none, none] ∧ Bag H' b)
        ⟨_, _, _, rfl, d3.bag⟩ ?_ (fun σ H' _ => q H')
      rintro t σ H4 ht ⟨y3, y5, y7, rfl, hb4⟩
      refine ⟨5, rfl, by decide, by decide, fun D nD => ?_⟩
      refine lc_drawR (n := 5) (fun _ v => 1 ≤ v ∧ v ≤ 5) hb4 nD (by decide) (fun i hi H R d kk => ?_) (fun H5 r d5 e5 l5 pv => ?_)
      · exact ⟨.ref b, rfl, b, 5, rfl, d.bag, by decide, by decide, fun H4 v d4 v0 v1 => ⟨_, _, rfl, rfl, kk _ _ d4 ⟨by omega, by omega⟩⟩⟩
      have fit : ∀ x ∈ r, 1 ≤ x ∧ x ≤ r.length := fun x hx => by
        obtain ⟨k, hk, rfl⟩ := List.getElem_of_mem hx
        have := pv k hk
        rw [l5]
        exact this
      have pos : 0 < r.length := by omega
      have top : r.length ≤ 48 := by omega
      refine ⟨fun σ' H' => ∃ v, σ' = [some (.ref a), some (.ref b), x2, some (.int (0 + (t : Int))), x4, some (.ref D), x6, some v, x8, x9, x10, none, none] ∧ Same H5 H' ∧ ((v = .non ∧ ¬ Clk.Valid r) ∨ ∃ c, v = .ref c ∧ Clk.Valid r ∧ ClkAt K T.C_Clock.C H' c r), ?_, ?_⟩
      · exact ⟨.ref D, rfl, D, r, rfl, .inl (SqL.of e5), pos, top, fit, fun hv c H7 nc s7 hC => ⟨_, rfl, s7, .inr ⟨c, rfl, hv, hC⟩⟩, fun hn H7 s7 => ⟨_, rfl, s7, .inl ⟨rfl, hn⟩⟩⟩
      · rintro σ' H7 ⟨v, rfl, s7, hvv⟩
        have e7 := s7 _ _ e5
        have hb7 := d5.bag.same s7
        rcases hvv with ⟨rfl, hn⟩ | ⟨c, rfl, hv, hC⟩
        · refine ⟨.non, rfl, rfl, .ref D, rfl, D, r, rfl, SqL.of e7, pos, top, fit, fun hv => absurd hv hn, fun _ H10 s11 => ⟨rfl, _, rfl, ?_⟩⟩
          exact iteF ⟨.non, rfl, rfl, _, rfl, iteF ⟨_, _, _, rfl, hb7.same s11⟩⟩
        · refine ⟨.ref c, rfl, rfl, .ref D, rfl, D, r, rfl, SqL.of e7, pos, top, fit, fun _ H10 s11 => ⟨rfl, _, rfl, ?_⟩, fun hn => absurd hv hn⟩
          have hC1 := hC.same s11
          obtain ⟨dx1, t1, h1, _⟩ := hC1.ex
          refine iteF ⟨.ref c, rfl, rfl, _, rfl, iteT ⟨_, rfl, c, _, _, rfl, h1, rfl, c, r, rfl, hC1, fun l1 nl1 => ?_⟩⟩
          have s12 := same_new (o := .lst (iv r)) nl1
          refine ⟨.ref D, rfl, dI r, dI r, Dp.ints (SqL.of upd_same), Dp.ints (SqL.of (s12 _ _ (s11 _ _ e7))), shaped_I _, shaped_I _, _, rfl, ?_⟩
          rw [ne_same (shaped_I _)]
          exact iteF ⟨_, _, _, rfl, hb7.same (s11.trans s12)⟩

end
end Hn
namespace Hn
open PySem L2
theorem all_mk {l : PySem.W.OpenLaw} {w : World} {K : PySem.W.Frag} {h : Heap} {mg : Str → Option Value} {fa C_NeedError C_Overtaken C_Clock f_lbag f_lall_rows f_is_row f_is_integer f_is_from_one f_are_stays f_Overtaken_init f_check_nobody_overtaken f_Clock_init f_ltried f_lhas_gaps f_Clock_stays f_turned_row f_Clock_turned f_Clock_hours p_Clock_hours f_width f_Clock_widths f_Clock_mirrored f_ltake f_lone f_Clock_eq f_law : Addr} (X : K.In h) (G : h.Ns mainGlobals mg) (hfa : mg "law" = some (.ref fa))
    {od0 an0 od1 an1 od2 an2 od3 an3 od4 an4 od5 an5 od6 an6 od7 an7 od8 an8 od9 an9 od10 an10 od11 an11 od12 an12 od13 an13 od14 an14 od15 an15 od16 an16 od17 an17 od18 an18 od19 an19 od20 an20 od21 an21 : Option Addr} {sl0 sl1 sl2 sl3 sl4 sl5 sl6 sl7 sl8 sl9 sl10 sl11 sl12 sl13 sl14 sl15 sl16 sl17 sl18 sl19 sl20 sl21 : Array (Option Value)} {oc0 kV0 dc0 pm0 cd0 ct0 oc1 kV1 dc1 pm1 cd1 ct1 oc2 kV2 dc2 pm2 cd2 ct2 oc3 kV3 dc3 pm3 cd3 ct3 oc4 kV4 dc4 pm4 cd4 ct4 oc5 kV5 dc5 pm5 cd5 ct5 oc6 kV6 dc6 pm6 cd6 ct6 oc7 kV7 dc7 pm7 cd7 ct7 oc8 kV8 dc8 pm8 cd8 ct8 oc9 kV9 dc9 pm9 cd9 ct9 oc10 kV10 dc10 pm10 cd10 ct10 oc11 kV11 dc11 pm11 cd11 ct11 oc12 kV12 dc12 pm12 cd12 ct12 oc13 kV13 dc13 pm13 cd13 ct13 oc14 kV14 dc14 pm14 cd14 ct14 oc15 kV15 dc15 pm15 cd15 ct15 oc16 kV16 dc16 pm16 cd16 ct16 oc17 kV17 dc17 pm17 cd17 ct17 oc18 kV18 dc18 pm18 cd18 ct18 oc19 kV19 dc19 pm19 cd19 ct19 oc20 kV20 dc20 pm20 cd20 ct20 oc21 kV21 dc21 pm21 cd21 ct21 : Value}
    (g_NeedError : PySem.W.nsIn K mainGlobals "NeedError" = some (some (.ref C_NeedError)))
    (g_Overtaken : PySem.W.nsIn K mainGlobals "Overtaken" = some (some (.ref C_Overtaken)))
    {nm_Overtaken q_Overtaken : Str} {N_Overtaken : Addr} {bs_Overtaken : List Value} {sn_Overtaken : List Str} {sub_Overtaken : List Value} {ab_Overtaken : Bool} {col_Overtaken : Option Bool} {dd_Overtaken : Option Addr} {m0_Overtaken m1_Overtaken m2_Overtaken m3_Overtaken m5_Overtaken : Option Value}
    (xL_Overtaken : K.lookup C_Overtaken = some (PySem.excClassObj nm_Overtaken q_Overtaken C_Overtaken N_Overtaken bs_Overtaken [(.ref C_NeedError), .type "ValueError", .type "Exception", .type "BaseException", .type "object"] true sn_Overtaken sub_Overtaken ab_Overtaken col_Overtaken dd_Overtaken m0_Overtaken m1_Overtaken m2_Overtaken m3_Overtaken m5_Overtaken "ValueError.__new__"))
    (sa_Overtaken : PySem.W.findIn K (.ref C_Overtaken) "__setattr__" = some (some (.builtin "object.__setattr__")))
    (eC_Overtaken : PySem.W.subIn K (.ref C_Overtaken) (.type "BaseException") = some true)
    (tC_Overtaken : PySem.W.typeIn K (.ref C_Overtaken) = some (.type "type"))
    (kC_Overtaken : PySem.W.keepIn K (.ref C_Overtaken) = true)
    (g_Clock : PySem.W.nsIn K mainGlobals "Clock" = some (some (.ref C_Clock)))
    (pg_Clock : PySem.W.plainGet K C_Clock Str.empty = true)
    (hd_Clock : PySem.W.hasDictIn K C_Clock = true)
    (po_Clock : PySem.W.plainOver K C_Clock = true)
    (sa_Clock : PySem.W.findIn K (.ref C_Clock) "__setattr__" = some (some (.builtin "object.__setattr__")))
    (ms_Clock : PySem.W.makesIn K C_Clock = true)
    (kc_Clock : PySem.W.keepIn K (.ref C_Clock) = true)
    (a0 : PySem.W.nsIn K mainGlobals "_law_bag" = some (some (.ref f_lbag)))
    (l0 : K.lookup f_lbag = some ⟨oc0, od0, .func (PySem.W.fnOf "_law_bag" "_law_bag" (defArgs s_lbag) (defBody s_lbag) (defScope s_lbag) .none kV0 dc0 pm0 an0 cd0 ct0), sl0⟩)
    (c0 : PySem.W.codeIn K cd0 "_law_bag" = true)
    (k0 : PySem.W.keepIn K (.ref f_lbag) = true)
    (a1 : PySem.W.nsIn K mainGlobals "_law_all_rows" = some (some (.ref f_lall_rows)))
    (l1 : K.lookup f_lall_rows = some ⟨oc1, od1, .func (PySem.W.fnOf "_law_all_rows" "_law_all_rows" (defArgs s_lall_rows) (defBody s_lall_rows) (defScope s_lall_rows) .none kV1 dc1 pm1 an1 cd1 ct1), sl1⟩)
    (c1 : PySem.W.codeIn K cd1 "_law_all_rows" = true)
    (k1 : PySem.W.keepIn K (.ref f_lall_rows) = true)
    (a2 : PySem.W.nsIn K mainGlobals "is_row" = some (some (.ref f_is_row)))
    (l2 : K.lookup f_is_row = some ⟨oc2, od2, .func (PySem.W.fnOf "is_row" "is_row" (defArgs s_is_row) (defBody s_is_row) (defScope s_is_row) .none kV2 dc2 pm2 an2 cd2 ct2), sl2⟩)
    (c2 : PySem.W.codeIn K cd2 "is_row" = true)
    (k2 : PySem.W.keepIn K (.ref f_is_row) = true)
    (a3 : PySem.W.nsIn K mainGlobals "is_integer" = some (some (.ref f_is_integer)))
    (l3 : K.lookup f_is_integer = some ⟨oc3, od3, .func (PySem.W.fnOf "is_integer" "is_integer" (defArgs s_is_integer) (defBody s_is_integer) (defScope s_is_integer) .none kV3 dc3 pm3 an3 cd3 ct3), sl3⟩)
    (c3 : PySem.W.codeIn K cd3 "is_integer" = true)
    (k3 : PySem.W.keepIn K (.ref f_is_integer) = true)
    (a4 : PySem.W.nsIn K mainGlobals "_is_from_one" = some (some (.ref f_is_from_one)))
    (l4 : K.lookup f_is_from_one = some ⟨oc4, od4, .func (PySem.W.fnOf "_is_from_one" "_is_from_one" (defArgs s_is_from_one) (defBody s_is_from_one) (defScope s_is_from_one) .none kV4 dc4 pm4 an4 cd4 ct4), sl4⟩)
    (c4 : PySem.W.codeIn K cd4 "_is_from_one" = true)
    (k4 : PySem.W.keepIn K (.ref f_is_from_one) = true)
    (a5 : PySem.W.nsIn K mainGlobals "_are_stays" = some (some (.ref f_are_stays)))
    (l5 : K.lookup f_are_stays = some ⟨oc5, od5, .func (PySem.W.fnOf "_are_stays" "_are_stays" (defArgs s_are_stays) (defBody s_are_stays) (defScope s_are_stays) .none kV5 dc5 pm5 an5 cd5 ct5), sl5⟩)
    (c5 : PySem.W.codeIn K cd5 "_are_stays" = true)
    (k5 : PySem.W.keepIn K (.ref f_are_stays) = true)
    (a6 : PySem.W.findIn K (.ref C_Overtaken) "__init__" = some (some (.ref f_Overtaken_init)))
    (t6 : PySem.W.typeIn K (.ref f_Overtaken_init) = some (.type "function"))
    (l6 : K.lookup f_Overtaken_init = some ⟨oc6, od6, .func (PySem.W.fnOf "__init__" "Overtaken.__init__" (defArgs s_Overtaken_init) (defBody s_Overtaken_init) (defScope s_Overtaken_init) .none kV6 dc6 pm6 an6 cd6 ct6), sl6⟩)
    (c6 : PySem.W.codeIn K cd6 "Overtaken.__init__" = true)
    (k6 : PySem.W.keepIn K (.ref f_Overtaken_init) = true)
    (a7 : PySem.W.nsIn K mainGlobals "_check_nobody_overtaken" = some (some (.ref f_check_nobody_overtaken)))
    (l7 : K.lookup f_check_nobody_overtaken = some ⟨oc7, od7, .func (PySem.W.fnOf "_check_nobody_overtaken" "_check_nobody_overtaken" (defArgs s_check_nobody_overtaken) (defBody s_check_nobody_overtaken) (defScope s_check_nobody_overtaken) .none kV7 dc7 pm7 an7 cd7 ct7), sl7⟩)
    (c7 : PySem.W.codeIn K cd7 "_check_nobody_overtaken" = true)
    (k7 : PySem.W.keepIn K (.ref f_check_nobody_overtaken) = true)
    (a8 : PySem.W.findIn K (.ref C_Clock) "__init__" = some (some (.ref f_Clock_init)))
    (i8 : PySem.W.isFn K (.ref f_Clock_init) = true)
    (l8 : K.lookup f_Clock_init = some ⟨oc8, od8, .func (PySem.W.fnOf "__init__" "Clock.__init__" (defArgs s_Clock_init) (defBody s_Clock_init) (defScope s_Clock_init) .none kV8 dc8 pm8 an8 cd8 ct8), sl8⟩)
    (c8 : PySem.W.codeIn K cd8 "Clock.__init__" = true)
    (k8 : PySem.W.keepIn K (.ref f_Clock_init) = true)
    (a9 : PySem.W.nsIn K mainGlobals "_law_tried" = some (some (.ref f_ltried)))
    (l9 : K.lookup f_ltried = some ⟨oc9, od9, .func (PySem.W.fnOf "_law_tried" "_law_tried" (defArgs s_ltried) (defBody s_ltried) (defScope s_ltried) .none kV9 dc9 pm9 an9 cd9 ct9), sl9⟩)
    (c9 : PySem.W.codeIn K cd9 "_law_tried" = true)
    (k9 : PySem.W.keepIn K (.ref f_ltried) = true)
    (a10 : PySem.W.nsIn K mainGlobals "_law_has_gaps" = some (some (.ref f_lhas_gaps)))
    (l10 : K.lookup f_lhas_gaps = some ⟨oc10, od10, .func (PySem.W.fnOf "_law_has_gaps" "_law_has_gaps" (defArgs s_lhas_gaps) (defBody s_lhas_gaps) (defScope s_lhas_gaps) .none kV10 dc10 pm10 an10 cd10 ct10), sl10⟩)
    (c10 : PySem.W.codeIn K cd10 "_law_has_gaps" = true)
    (k10 : PySem.W.keepIn K (.ref f_lhas_gaps) = true)
    (a11 : PySem.W.findIn K (.ref C_Clock) "stays" = some (some (.ref f_Clock_stays)))
    (i11 : PySem.W.isFn K (.ref f_Clock_stays) = true)
    (l11 : K.lookup f_Clock_stays = some ⟨oc11, od11, .func (PySem.W.fnOf "stays" "Clock.stays" (defArgs s_Clock_stays) (defBody s_Clock_stays) (defScope s_Clock_stays) .none kV11 dc11 pm11 an11 cd11 ct11), sl11⟩)
    (c11 : PySem.W.codeIn K cd11 "Clock.stays" = true)
    (k11 : PySem.W.keepIn K (.ref f_Clock_stays) = true)
    (a12 : PySem.W.nsIn K mainGlobals "turned_row" = some (some (.ref f_turned_row)))
    (l12 : K.lookup f_turned_row = some ⟨oc12, od12, .func (PySem.W.fnOf "turned_row" "turned_row" (defArgs s_turned_row) (defBody s_turned_row) (defScope s_turned_row) .none kV12 dc12 pm12 an12 cd12 ct12), sl12⟩)
    (c12 : PySem.W.codeIn K cd12 "turned_row" = true)
    (k12 : PySem.W.keepIn K (.ref f_turned_row) = true)
    (a13 : PySem.W.findIn K (.ref C_Clock) "turned" = some (some (.ref f_Clock_turned)))
    (i13 : PySem.W.isFn K (.ref f_Clock_turned) = true)
    (l13 : K.lookup f_Clock_turned = some ⟨oc13, od13, .func (PySem.W.fnOf "turned" "Clock.turned" (defArgs s_Clock_turned) (defBody s_Clock_turned) (defScope s_Clock_turned) .none kV13 dc13 pm13 an13 cd13 ct13), sl13⟩)
    (c13 : PySem.W.codeIn K cd13 "Clock.turned" = true)
    (k13 : PySem.W.keepIn K (.ref f_Clock_turned) = true)
    (a14 : PySem.W.findIn K (.ref C_Clock) "hours" = some (some (.ref p_Clock_hours)))
    (q14 : PySem.W.specialIn K (.ref p_Clock_hours) "__get__" = some (some (.builtin "property.__get__")))
    (t14 : PySem.W.takesIn K (.ref p_Clock_hours) = some true)
    {rest14 : List Value}
    (r14 : PySem.W.recIn K p_Clock_hours "property" = some (.ref f_Clock_hours :: rest14))
    (l14 : K.lookup f_Clock_hours = some ⟨oc14, od14, .func (PySem.W.fnOf "hours" "Clock.hours" (defArgs s_Clock_hours) (defBody s_Clock_hours) (defScope s_Clock_hours) .none kV14 dc14 pm14 an14 cd14 ct14), sl14⟩)
    (c14 : PySem.W.codeIn K cd14 "Clock.hours" = true)
    (k14 : PySem.W.keepIn K (.ref f_Clock_hours) = true)
    (a15 : PySem.W.nsIn K mainGlobals "_width" = some (some (.ref f_width)))
    (l15 : K.lookup f_width = some ⟨oc15, od15, .func (PySem.W.fnOf "_width" "_width" (defArgs s_width) (defBody s_width) (defScope s_width) .none kV15 dc15 pm15 an15 cd15 ct15), sl15⟩)
    (c15 : PySem.W.codeIn K cd15 "_width" = true)
    (k15 : PySem.W.keepIn K (.ref f_width) = true)
    (a16 : PySem.W.findIn K (.ref C_Clock) "widths" = some (some (.ref f_Clock_widths)))
    (i16 : PySem.W.isFn K (.ref f_Clock_widths) = true)
    (l16 : K.lookup f_Clock_widths = some ⟨oc16, od16, .func (PySem.W.fnOf "widths" "Clock.widths" (defArgs s_Clock_widths) (defBody s_Clock_widths) (defScope s_Clock_widths) .none kV16 dc16 pm16 an16 cd16 ct16), sl16⟩)
    (c16 : PySem.W.codeIn K cd16 "Clock.widths" = true)
    (k16 : PySem.W.keepIn K (.ref f_Clock_widths) = true)
    (a17 : PySem.W.findIn K (.ref C_Clock) "mirrored" = some (some (.ref f_Clock_mirrored)))
    (i17 : PySem.W.isFn K (.ref f_Clock_mirrored) = true)
    (l17 : K.lookup f_Clock_mirrored = some ⟨oc17, od17, .func (PySem.W.fnOf "mirrored" "Clock.mirrored" (defArgs s_Clock_mirrored) (defBody s_Clock_mirrored) (defScope s_Clock_mirrored) .none kV17 dc17 pm17 an17 cd17 ct17), sl17⟩)
    (c17 : PySem.W.codeIn K cd17 "Clock.mirrored" = true)
    (k17 : PySem.W.keepIn K (.ref f_Clock_mirrored) = true)
    (a18 : PySem.W.nsIn K mainGlobals "_law_take" = some (some (.ref f_ltake)))
    (l18 : K.lookup f_ltake = some ⟨oc18, od18, .func (PySem.W.fnOf "_law_take" "_law_take" (defArgs s_ltake) (defBody s_ltake) (defScope s_ltake) .none kV18 dc18 pm18 an18 cd18 ct18), sl18⟩)
    (c18 : PySem.W.codeIn K cd18 "_law_take" = true)
    (k18 : PySem.W.keepIn K (.ref f_ltake) = true)
    (a19 : PySem.W.nsIn K mainGlobals "_law_one" = some (some (.ref f_lone)))
    (l19 : K.lookup f_lone = some ⟨oc19, od19, .func (PySem.W.fnOf "_law_one" "_law_one" (defArgs s_lone) (defBody s_lone) (defScope s_lone) .none kV19 dc19 pm19 an19 cd19 ct19), sl19⟩)
    (c19 : PySem.W.codeIn K cd19 "_law_one" = true)
    (k19 : PySem.W.keepIn K (.ref f_lone) = true)
    (a20 : PySem.W.findIn K (.ref C_Clock) "__eq__" = some (some (.ref f_Clock_eq)))
    (i20 : PySem.W.isFn K (.ref f_Clock_eq) = true)
    (l20 : K.lookup f_Clock_eq = some ⟨oc20, od20, .func (PySem.W.fnOf "__eq__" "Clock.__eq__" (defArgs s_Clock_eq) (defBody s_Clock_eq) (defScope s_Clock_eq) .none kV20 dc20 pm20 an20 cd20 ct20), sl20⟩)
    (c20 : PySem.W.codeIn K cd20 "Clock.__eq__" = true)
    (k20 : PySem.W.keepIn K (.ref f_Clock_eq) = true)
    (a21 : PySem.W.nsIn K mainGlobals "law" = some (some (.ref f_law)))
    (l21 : K.lookup f_law = some ⟨oc21, od21, .func (PySem.W.fnOf "law" "law" (defArgs s_law) (defBody s_law) (defScope s_law) .none kV21 dc21 pm21 an21 cd21 ct21), sl21⟩)
    (c21 : PySem.W.codeIn K cd21 "law" = true)
    (k21 : PySem.W.keepIn K (.ref f_law) = true)
    (neB : PySem.W.subIn K (.ref C_NeedError) (.type "BaseException") = some true)
    (neI : PySem.W.isClsIn K C_NeedError = true)
    (neT : PySem.W.typeIn K (.ref C_NeedError) = some (.type "type"))
    (xh_Overtaken : PySem.W.findIn K (.ref C_Overtaken) "hour" = some none)
    (xs_Overtaken : PySem.W.subIn K (.ref C_Overtaken) (.ref C_NeedError) = some true)
    (na_Clock__stays : PySem.W.findIn K (.ref C_Clock) "_stays" = some none)
    (xic_Clock : PySem.W.findIn K (.ref C_Clock) "__class__" = some (some (.builtin "object.__class__")))
    (xig_Clock : PySem.W.specialIn K (.builtin "object.__class__") "__get__" = some (some (.builtin "getset_descriptor.__get__")))
    (xit_Clock : PySem.W.takesIn K (.builtin "object.__class__") = some true)
    (xob_Clock : PySem.W.mroIn K C_Clock (.type "object") = some true)
    (xne_Clock : PySem.W.findIn K (.ref C_Clock) "__ne__" = some (some (.builtin "object.__ne__")))
    {tc_MOST_HOURS : Tok}
    (k_MOST_HOURS : PySem.W.nsIn K mainGlobals "MOST_HOURS" = some (some (.int 48 tc_MOST_HOURS)))
    (z_len : PySem.W.nsIn K mainGlobals "len" = some none)
    (z_range : PySem.W.nsIn K mainGlobals "range" = some none)
    (z_abs : PySem.W.nsIn K mainGlobals "abs" = some none)
    (z_int : PySem.W.nsIn K mainGlobals "int" = some none)
    (z_bool : PySem.W.nsIn K mainGlobals "bool" = some none)
    (z_list : PySem.W.nsIn K mainGlobals "list" = some none)
    (z_tuple : PySem.W.nsIn K mainGlobals "tuple" = some none)
    (z_isinstance : PySem.W.nsIn K mainGlobals "isinstance" = some none)
    (z_all : PySem.W.nsIn K mainGlobals "all" = some none)
    (z_enumerate : PySem.W.nsIn K mainGlobals "enumerate" = some none)
    (z_sorted : PySem.W.nsIn K mainGlobals "sorted" = some none)
    (z_iter : PySem.W.nsIn K mainGlobals "iter" = some none) :
    ∃ fd : FuncData, (∀ (s : Shared) (v : Value), BindsTo s fd ⟨[v], []⟩ [("_law_script", v)]) ∧ ∀ base : Heap, K.In base → base.Ns mainGlobals mg → FnOk l.prog w K mg base CX0 7 fa fd ["_law_script"] (spLaw K) := by
  have e := hfa.symm.trans (PySem.W.mg_of X G a21)
  cases e
  have F0 := fun_mk (st := s_lbag) l0 c0 k0
  have F1 := fun_mk (st := s_lall_rows) l1 c1 k1
  have F2 := fun_mk (st := s_is_row) l2 c2 k2
  have F3 := fun_mk (st := s_is_integer) l3 c3 k3
  have F4 := fun_mk (st := s_is_from_one) l4 c4 k4
  have F5 := fun_mk (st := s_are_stays) l5 c5 k5
  have F6 := fun_mk (st := s_Overtaken_init) l6 c6 k6
  have F7 := fun_mk (st := s_check_nobody_overtaken) l7 c7 k7
  have F8 := fun_mk (st := s_Clock_init) l8 c8 k8
  have F9 := fun_mk (st := s_ltried) l9 c9 k9
  have F10 := fun_mk (st := s_lhas_gaps) l10 c10 k10
  have F11 := fun_mk (st := s_Clock_stays) l11 c11 k11
  have F12 := fun_mk (st := s_turned_row) l12 c12 k12
  have F13 := fun_mk (st := s_Clock_turned) l13 c13 k13
  have F14 := fun_mk (st := s_Clock_hours) l14 c14 k14
  have F15 := fun_mk (st := s_width) l15 c15 k15
  have F16 := fun_mk (st := s_Clock_widths) l16 c16 k16
  have F17 := fun_mk (st := s_Clock_mirrored) l17 c17 k17
  have F18 := fun_mk (st := s_ltake) l18 c18 k18
  have F19 := fun_mk (st := s_lone) l19 c19 k19
  have F20 := fun_mk (st := s_Clock_eq) l20 c20 k20
  have F21 := fun_mk (st := s_law) l21 c21 k21
  let T : Env K mg := {
    C_NeedError := ⟨C_NeedError, PySem.W.mg_of X G g_NeedError⟩
    C_Overtaken := ⟨C_Overtaken, PySem.W.mg_of X G g_Overtaken⟩
    x_Overtaken := ⟨⟨_, _, _, _, _, _, _, _, _, _, _, _, _, _, _, xL_Overtaken, rfl⟩, sa_Overtaken, eC_Overtaken, tC_Overtaken, kC_Overtaken⟩
    C_Clock := ⟨C_Clock, ⟨pg_Clock, hd_Clock, po_Clock, sa_Clock⟩, PySem.W.mg_of X G g_Clock⟩
    lbag := ⟨f_lbag, _, F0, PySem.W.mg_of X G a0, (F0.binds (ps := ["_law_script"]) fun _ _ _ _ _ _ us hl => match us, hl with | [_], _ => rfl)⟩
    lall_rows := ⟨f_lall_rows, _, F1, PySem.W.mg_of X G a1, (F1.binds (ps := ["_law_many", "_law_most"]) fun _ _ _ _ _ _ us hl => match us, hl with | [_, _], _ => rfl)⟩
    is_row := ⟨f_is_row, _, F2, PySem.W.mg_of X G a2, (F2.binds (ps := ["thing"]) fun _ _ _ _ _ _ us hl => match us, hl with | [_], _ => rfl)⟩
    is_integer := ⟨f_is_integer, _, F3, PySem.W.mg_of X G a3, (F3.binds (ps := ["thing"]) fun _ _ _ _ _ _ us hl => match us, hl with | [_], _ => rfl)⟩
    is_from_one := ⟨f_is_from_one, _, F4, PySem.W.mg_of X G a4, (F4.binds (ps := ["most", "thing"]) fun _ _ _ _ _ _ us hl => match us, hl with | [_, _], _ => rfl)⟩
    are_stays := ⟨f_are_stays, _, F5, PySem.W.mg_of X G a5, (F5.binds (ps := ["thing"]) fun _ _ _ _ _ _ us hl => match us, hl with | [_], _ => rfl)⟩
    Overtaken_init := ⟨f_Overtaken_init, _, F6, (F6.binds (ps := ["self", "hour"]) fun _ _ _ _ _ _ us hl => match us, hl with | [_, _], _ => rfl)⟩
    i_Overtaken := a6
    t_Overtaken := t6
    check_nobody_overtaken := ⟨f_check_nobody_overtaken, _, F7, PySem.W.mg_of X G a7, (F7.binds (ps := ["stays"]) fun _ _ _ _ _ _ us hl => match us, hl with | [_], _ => rfl)⟩
    Clock_init := ⟨f_Clock_init, _, F8, (F8.binds (ps := ["self", "stays"]) fun _ _ _ _ _ _ us hl => match us, hl with | [_, _], _ => rfl)⟩
    mk_Clock := ⟨ms_Clock, a8, i8, kc_Clock⟩
    ltried := ⟨f_ltried, _, F9, PySem.W.mg_of X G a9, (F9.binds (ps := ["_law_row"]) fun _ _ _ _ _ _ us hl => match us, hl with | [_], _ => rfl)⟩
    lhas_gaps := ⟨f_lhas_gaps, _, F10, PySem.W.mg_of X G a10, (F10.binds (ps := ["_law_row"]) fun _ _ _ _ _ _ us hl => match us, hl with | [_], _ => rfl)⟩
    Clock_stays := ⟨f_Clock_stays, _, F11, (F11.binds (ps := ["self"]) fun _ _ _ _ _ _ us hl => match us, hl with | [_], _ => rfl)⟩
    m_Clock_stays := ⟨a11, i11, k11⟩
    turned_row := ⟨f_turned_row, _, F12, PySem.W.mg_of X G a12, (F12.binds (ps := ["row", "by"]) fun _ _ _ _ _ _ us hl => match us, hl with | [_, _], _ => rfl)⟩
    Clock_turned := ⟨f_Clock_turned, _, F13, (F13.binds (ps := ["self", "by"]) fun _ _ _ _ _ _ us hl => match us, hl with | [_, _], _ => rfl)⟩
    m_Clock_turned := ⟨a13, i13, k13⟩
    Clock_hours := ⟨f_Clock_hours, _, F14, (F14.binds (ps := ["self"]) fun _ _ _ _ _ _ us hl => match us, hl with | [_], _ => rfl)⟩
    p_Clock_hours_p := p_Clock_hours
    p_Clock_hours := ⟨a14, q14, t14, ⟨rest14, r14⟩⟩
    width := ⟨f_width, _, F15, PySem.W.mg_of X G a15, (F15.binds (ps := ["stays", "hour"]) fun _ _ _ _ _ _ us hl => match us, hl with | [_, _], _ => rfl)⟩
    Clock_widths := ⟨f_Clock_widths, _, F16, (F16.binds (ps := ["self"]) fun _ _ _ _ _ _ us hl => match us, hl with | [_], _ => rfl)⟩
    m_Clock_widths := ⟨a16, i16, k16⟩
    Clock_mirrored := ⟨f_Clock_mirrored, _, F17, (F17.binds (ps := ["self"]) fun _ _ _ _ _ _ us hl => match us, hl with | [_], _ => rfl)⟩
    m_Clock_mirrored := ⟨a17, i17, k17⟩
    ltake := ⟨f_ltake, _, F18, PySem.W.mg_of X G a18, (F18.binds (ps := ["_law_bag_here", "_law_upto"]) fun _ _ _ _ _ _ us hl => match us, hl with | [_, _], _ => rfl)⟩
    lone := ⟨f_lone, _, F19, PySem.W.mg_of X G a19, (F19.binds (ps := ["_law_bag_here", "_law_some"]) fun _ _ _ _ _ _ us hl => match us, hl with | [_, _], _ => rfl)⟩
    Clock_eq := ⟨f_Clock_eq, _, F20, (F20.binds (ps := ["self", "other"]) fun _ _ _ _ _ _ us hl => match us, hl with | [_, _], _ => rfl)⟩
    m_Clock_eq := ⟨a20, i20, k20⟩
    law := ⟨fa, _, F21, PySem.W.mg_of X G a21, (F21.binds (ps := ["_law_script"]) fun _ _ _ _ _ _ us hl => match us, hl with | [_], _ => rfl)⟩
    h_Overtaken := xh_Overtaken
    e_Overtaken := exm_sub neB neI neT xs_Overtaken
    n_Clock__stays := na_Clock__stays
    ic_Clock := xic_Clock
    ig_Clock := xig_Clock
    it_Clock := xit_Clock
    ob_Clock := xob_Clock
    ne_Clock := xne_Clock
    t_MOST_HOURS := tc_MOST_HOURS
    c_MOST_HOURS := PySem.W.mg_of X G k_MOST_HOURS
    n_len := PySem.W.mg_none_of X G z_len
    n_range := PySem.W.mg_none_of X G z_range
    n_abs := PySem.W.mg_none_of X G z_abs
    n_int := PySem.W.mg_none_of X G z_int
    n_bool := PySem.W.mg_none_of X G z_bool
    n_list := PySem.W.mg_none_of X G z_list
    n_tuple := PySem.W.mg_none_of X G z_tuple
    n_isinstance := PySem.W.mg_none_of X G z_isinstance
    n_all := PySem.W.mg_none_of X G z_all
    n_enumerate := PySem.W.mg_none_of X G z_enumerate
    n_sorted := PySem.W.mg_none_of X G z_sorted
    n_iter := PySem.W.mg_none_of X G z_iter }
  exact ⟨T.law.fd, fun s v => .of_eq rfl, fun base _ _ => ok_law T⟩
end Hn
open PySem PySem.W PyProof.Rows in
set_option maxRecDepth 100000 in
set_option maxHeartbeats 0 in
theorem PySem.Challenge.cw_hourneeds_k18_whole_small_clocks_holds : PySem.Challenge.rw_hourneeds_k18_whole_small_clocks.Holds := by
  w_on; o_law; k_head; (case hw => w_witness2)
  k_fill
  refine L2.walk_of (l := PySem.Challenge.rw_hourneeds_k18_whole_small_clocks) (n := 63) (k := 7) (x := "_law_script") (CX := fun _ => L2.CX0) (sp := fun w => Hn.spLaw _) rfl (by decide) rfl ⟨rfl, by decide, by decide⟩ (fun w h Y => PySem.W.kIn_of Y) ?F (fun _ _ a ns hl _ hS => ⟨a, ns, rfl, hS, hl, fun _ => rfl⟩) (fun _ _ _ _ _ h => h)
  case F =>
    intro w mg fa h KX G hmg
    refine' Hn.all_mk KX G hmg ?g_NeedError ?g_Overtaken ?xL_Overtaken ?sa_Overtaken ?eC_Overtaken ?tC_Overtaken ?kC_Overtaken ?g_Clock ?pg_Clock ?hd_Clock ?po_Clock ?sa_Clock ?ms_Clock ?kc_Clock ?a0 ?l0 ?c0 ?k0 ?a1 ?l1 ?c1 ?k1 ?a2 ?l2 ?c2 ?k2 ?a3 ?l3 ?c3 ?k3 ?a4 ?l4 ?c4 ?k4 ?a5 ?l5 ?c5 ?k5 ?a6 ?t6 ?l6 ?c6 ?k6 ?a7 ?l7 ?c7 ?k7 ?a8 ?i8 ?l8 ?c8 ?k8 ?a9 ?l9 ?c9 ?k9 ?a10 ?l10 ?c10 ?k10 ?a11 ?i11 ?l11 ?c11 ?k11 ?a12 ?l12 ?c12 ?k12 ?a13 ?i13 ?l13 ?c13 ?k13 ?a14 ?q14 ?t14 ?r14 ?l14 ?c14 ?k14 ?a15 ?l15 ?c15 ?k15 ?a16 ?i16 ?l16 ?c16 ?k16 ?a17 ?i17 ?l17 ?c17 ?k17 ?a18 ?l18 ?c18 ?k18 ?a19 ?l19 ?c19 ?k19 ?a20 ?i20 ?l20 ?c20 ?k20 ?a21 ?l21 ?c21 ?k21 ?neB ?neI ?neT ?xh_Overtaken ?xs_Overtaken ?na_Clock__stays ?xic_Clock ?xig_Clock ?xit_Clock ?xob_Clock ?xne_Clock ?k_MOST_HOURS ?z_len ?z_range ?z_abs ?z_int ?z_bool ?z_list ?z_tuple ?z_isinstance ?z_all ?z_enumerate ?z_sorted ?z_iter
    (case g_NeedError => k_is)
    (case g_Overtaken => k_is)
    (case xL_Overtaken => k_is)
    (case sa_Overtaken => k_is)
    (case eC_Overtaken => k_is)
    (case tC_Overtaken => k_is)
    (case kC_Overtaken => k_is)
    (case g_Clock => k_is)
    (case pg_Clock => k_is)
    (case hd_Clock => k_is)
    (case po_Clock => k_is)
    (case sa_Clock => k_is)
    (case ms_Clock => k_is)
    (case kc_Clock => k_is)
    (case a0 => k_is)
    (case l0 => k_is)
    (case c0 => k_is)
    (case k0 => k_is)
    (case a1 => k_is)
    (case l1 => k_is)
    (case c1 => k_is)
    (case k1 => k_is)
    (case a2 => k_is)
    (case l2 => k_is)
    (case c2 => k_is)
    (case k2 => k_is)
    (case a3 => k_is)
    (case l3 => k_is)
    (case c3 => k_is)
    (case k3 => k_is)
    (case a4 => k_is)
    (case l4 => k_is)
    (case c4 => k_is)
    (case k4 => k_is)
    (case a5 => k_is)
    (case l5 => k_is)
    (case c5 => k_is)
    (case k5 => k_is)
    (case a6 => k_is)
    (case t6 => k_is)
    (case l6 => k_is)
    (case c6 => k_is)
    (case k6 => k_is)
    (case a7 => k_is)
    (case l7 => k_is)
    (case c7 => k_is)
    (case k7 => k_is)
    (case a8 => k_is)
    (case i8 => k_is)
    (case l8 => k_is)
    (case c8 => k_is)
    (case k8 => k_is)
    (case a9 => k_is)
    (case l9 => k_is)
    (case c9 => k_is)
    (case k9 => k_is)
    (case a10 => k_is)
    (case l10 => k_is)
    (case c10 => k_is)
    (case k10 => k_is)
    (case a11 => k_is)
    (case i11 => k_is)
    (case l11 => k_is)
    (case c11 => k_is)
    (case k11 => k_is)
    (case a12 => k_is)
    (case l12 => k_is)
    (case c12 => k_is)
    (case k12 => k_is)
    (case a13 => k_is)
    (case i13 => k_is)
    (case l13 => k_is)
    (case c13 => k_is)
    (case k13 => k_is)
    (case a14 => k_is)
    (case q14 => k_is)
    (case t14 => k_is)
    (case r14 => k_is)
    (case l14 => k_is)
    (case c14 => k_is)
    (case k14 => k_is)
    (case a15 => k_is)
    (case l15 => k_is)
    (case c15 => k_is)
    (case k15 => k_is)
    (case a16 => k_is)
    (case i16 => k_is)
    (case l16 => k_is)
    (case c16 => k_is)
    (case k16 => k_is)
    (case a17 => k_is)
    (case i17 => k_is)
    (case l17 => k_is)
    (case c17 => k_is)
    (case k17 => k_is)
    (case a18 => k_is)
    (case l18 => k_is)
    (case c18 => k_is)
    (case k18 => k_is)
    (case a19 => k_is)
    (case l19 => k_is)
    (case c19 => k_is)
    (case k19 => k_is)
    (case a20 => k_is)
    (case i20 => k_is)
    (case l20 => k_is)
    (case c20 => k_is)
    (case k20 => k_is)
    (case a21 => k_is)
    (case l21 => k_is)
    (case c21 => k_is)
    (case k21 => k_is)
    (case neB => k_is)
    (case neI => k_is)
    (case neT => k_is)
    (case xh_Overtaken => k_is)
    (case xs_Overtaken => k_is)
    (case na_Clock__stays => k_is)
    (case xic_Clock => k_is)
    (case xig_Clock => k_is)
    (case xit_Clock => k_is)
    (case xob_Clock => k_is)
    (case xne_Clock => k_is)
    (case k_MOST_HOURS => k_is)
    (case z_len => k_is)
    (case z_range => k_is)
    (case z_abs => k_is)
    (case z_int => k_is)
    (case z_bool => k_is)
    (case z_list => k_is)
    (case z_tuple => k_is)
    (case z_isinstance => k_is)
    (case z_all => k_is)
    (case z_enumerate => k_is)
    (case z_sorted => k_is)
    (case z_iter => k_is)
