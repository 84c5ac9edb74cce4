import PyProof.Rows.All
import Wide.All
import OpenK.AllK
import Wide.FinOn
import HandS.ForMost
import HandS.IsInst
import HandS.Style
import HandS.TupAny
import HandS.Property
import HandS.Conv
import HandS.SetFor
import HandS.More
import HandS.Codes
import KE.GoesEnum
import HandS.OwnEq
import PyProof.InstNe
import HandS.OwnIter
import HandS.IterNext
import PyProof.TupleCall
import HandS.Ends
import PyProof.Rows.ReprR
import HandS.ExcInit
import HandS.ExcOwn
import HandS.Exc
import HandS.WordsExc
import HandS.SortInts
import PyProof.Rows.RuleB_bool
import PyProof.FactsAll.bool_2
import HandS.Deep
import KE.KOpsOwn
import PyProof.ListMulAny
import HandS.Zip
import HandS.Wide
import KE.KTupSum
import HandS.Evl
import KE.KOwnIter
import HandS.TupLe
import KE.KDictZip
import HandS.TryOnly
import HandS.TupMul
import HandS.Dict
import HandS.Iter
import HandS.FStr
import HandS.FStrTup
import HandS.Text
import KE.KStateDown
import HandS.Head0
import HandS.Head1
import HandS.Head2
import HandS.HeadHook1
import HandS.HeadHook2
import HandS.Defaults
import HandS.MakeKwOnly
import HandS.RaiseMore
import PySem.Challenge.RW_hourneeds_k40_houses_told
set_option Elab.async false
set_option maxRecDepth 100000
set_option maxHeartbeats 4000000
set_option linter.all false
set_option linter.all false

/-! Clk -/
/-! the mathematics of clocks: stays round about (S), widths (wd), the clock seen from elsewhere and the other way -/
namespace Clk
/-- the stay of hour x, round about -/
def S (ns : List Int) (x : Int) : Int := ns.getD (x % (ns.length : Int)).toNat 0
theorem S_get {ns : List Int} {i : Nat} (h : i < ns.length) : S ns i = ns[i] := by
  have e : ((i : Int) % (ns.length : Int)).toNat = i := by
    rw [Int.emod_eq_of_lt (by omega) (by omega)]
    omega
  unfold S
  rw [e, List.getD_eq_getElem?_getD, List.getElem?_eq_getElem h]
  rfl
theorem S_mod {ns : List Int} {x y : Int} (h : x % (ns.length : Int) = y % (ns.length : Int)) : S ns x = S ns y := by
  unfold S
  rw [h]
theorem S_per {ns : List Int} (x k : Int) : S ns (x + k * ns.length) = S ns x := S_mod (Int.add_mul_emod_self_right x k _)
theorem S_at {ns : List Int} (hp : 0 < ns.length) (x : Int) : ∃ h : (x % (ns.length : Int)).toNat < ns.length, S ns x = ns[(x % (ns.length : Int)).toNat] := by
  have h1 := Int.emod_nonneg x (show (ns.length : Int) ≠ 0 by omega)
  have h2 := Int.emod_lt_of_pos x (show (0 : Int) < ns.length by omega)
  have h : (x % (ns.length : Int)).toNat < ns.length := by omega
  refine ⟨h, ?_⟩
  unfold S
  rw [List.getD_eq_getElem?_getD, List.getElem?_eq_getElem h]
  rfl
structure Valid (ns : List Int) : Prop where
  pos : 0 < ns.length
  top : ns.length ≤ 48
  lo : ∀ x, 1 ≤ S ns x
  hi : ∀ x, S ns x ≤ ns.length
  near : ∀ x, S ns x ≤ S ns (x + 1) + 1
theorem Valid.of {ns : List Int} (p : 0 < ns.length) (t : ns.length ≤ 48) (r : ∀ (i : Nat) (h : i < ns.length), 1 ≤ ns[i] ∧ ns[i] ≤ ns.length) (nr : ∀ (i : Nat), i < ns.length → S ns i ≤ S ns ((i : Int) + 1) + 1) : Valid ns where
  pos := p
  top := t
  lo := fun x => by
    obtain ⟨h, e⟩ := S_at p x
    rw [e]
    exact (r _ h).1
  hi := fun x => by
    obtain ⟨h, e⟩ := S_at p x
    rw [e]
    exact (r _ h).2
  near := fun x => by
    have h1 := Int.emod_nonneg x (show (ns.length : Int) ≠ 0 by omega)
    have h2 := Int.emod_lt_of_pos x (show (0 : Int) < ns.length by omega)
    have q := nr (x % (ns.length : Int)).toNat (by omega)
    have e : (((x % (ns.length : Int)).toNat : Nat) : Int) = x % (ns.length : Int) := by omega
    rw [e] at q
    have e1 : S ns (x % (ns.length : Int)) = S ns x := S_mod (Int.emod_emod_of_dvd x (Int.dvd_refl _))
    have e2 : S ns (x % (ns.length : Int) + 1) = S ns (x + 1) := S_mod (by rw [Int.emod_add_emod])
    rw [e1, e2] at q
    exact q
theorem Valid.mem {ns : List Int} (v : Valid ns) {x : Int} (h : x ∈ ns) : 1 ≤ x ∧ x ≤ ns.length := by
  obtain ⟨i, hi, e⟩ := List.mem_iff_getElem.mp h
  have q := S_get hi
  rw [e] at q
  exact ⟨q ▸ v.lo i, q ▸ v.hi i⟩

/-! ### counting an initial part -/
theorem count_down {p : Nat → Bool} (hd : ∀ b, p (b + 1) = true → p b = true) : ∀ (n b : Nat), b < n → (p b = true ↔ b < (List.range n).countP p)
  | 0, b, h => absurd h (Nat.not_lt_zero _)
  | n + 1, b, h => by
    rw [List.range_succ, List.countP_append]
    have down : ∀ c, p n = true → c ≤ n → p c = true := by
      intro c hn hc
      obtain ⟨d, rfl⟩ := Nat.exists_eq_add_of_le hc
      clear h hc
      induction d with
      | zero => exact hn
      | succ d ih => exact ih (hd _ hn)
    by_cases hn : p n = true
    · have all : (List.range n).countP p = n := by
        have q : (List.range n).countP p = (List.range n).length := List.countP_eq_length.mpr fun a ha => down a hn (by rw [List.mem_range] at ha; omega)
        rw [q, List.length_range]
      have one : List.countP p [n] = 1 := by simp [hn]
      rw [all, one]
      exact ⟨fun _ => h, fun _ => down b hn (by omega)⟩
    · have one : List.countP p [n] = 0 := by simp [hn]
      rw [one, Nat.add_zero]
      by_cases hb : b < n
      · exact count_down hd n b hb
      · have e : b = n := by omega
        subst e
        have le : (List.range b).countP p ≤ b := by
          have := List.countP_le_length (p := p) (l := List.range b)
          rwa [List.length_range] at this
        exact ⟨fun z => absurd z hn, fun z => by omega⟩
theorem same_below {n a c : Nat} (ha : a ≤ n) (hc : c ≤ n) (h : ∀ b, b < n → (b < a ↔ b < c)) : a = c := by
  apply Nat.le_antisymm
  · apply Nat.le_of_not_lt
    intro z
    exact absurd ((h c (by omega)).mp z) (Nat.lt_irrefl _)
  · apply Nat.le_of_not_lt
    intro z
    exact absurd ((h a (by omega)).mpr z) (Nat.lt_irrefl _)

/-! ### widths -/
/-- how many hours the window of hour x has -/
def wd (ns : List Int) (x : Int) : Nat := (List.range ns.length).countP fun b : Nat => decide ((b : Int) < S ns (x - b))
theorem wd_iff {ns : List Int} (v : Valid ns) (x : Int) {b : Nat} (h : b < ns.length) : (b : Int) < S ns (x - b) ↔ b < wd ns x := by
  have q := count_down (p := fun b : Nat => decide ((b : Int) < S ns (x - b))) (fun c hc => by
    have h1 := of_decide_eq_true hc
    have h2 := v.near (x - ((c + 1 : Nat) : Int))
    have e : x - ((c + 1 : Nat) : Int) + 1 = x - (c : Int) := by omega
    rw [e] at h2
    exact decide_eq_true (by omega)) ns.length b h
  exact decide_eq_true_iff.symm.trans q
theorem wd_le (ns : List Int) (x : Int) : wd ns x ≤ ns.length := by
  have := List.countP_le_length (p := fun b : Nat => decide ((b : Int) < S ns (x - b))) (l := List.range ns.length)
  rwa [List.length_range] at this
theorem wd_pos {ns : List Int} (v : Valid ns) (x : Int) : 1 ≤ wd ns x := (wd_iff v x v.pos).mp (by
  have := v.lo (x - ((0 : Nat) : Int))
  show (0 : Int) < _
  omega)
theorem wd_mod {ns : List Int} {x y : Int} (h : x % (ns.length : Int) = y % (ns.length : Int)) : wd ns x = wd ns y := by
  unfold wd
  congr 1
  funext b
  rw [S_mod (x := x - b) (y := y - b) (by rw [Int.sub_emod, h, ← Int.sub_emod])]
theorem wd_next {ns : List Int} (v : Valid ns) (x : Int) : wd ns (x + 1) ≤ wd ns x + 1 := by
  apply Nat.le_of_not_lt
  intro z
  have l := wd_le ns (x + 1)
  have h1 := (wd_iff v (x + 1) (b := wd ns x + 1) (by omega)).mpr z
  have e : x + 1 - ((wd ns x + 1 : Nat) : Int) = x - (wd ns x : Int) := by omega
  rw [e] at h1
  have h2 := (wd_iff v x (b := wd ns x) (by omega)).mp (by omega)
  exact absurd h2 (Nat.lt_irrefl _)
/-- what the loop finds -/
theorem wd_found {ns : List Int} (v : Valid ns) (x : Int) {w : Nat} (h1 : 1 ≤ w) (h2 : w ≤ ns.length) (all : ∀ b, b < w → (b : Int) < S ns (x - b)) (out : ¬ (w : Int) < S ns (x - w)) : wd ns x = w := by
  refine same_below (wd_le ns x) h2 fun b hb => ?_
  rw [← wd_iff v x hb]
  refine ⟨fun z => ?_, fun z => all b z⟩
  apply Nat.lt_of_not_le
  intro hwb
  by_cases hw : w < ns.length
  · have := (wd_iff v x hb).mp z
    exact out ((wd_iff v x hw).mpr (by omega))
  · omega

/-! ### a list of n items, by a function of the hour -/
def row (n : Nat) (f : Int → Int) : List Int := (List.range n).map fun i : Nat => f (i : Int)
theorem row_len (n : Nat) (f : Int → Int) : (row n f).length = n := by
  unfold row
  rw [List.length_map, List.length_range]
theorem row_get {n : Nat} {f : Int → Int} {i : Nat} (h : i < n) : (row n f)[i]? = some (f i) := by
  unfold row
  rw [List.getElem?_map, List.getElem?_range h]
  rfl
theorem S_row {n : Nat} {f : Int → Int} (hn : 0 < n) (x : Int) : S (row n f) x = f (x % (n : Int)) := by
  have h1 := Int.emod_nonneg x (show (n : Int) ≠ 0 by omega)
  have h2 := Int.emod_lt_of_pos x (show (0 : Int) < n by omega)
  unfold S
  rw [row_len, List.getD_eq_getElem?_getD, row_get (by omega)]
  have e : (((x % (n : Int)).toNat : Nat) : Int) = x % (n : Int) := by omega
  rw [e]
  rfl
theorem row_eq {ns : List Int} : ns = row ns.length (S ns) := by
  apply List.ext_getElem?
  intro i
  by_cases h : i < ns.length
  · rw [row_get h, S_get h, List.getElem?_eq_getElem h]
  · rw [List.getElem?_eq_none (by omega), List.getElem?_eq_none (by rw [row_len]; omega)]
theorem row_congr {n : Nat} {f g : Int → Int} (h : ∀ i : Nat, i < n → f i = g i) : row n f = row n g := by
  unfold row
  apply List.map_congr_left
  intro i hi
  exact h i (List.mem_range.mp hi)

/-! ### the other way, and from elsewhere -/
def widths (ns : List Int) : List Int := row ns.length fun x => (wd ns x : Int)
def mir (ns : List Int) : List Int := row ns.length fun x => (wd ns (-1 - x) : Int)
def trn (ns : List Int) (k : Int) : List Int := row ns.length fun x => S ns (x + k)
theorem S_mir {ns : List Int} (hp : 0 < ns.length) (x : Int) : S (mir ns) x = wd ns (-1 - x) := by
  unfold mir
  rw [S_row hp]
  show ((wd ns (-1 - x % (ns.length : Int)) : Nat) : Int) = _
  rw [wd_mod (x := -1 - x % (ns.length : Int)) (y := -1 - x) (by rw [Int.sub_emod, Int.emod_emod_of_dvd x (Int.dvd_refl _), ← Int.sub_emod])]
theorem mir_len (ns : List Int) : (mir ns).length = ns.length := row_len _ _
theorem trn_len (ns : List Int) (k : Int) : (trn ns k).length = ns.length := row_len _ _
theorem widths_len (ns : List Int) : (widths ns).length = ns.length := row_len _ _
theorem S_trn {ns : List Int} (hp : 0 < ns.length) (k x : Int) : S (trn ns k) x = S ns (x + k) := by
  unfold trn
  rw [S_row hp]
  exact S_mod (by rw [Int.emod_add_emod])
theorem valid_trn {ns : List Int} (v : Valid ns) (k : Int) : Valid (trn ns k) where
  pos := by rw [trn_len]; exact v.pos
  top := by rw [trn_len]; exact v.top
  lo := fun x => by rw [S_trn v.pos]; exact v.lo _
  hi := fun x => by rw [S_trn v.pos, trn_len]; exact v.hi _
  near := fun x => by
    rw [S_trn v.pos, S_trn v.pos, show x + 1 + k = x + k + 1 by omega]
    exact v.near _
theorem valid_mir {ns : List Int} (v : Valid ns) : Valid (mir ns) where
  pos := by rw [mir_len]; exact v.pos
  top := by rw [mir_len]; exact v.top
  lo := fun x => by
    rw [S_mir v.pos]
    have := wd_pos v (-1 - x)
    omega
  hi := fun x => by
    rw [S_mir v.pos, mir_len]
    have := wd_le ns (-1 - x)
    omega
  near := fun x => by
    rw [S_mir v.pos, S_mir v.pos]
    have := wd_next v (-1 - (x + 1))
    rw [show -1 - (x + 1) + 1 = -1 - x by omega] at this
    omega
theorem wd_trn {ns : List Int} (v : Valid ns) (k x : Int) : wd (trn ns k) x = wd ns (x + k) := by
  refine same_below (n := ns.length) (by have := wd_le (trn ns k) x; rwa [trn_len] at this) (wd_le ns _) fun b hb => ?_
  rw [← wd_iff (valid_trn v k) x (by rw [trn_len]; exact hb), ← wd_iff v (x + k) hb, S_trn v.pos, show x - (b : Int) + k = x + k - b by omega]
theorem wd_mir {ns : List Int} (v : Valid ns) (x : Int) : (wd (mir ns) x : Int) = S ns (-1 - x) := by
  have h1 := v.lo (-1 - x)
  have h2 := v.hi (-1 - x)
  have e : wd (mir ns) x = (S ns (-1 - x)).toNat := by
    refine same_below (n := ns.length) (by have := wd_le (mir ns) x; rwa [mir_len] at this) (by omega) fun b hb => ?_
    rw [← wd_iff (valid_mir v) x (by rw [mir_len]; exact hb), S_mir v.pos, show -1 - (x - (b : Int)) = -1 - x + b by omega]
    have q := wd_iff v (-1 - x + b) hb
    rw [show -1 - x + (b : Int) - b = -1 - x by omega] at q
    omega
  omega
theorem mir_mir {ns : List Int} (v : Valid ns) : mir (mir ns) = ns := by
  have e : mir (mir ns) = row ns.length (S ns) := by
    unfold mir
    rw [row_len]
    refine row_congr fun i hi => ?_
    show ((wd (mir ns) (-1 - (i : Int)) : Nat) : Int) = _
    rw [wd_mir v, show -1 - (-1 - (i : Int)) = i by omega]
  rw [e]
  exact row_eq.symm
theorem row_reverse (n : Nat) (f : Int → Int) : (row n f).reverse = row n fun x => f ((n : Int) - 1 - x) := by
  apply List.ext_getElem?
  intro i
  by_cases h : i < n
  · rw [List.getElem?_reverse (by rw [row_len]; exact h), row_get h, row_len, row_get (by omega)]
    congr 2
    omega
  · rw [List.getElem?_eq_none (by rw [List.length_reverse, row_len]; omega), List.getElem?_eq_none (by rw [row_len]; omega)]
theorem widths_rev {ns : List Int} : (widths ns).reverse = mir ns := by
  unfold widths mir
  rw [row_reverse]
  refine row_congr fun i hi => ?_
  show ((wd ns ((ns.length : Int) - 1 - i) : Nat) : Int) = _
  rw [wd_mod (x := (ns.length : Int) - 1 - i) (y := -1 - i) (by
    rw [show (ns.length : Int) - 1 - i = -1 - i + (1 : Int) * ns.length by omega, Int.add_mul_emod_self_right])]
/-- a clock handed on in two parts -/
theorem cut_trn {ns : List Int} (hp : 0 < ns.length) (k : Int) : ns.drop (k % (ns.length : Int)).toNat ++ ns.take (k % (ns.length : Int)).toNat = trn ns k := by
  have h1 := Int.emod_nonneg k (show (ns.length : Int) ≠ 0 by omega)
  have h2 := Int.emod_lt_of_pos k (show (0 : Int) < ns.length by omega)
  generalize hc : (k % (ns.length : Int)).toNat = c
  have hcl : c < ns.length := by omega
  have hck : (k % (ns.length : Int)) = (c : Int) := by omega
  apply List.ext_getElem?
  intro i
  by_cases h : i < ns.length
  · unfold trn
    rw [row_get h]
    by_cases h3 : i < ns.length - c
    · rw [List.getElem?_append_left (by rw [List.length_drop]; exact h3), List.getElem?_drop, List.getElem?_eq_getElem (by omega), ← S_get (by omega)]
      congr 1
      refine S_mod ?_
      rw [Int.add_emod (i : Int) k, hck, show ((c + i : Nat) : Int) = (i : Int) + c by omega, Int.add_emod (i : Int) c, Int.emod_eq_of_lt (a := (c : Int)) (by omega) (by omega)]
    · rw [List.getElem?_append_right (by rw [List.length_drop]; omega), List.length_drop, List.getElem?_take, if_pos (by omega), List.getElem?_eq_getElem (by omega), ← S_get (by omega)]
      congr 1
      refine S_mod ?_
      have e : (i : Int) + c = ((i - (ns.length - c) : Nat) : Int) + 1 * ns.length := by omega
      rw [Int.add_emod (i : Int) k, hck]
      have e2 := Int.add_mul_emod_self_right ((i - (ns.length - c) : Nat) : Int) 1 (ns.length : Int)
      rw [← e] at e2
      rw [← e2, Int.add_emod (i : Int) c, Int.emod_eq_of_lt (a := (c : Int)) (by omega) (by omega)]
  · rw [List.getElem?_eq_none (by rw [List.length_append, List.length_drop, List.length_take]; omega), List.getElem?_eq_none (by rw [trn_len]; omega)]
end Clk
namespace Clk
/-- the hours that one serves who begins at i; the hours of the window of i -/
def served (ns : List Int) (i : Int) : List Int := row (S ns i).toNat fun k => (i + k) % (ns.length : Int)
def serving (ns : List Int) (i : Int) : List Int := row (wd ns i) fun k => (i - wd ns i + 1 + k) % (ns.length : Int)
theorem served_len {ns : List Int} (v : Valid ns) (i : Int) : ((served ns i).length : Int) = S ns i := by
  have := v.lo i
  unfold served
  rw [row_len]
  omega
theorem serving_len (ns : List Int) (i : Int) : (serving ns i).length = wd ns i := row_len _ _
end Clk
namespace Clk
/-- the least of a row -/
def least : List Int → Int
  | [] => 0
  | [x] => x
  | x :: y :: r => min x (least (y :: r))
theorem least_mem : ∀ (l : List Int), l ≠ [] → least l ∈ l
  | [], h => absurd rfl h
  | [x], _ => List.mem_singleton.mpr rfl
  | x :: y :: r, _ => by
    have ih := least_mem (y :: r) (List.cons_ne_nil _ _)
    show min x (least (y :: r)) ∈ x :: y :: r
    rcases Int.le_total x (least (y :: r)) with h | h
    · rw [Int.min_eq_left h]
      exact List.mem_cons_self ..
    · rw [Int.min_eq_right h]
      exact List.mem_cons_of_mem _ ih
theorem least_le : ∀ (l : List Int) (z : Int), z ∈ l → least l ≤ z
  | [], z, h => nomatch h
  | [x], z, h => by
    rw [List.mem_singleton.mp h]
    exact Int.le_refl _
  | x :: y :: r, z, h => by
    show min x (least (y :: r)) ≤ z
    rcases List.mem_cons.mp h with rfl | h
    · exact Int.min_le_left _ _
    · exact Int.le_trans (Int.min_le_right _ _) (least_le (y :: r) z h)
theorem least_is {l : List Int} {m : Int} (h1 : m ∈ l) (h2 : ∀ y ∈ l, m ≤ y) : m = least l :=
  Int.le_antisymm (h2 _ (least_mem l (List.ne_nil_of_mem h1))) (least_le l m h1)
/-- stays made of any numbers: the least of what is drawn ahead, plus how far ahead -/
def made (ds : List Int) (x : Int) : Int := least (row ds.length fun a => S ds (x + a) + a)
theorem mem_row {n : Nat} {f : Int → Int} {z : Int} : z ∈ row n f ↔ ∃ i : Nat, i < n ∧ f i = z := by
  unfold row
  rw [List.mem_map]
  exact ⟨fun ⟨i, h, e⟩ => ⟨i, List.mem_range.mp h, e⟩, fun ⟨i, h, e⟩ => ⟨i, List.mem_range.mpr h, e⟩⟩
theorem made_mod {ds : List Int} {x y : Int} (h : x % (ds.length : Int) = y % (ds.length : Int)) : made ds x = made ds y := by
  unfold made
  congr 1
  refine row_congr fun i _ => ?_
  show S ds (x + i) + i = S ds (y + i) + i
  rw [S_mod (x := x + i) (y := y + i) (by rw [Int.add_emod, h, ← Int.add_emod])]
theorem made_valid {ds : List Int} (p : 0 < ds.length) (t : ds.length ≤ 48) (r : ∀ x, 1 ≤ S ds x ∧ S ds x ≤ ds.length) : Valid (row ds.length (made ds)) := by
  have lo : ∀ x, 1 ≤ made ds x := fun x => by
    have ne : row ds.length (fun a => S ds (x + a) + a) ≠ [] := fun z => by
      have := congrArg List.length z
      rw [row_len, List.length_nil] at this
      omega
    obtain ⟨i, _, e⟩ := mem_row.mp (least_mem _ ne)
    have := (r (x + i)).1
    unfold made
    rw [← e]
    omega
  have le0 : ∀ x, made ds x ≤ S ds x := fun x => by
    have := least_le (row ds.length (fun a => S ds (x + a) + a)) (S ds (x + ((0 : Nat) : Int)) + ((0 : Nat) : Int)) (mem_row.mpr ⟨0, p, rfl⟩)
    have e : x + ((0 : Nat) : Int) = x := by omega
    rw [e] at this
    unfold made
    omega
  have per : ∀ x, S (row ds.length (made ds)) x = made ds x := fun x => by
    rw [S_row p]
    exact made_mod (Int.emod_emod_of_dvd x (Int.dvd_refl _))
  refine ⟨by rw [row_len]; exact p, by rw [row_len]; exact t, fun x => by rw [per]; exact lo x, fun x => ?_, fun x => ?_⟩
  · rw [per, row_len]
    exact Int.le_trans (le0 x) (r x).2
  · rw [per, per]
    have ne : row ds.length (fun a => S ds (x + 1 + a) + a) ≠ [] := fun z => by
      have := congrArg List.length z
      rw [row_len, List.length_nil] at this
      omega
    obtain ⟨i, hi, e⟩ := mem_row.mp (least_mem _ ne)
    have e' : made ds (x + 1) = S ds (x + 1 + i) + i := e.symm
    by_cases h : i + 1 < ds.length
    · have := least_le (row ds.length (fun a => S ds (x + a) + a)) (S ds (x + ((i + 1 : Nat) : Int)) + ((i + 1 : Nat) : Int)) (mem_row.mpr ⟨i + 1, h, rfl⟩)
      have e2 : x + ((i + 1 : Nat) : Int) = x + 1 + i := by omega
      rw [e2] at this
      rw [e']
      unfold made
      omega
    · have e2 : x + 1 + (i : Int) = x + (1 : Int) * ds.length := by omega
      rw [e', e2, S_per]
      have := le0 x
      omega
/-- one stay for all hours -/
theorem even_valid {n : Nat} {c : Int} (p : 0 < n) (t : n ≤ 48) (h1 : 1 ≤ c) (h2 : c ≤ n) : Valid (List.replicate n c) := by
  have e : ∀ x, S (List.replicate n c) x = c := fun x => by
    obtain ⟨h, e⟩ := S_at (ns := List.replicate n c) (by rw [List.length_replicate]; exact p) x
    rw [e, List.getElem_replicate]
  refine ⟨by rw [List.length_replicate]; exact p, by rw [List.length_replicate]; exact t, fun x => by rw [e]; exact h1, fun x => by rw [e, List.length_replicate]; exact h2, fun x => by rw [e, e]; omega⟩
end Clk
namespace Clk
theorem serving_rev (ns : List Int) (i : Int) : (row (wd ns i) fun k => (i - k) % (ns.length : Int)).reverse = serving ns i := by
  unfold serving
  rw [row_reverse]
  refine row_congr fun k _ => ?_
  show (i - ((wd ns i : Int) - 1 - k)) % (ns.length : Int) = (i - wd ns i + 1 + k) % (ns.length : Int)
  rw [show i - ((wd ns i : Int) - 1 - k) = i - wd ns i + 1 + k by omega]
end Clk

/-! Clk2 -/
/-! sums of stays and of widths; who serves whom; the clock the other way -/
namespace Clk
def Sum : Nat → (Int → Int) → Int
  | 0, _ => 0
  | n + 1, f => Sum n f + f n
theorem sum_row (n : Nat) (f : Int → Int) : (row n f).sum = Sum n f := by
  induction n with
  | zero => rfl
  | succ n ih =>
    have e : row (n + 1) f = row n f ++ [f n] := by
      unfold row
      rw [List.range_succ, List.map_append]
      rfl
    rw [e, List.sum_append, ih]
    show Sum n f + (f n + 0) = Sum n f + f n
    omega
theorem Sum_congr : ∀ {n : Nat} {f g : Int → Int}, (∀ i : Nat, i < n → f i = g i) → Sum n f = Sum n g
  | 0, _, _, _ => rfl
  | n + 1, f, g, h => by
    show Sum n f + f n = Sum n g + g n
    rw [Sum_congr fun i hi => h i (Nat.lt_succ_of_lt hi), h n (Nat.lt_succ_self n)]
theorem Sum_add : ∀ (n : Nat) (f g : Int → Int), Sum n (fun x => f x + g x) = Sum n f + Sum n g
  | 0, _, _ => rfl
  | n + 1, f, g => by
    show Sum n (fun x => f x + g x) + (f n + g n) = Sum n f + f n + (Sum n g + g n)
    rw [Sum_add n f g]
    omega
theorem Sum_nil : ∀ n : Nat, Sum n (fun _ => 0) = 0
  | 0 => rfl
  | n + 1 => by
    show Sum n (fun _ => 0) + 0 = 0
    rw [Sum_nil n]
    rfl
theorem Sum_swap (m : Nat) (f : Int → Int → Int) : ∀ n : Nat, Sum n (fun x => Sum m fun b => f x b) = Sum m fun b => Sum n fun x => f x b
  | 0 => (Sum_nil m).symm
  | n + 1 => by
    show Sum n (fun x => Sum m fun b => f x b) + Sum m (fun b => f n b) = Sum m fun b => (Sum n fun x => f x b) + f n b
    rw [Sum_swap m f n, Sum_add]
theorem Sum_one (g : Int → Int) : ∀ n : Nat, Sum n (fun x => g (x - 1)) + g ((n : Int) - 1) = g (-1) + Sum n g
  | 0 => by
    show (0 : Int) + g (((0 : Nat) : Int) - 1) = g (-1) + 0
    rw [show (((0 : Nat) : Int) - 1) = -1 by omega]
    omega
  | n + 1 => by
    have ih := Sum_one g n
    show Sum n (fun x => g (x - 1)) + g ((n : Int) - 1) + g (((n + 1 : Nat) : Int) - 1) = g (-1) + (Sum n g + g n)
    rw [show (((n + 1 : Nat) : Int) - 1) = n by omega]
    omega
theorem Sum_shift {n : Nat} {g : Int → Int} (per : ∀ x, g (x + n) = g x) : ∀ b : Nat, Sum n (fun x => g (x - b)) = Sum n g
  | 0 => Sum_congr fun i _ => by rw [show (i : Int) - ((0 : Nat) : Int) = i by omega]
  | b + 1 => by
    have one := Sum_one (fun x => g (x - b)) n
    have p := per (-1 - b)
    have e : Sum n (fun x => g (x - ((b + 1 : Nat) : Int))) = Sum n (fun x => g (x - 1 - b)) := Sum_congr fun i _ => by rw [show (i : Int) - ((b + 1 : Nat) : Int) = (i : Int) - 1 - b by omega]
    have ih := Sum_shift per b
    have one' : Sum n (fun x => g (x - 1 - b)) + g ((n : Int) - 1 - b) = g (-1 - b) + Sum n (fun x => g (x - b)) := one
    rw [show (n : Int) - 1 - b = -1 - b + n by omega, p] at one'
    rw [e]
    omega
def ind (c : Prop) [Decidable c] : Int := if c then 1 else 0
theorem count_Sum (p : Nat → Bool) : ∀ n : Nat, (((List.range n).countP p : Nat) : Int) = Sum n (fun b => if p b.toNat = true then 1 else 0)
  | 0 => rfl
  | n + 1 => by
    rw [List.range_succ, List.countP_append]
    have ih := count_Sum p n
    show _ = Sum n (fun b => if p b.toNat = true then 1 else 0) + (if p ((n : Int)).toNat = true then 1 else 0)
    rw [Int.toNat_natCast]
    by_cases h : p n = true
    · rw [if_pos h]
      have : List.countP p [n] = 1 := by simp [h]
      omega
    · rw [if_neg h]
      have : List.countP p [n] = 0 := by simp [h]
      omega
theorem Sum_below (c : Int) (h0 : 0 ≤ c) : ∀ n : Nat, Sum n (fun b => if b < c then 1 else 0) = if (n : Int) ≤ c then (n : Int) else c
  | 0 => by
    show (0 : Int) = if (0 : Int) ≤ c then (0 : Int) else c
    rw [if_pos h0]
  | n + 1 => by
    have ih := Sum_below c h0 n
    show Sum n (fun b => if b < c then 1 else 0) + (if (n : Int) < c then 1 else 0) = _
    rw [ih]
    by_cases h1 : (n : Int) < c
    · rw [if_pos (show (n : Int) ≤ c by omega), if_pos h1, if_pos (show ((n + 1 : Nat) : Int) ≤ c by omega)]
      omega
    · rw [if_neg h1, if_neg (show ¬ ((n + 1 : Nat) : Int) ≤ c by omega)]
      by_cases h2 : (n : Int) ≤ c
      · rw [if_pos h2]
        omega
      · rw [if_neg h2]
        omega
theorem sum_widths {ns : List Int} (v : Valid ns) : (widths ns).sum = ns.sum := by
  have e1 : (widths ns).sum = Sum ns.length fun x => Sum ns.length fun b => if b < S ns (x - b) then 1 else 0 := by
    unfold widths
    rw [sum_row]
    refine Sum_congr fun x _ => ?_
    show ((wd ns x : Nat) : Int) = _
    unfold wd
    rw [count_Sum]
    refine Sum_congr fun b _ => ?_
    rw [Int.toNat_natCast]
    by_cases h : (b : Int) < S ns (x - b)
    · rw [if_pos h, if_pos (decide_eq_true h)]
    · rw [if_neg h, if_neg (by rw [decide_eq_false h]; decide)]
  have e2 : ns.sum = Sum ns.length fun x => Sum ns.length fun b => if b < S ns x then 1 else 0 := by
    have z : ns.sum = (row ns.length (S ns)).sum := congrArg List.sum row_eq
    rw [z, sum_row]
    refine Sum_congr fun x _ => ?_
    have h1 := v.lo x
    have h2 := v.hi x
    rw [Sum_below (S ns x) (by omega)]
    by_cases h : (ns.length : Int) ≤ S ns x
    · rw [if_pos h]
      omega
    · rw [if_neg h]
  rw [e1, e2, Sum_swap ns.length (fun x b => if b < S ns (x - b) then 1 else 0) ns.length, Sum_swap ns.length (fun x b => if b < S ns x then 1 else 0) ns.length]
  refine Sum_congr fun b _ => ?_
  exact Sum_shift (g := fun x => if (b : Int) < S ns x then 1 else 0) (fun x => by
    have q := S_per (ns := ns) x 1
    rw [Int.one_mul] at q
    rw [q]) b

/-! ### who serves whom -/
theorem mem_served {ns : List Int} (v : Valid ns) {b h : Int} (h0 : 0 ≤ h) (h1 : h < ns.length) : h ∈ served ns b ↔ (h - b) % (ns.length : Int) < S ns b := by
  have p := v.pos
  have r0 := Int.emod_nonneg (h - b) (show (ns.length : Int) ≠ 0 by omega)
  have r1 := Int.emod_lt_of_pos (h - b) (show (0 : Int) < ns.length by omega)
  have hi := v.hi b
  unfold served
  rw [mem_row]
  constructor
  · rintro ⟨k, hk, e⟩
    have e2 : (h - b) % (ns.length : Int) = k := by
      rw [← e, Int.emod_sub_emod, show b + (k : Int) - b = k by omega]
      exact Int.emod_eq_of_lt (by omega) (by omega)
    omega
  · intro z
    refine ⟨((h - b) % (ns.length : Int)).toNat, by omega, ?_⟩
    rw [show ((((h - b) % (ns.length : Int)).toNat : Nat) : Int) = (h - b) % (ns.length : Int) by omega, Int.add_emod_emod, show b + (h - b) = h by omega]
    exact Int.emod_eq_of_lt h0 h1
theorem mem_serving {ns : List Int} (v : Valid ns) {b h : Int} (b0 : 0 ≤ b) (b1 : b < ns.length) : b ∈ serving ns h ↔ (h - b) % (ns.length : Int) < wd ns h := by
  have p := v.pos
  have r0 := Int.emod_nonneg (h - b) (show (ns.length : Int) ≠ 0 by omega)
  have r1 := Int.emod_lt_of_pos (h - b) (show (0 : Int) < ns.length by omega)
  have hi := wd_le ns h
  unfold serving
  rw [mem_row]
  constructor
  · rintro ⟨k, hk, e⟩
    have e2 : (h - b) % (ns.length : Int) = (wd ns h : Int) - 1 - k := by
      rw [← e, Int.sub_emod_emod, show h - (h - (wd ns h : Int) + 1 + k) = (wd ns h : Int) - 1 - k by omega]
      exact Int.emod_eq_of_lt (by omega) (by omega)
    omega
  · intro z
    refine ⟨((wd ns h : Int) - 1 - (h - b) % (ns.length : Int)).toNat, by omega, ?_⟩
    rw [show ((((wd ns h : Int) - 1 - (h - b) % (ns.length : Int)).toNat : Nat) : Int) = (wd ns h : Int) - 1 - (h - b) % (ns.length : Int) by omega,
      show h - (wd ns h : Int) + 1 + ((wd ns h : Int) - 1 - (h - b) % (ns.length : Int)) = h - (h - b) % (ns.length : Int) by omega, Int.sub_emod_emod, show h - (h - b) = b by omega]
    exact Int.emod_eq_of_lt b0 b1
theorem served_serving {ns : List Int} (v : Valid ns) {b h : Int} (b0 : 0 ≤ b) (b1 : b < ns.length) (h0 : 0 ≤ h) (h1 : h < ns.length) : h ∈ served ns b ↔ b ∈ serving ns h := by
  have p := v.pos
  have r0 := Int.emod_nonneg (h - b) (show (ns.length : Int) ≠ 0 by omega)
  have r1 := Int.emod_lt_of_pos (h - b) (show (0 : Int) < ns.length by omega)
  rw [mem_served v h0 h1, mem_serving v b0 b1]
  have q := wd_iff v h (b := ((h - b) % (ns.length : Int)).toNat) (by omega)
  have e : S ns (h - ((((h - b) % (ns.length : Int)).toNat : Nat) : Int)) = S ns b := S_mod (by
    rw [show ((((h - b) % (ns.length : Int)).toNat : Nat) : Int) = (h - b) % (ns.length : Int) by omega, Int.sub_emod_emod, show h - (h - b) = b by omega])
  rw [e] at q
  omega

/-! ### the other way -/
theorem glass_mod {n y : Int} (hn : 0 < n) : n - 1 - y % n = (n - 1 - y) % n := by
  have r0 := Int.emod_nonneg y (show n ≠ 0 by omega)
  have r1 := Int.emod_lt_of_pos y hn
  have e := Int.sub_emod_emod (n - 1) y n
  rw [← e]
  exact (Int.emod_eq_of_lt (by omega) (by omega)).symm
theorem row_map (n : Nat) (f g : Int → Int) : (row n f).map g = row n fun x => g (f x) := by
  unfold row
  rw [List.map_map]
  rfl
theorem served_mir {ns : List Int} (v : Valid ns) (h : Int) : served (mir ns) ((ns.length : Int) - 1 - h) = ((serving ns h).map fun x => (ns.length : Int) - 1 - x).reverse := by
  have p := v.pos
  have e : S (mir ns) ((ns.length : Int) - 1 - h) = wd ns h := by
    rw [S_mir p]
    have z : wd ns (-1 - ((ns.length : Int) - 1 - h)) = wd ns h := wd_mod (by
      have q := Int.add_mul_emod_self_right (-1 - ((ns.length : Int) - 1 - h)) 1 (ns.length : Int)
      rw [← q, show -1 - ((ns.length : Int) - 1 - h) + 1 * (ns.length : Int) = h by omega])
    rw [z]
  unfold served serving
  rw [e, mir_len, row_map, row_reverse, Int.toNat_natCast]
  refine row_congr fun k _ => ?_
  show ((ns.length : Int) - 1 - h + k) % (ns.length : Int) = (ns.length : Int) - 1 - (h - wd ns h + 1 + ((wd ns h : Int) - 1 - k)) % (ns.length : Int)
  rw [glass_mod (by omega)]
  congr 1
  omega
theorem serving_mir {ns : List Int} (v : Valid ns) (h : Int) : serving (mir ns) ((ns.length : Int) - 1 - h) = ((served ns h).map fun x => (ns.length : Int) - 1 - x).reverse := by
  have p := v.pos
  have h1 := v.lo h
  have e : (wd (mir ns) ((ns.length : Int) - 1 - h) : Int) = S ns h := by
    rw [wd_mir v]
    have q := S_per (ns := ns) (-1 - ((ns.length : Int) - 1 - h)) 1
    rw [← q, show -1 - ((ns.length : Int) - 1 - h) + 1 * (ns.length : Int) = h by omega]
  have e2 : wd (mir ns) ((ns.length : Int) - 1 - h) = (S ns h).toNat := by omega
  unfold serving served
  rw [mir_len, row_map, row_reverse, e2]
  refine row_congr fun k _ => ?_
  show ((ns.length : Int) - 1 - h - ((S ns h).toNat : Int) + 1 + k) % (ns.length : Int) = (ns.length : Int) - 1 - (h + (((S ns h).toNat : Int) - 1 - k)) % (ns.length : Int)
  rw [glass_mod (by omega)]
  congr 1
  omega
end Clk

/-! Clk3 -/
/-! how often a begin is among those who serve: its stay; a stay set to what it is -/
namespace Clk
/-- rows one behind another, from place i on -/
def catI (g : Nat → List Int) (i : Nat) : Nat → List Int
  | 0 => []
  | k + 1 => g i ++ catI g (i + 1) k
theorem cat_countP {g : Nat → List Int} {b : Int} {p : Nat → Bool} : ∀ (k i : Nat), (∀ j, i ≤ j → j < i + k → (g j).count b = if p j = true then 1 else 0) → (catI g i k).count b = (List.range' i k).countP p
  | 0, _, _ => rfl
  | k + 1, i, h => by
    show (g i ++ catI g (i + 1) k).count b = _
    rw [List.count_append, h i (Nat.le_refl _) (by omega), cat_countP k (i + 1) (fun j h1 h2 => h j (by omega) (by omega)), List.range'_succ, List.countP_cons]
    omega
theorem cat_len {g : Nat → List Int} {m : Nat} : ∀ (k i : Nat), (∀ j, i ≤ j → j < i + k → (g j).length ≤ m) → (catI g i k).length ≤ k * m
  | 0, _, _ => Nat.zero_le _
  | k + 1, i, h => by
    show (g i ++ catI g (i + 1) k).length ≤ _
    rw [List.length_append, Nat.succ_mul]
    have h1 := h i (Nat.le_refl _) (by omega)
    have h2 := cat_len k (i + 1) fun j h1 h2 => h j (by omega) (by omega)
    omega
theorem serving_nodup (ns : List Int) (h : Int) (p : 0 < ns.length) : (serving ns h).Nodup := by
  unfold serving row List.Nodup
  rw [List.pairwise_map]
  refine List.Pairwise.imp_of_mem ?_ List.pairwise_lt_range
  intro a b ha hb hlt e
  have h1 := List.mem_range.mp ha
  have h2 := List.mem_range.mp hb
  have w := wd_le ns h
  have n0 : (ns.length : Int) ≠ 0 := by omega
  have z : ((b : Int) - (a : Int)) % (ns.length : Int) = 0 := by
    have q := Int.emod_emod_of_dvd
    have : (h - (wd ns h : Int) + 1 + (b : Int) - (h - (wd ns h : Int) + 1 + (a : Int))) % (ns.length : Int) = 0 := Int.emod_eq_emod_iff_emod_sub_eq_zero.mp e.symm
    rw [show (h - (wd ns h : Int) + 1 + (b : Int) - (h - (wd ns h : Int) + 1 + (a : Int))) = (b : Int) - a by omega] at this
    exact this
  rw [Int.emod_eq_of_lt (by omega) (by omega)] at z
  omega
theorem serving_count {ns : List Int} (v : Valid ns) {b h : Nat} (hb : b < ns.length) (hh : h < ns.length) : (serving ns (h : Int)).count (b : Int) = if decide (((h : Int) - b) % (ns.length : Int) < S ns b) = true then 1 else 0 := by
  rw [(serving_nodup ns h v.pos).count]
  have q := served_serving v (b := b) (h := h) (by omega) (by omega) (by omega) (by omega)
  rw [mem_served v (by omega) (by omega)] at q
  by_cases e : ((h : Int) - b) % (ns.length : Int) < S ns b
  · rw [if_pos (q.mp e), decide_eq_true e, if_pos rfl]
  · rw [if_neg fun z => e (q.mpr z), decide_eq_false e, if_neg Bool.false_ne_true]
/-- the holders of all hours -/
def holders (ns : List Int) : List Int := catI (fun h => serving ns (h : Int)) 0 ns.length
theorem holders_len (ns : List Int) (t : ns.length ≤ 48) : (holders ns).length ≤ 2304 := by
  have h := cat_len (g := fun h => serving ns (h : Int)) (m := 48) ns.length 0 fun j _ _ => by
    rw [serving_len]
    exact Nat.le_trans (wd_le _ _) t
  unfold holders
  omega
theorem holders_count {ns : List Int} (v : Valid ns) {b : Nat} (hb : b < ns.length) : ((holders ns).count (b : Int) : Int) = S ns b := by
  have p := v.pos
  have hi := v.hi b
  have lo := v.lo b
  unfold holders
  rw [cat_countP (p := fun h => decide (((h : Int) - b) % (ns.length : Int) < S ns b)) ns.length 0 (fun j _ hj => serving_count v hb (by omega)), ← List.range_eq_range', count_Sum]
  have e1 : Sum ns.length (fun x => if (decide (((x.toNat : Int) - b) % (ns.length : Int) < S ns b)) = true then 1 else 0) = Sum ns.length (fun x => (fun y => if y % (ns.length : Int) < S ns b then 1 else 0) (x - b)) := Sum_congr fun i hi => by
    simp only [Int.toNat_natCast, decide_eq_true_eq]
  rw [e1, Sum_shift (g := fun y => if y % (ns.length : Int) < S ns b then 1 else 0) (fun x => by
    show (if (x + (ns.length : Int)) % (ns.length : Int) < S ns b then (1 : Int) else 0) = _
    rw [Int.add_emod_right]) b]
  rw [Sum_congr (g := fun y => if y < S ns b then 1 else 0) fun i hi => by
    show (if (i : Int) % (ns.length : Int) < S ns b then (1 : Int) else 0) = _
    rw [Int.emod_eq_of_lt (by omega) (by omega)]]
  rw [Sum_below _ (by omega)]
  by_cases e : (ns.length : Int) ≤ S ns b
  · rw [if_pos e]
    omega
  · rw [if_neg e]
theorem set_same {ns : List Int} {i : Nat} (h : i < ns.length) : ns.set ((i : Int)).toNat (S ns i) = ns := by
  rw [Int.toNat_natCast, S_get h]
  exact List.set_getElem_self h
end Clk

/-! Clk4 -/
/-! clocks turned twice, turned and mirrored; even clocks -/
namespace Clk
theorem trn_trn {ns : List Int} (hp : 0 < ns.length) (a b : Int) : trn (trn ns a) b = trn ns (a + b) := by
  unfold trn
  rw [row_len]
  refine row_congr fun i _ => ?_
  have z := S_trn (ns := ns) hp a ((i : Int) + b)
  unfold trn at z
  rw [z, show (i : Int) + b + a = i + (a + b) by omega]
theorem trn_zero {ns : List Int} (k : Int) (h : k % (ns.length : Int) = 0) : trn ns k = ns := by
  have e : trn ns k = row ns.length (S ns) := row_congr fun i _ => S_mod (by
    rw [Int.add_emod, h, Int.add_zero, Int.emod_emod])
  rw [e, ← row_eq]
theorem trn_back {ns : List Int} (hp : 0 < ns.length) (k : Int) : trn (trn ns k) (0 - k) = ns := by
  rw [trn_trn hp, show k + (0 - k) = 0 by omega]
  exact trn_zero 0 (Int.zero_emod _)
theorem trn_full {ns : List Int} : trn ns (ns.length : Int) = ns := trn_zero _ (Int.emod_self)
theorem S_widths {ns : List Int} (hp : 0 < ns.length) (x : Int) : S (widths ns) x = wd ns x := by
  unfold widths
  rw [S_row hp]
  show ((wd ns (x % (ns.length : Int)) : Nat) : Int) = wd ns x
  rw [wd_mod (Int.emod_emod ..)]
theorem widths_trn {ns : List Int} (v : Valid ns) (k : Int) : widths (trn ns k) = trn (widths ns) k := by
  have e : widths (trn ns k) = row ns.length fun x => (wd (trn ns k) x : Int) := by
    unfold widths
    rw [trn_len]
  have e2 : trn (widths ns) k = row ns.length fun x => S (widths ns) (x + k) := by
    unfold trn
    rw [widths_len]
  rw [e, e2]
  refine row_congr fun i _ => ?_
  rw [wd_trn v, S_widths v.pos]
theorem widths_mir {ns : List Int} (v : Valid ns) : widths (mir ns) = ns.reverse := by
  have e := widths_rev (ns := mir ns)
  rw [mir_mir v] at e
  have z := congrArg List.reverse e
  rw [List.reverse_reverse] at z
  exact z
theorem mir_trn {ns : List Int} (v : Valid ns) (k : Int) : mir (trn ns k) = trn (mir ns) (0 - k) := by
  have e : mir (trn ns k) = row ns.length fun x => (wd (trn ns k) (-1 - x) : Int) := by
    unfold mir
    rw [trn_len]
  have e2 : trn (mir ns) (0 - k) = row ns.length fun x => S (mir ns) (x + (0 - k)) := by
    unfold trn
    rw [mir_len]
  rw [e, e2]
  refine row_congr fun i _ => ?_
  rw [wd_trn v, S_mir v.pos, show -1 - ((i : Int) + (0 - k)) = -1 - (i : Int) + k by omega]
theorem row_const (n : Nat) (c : Int) : row n (fun _ => c) = List.replicate n c := by
  unfold row
  rw [List.map_const', List.length_range]
theorem S_even {n : Nat} {c : Int} (hn : 0 < n) (x : Int) : S (List.replicate n c) x = c := by
  rw [← row_const, S_row hn]
theorem wd_even {n : Nat} {c : Int} (hn : 0 < n) (t : n ≤ 48) (h1 : 1 ≤ c) (h2 : c ≤ n) (x : Int) : (wd (List.replicate n c) x : Int) = c := by
  have v := even_valid hn t h1 h2
  have l : (List.replicate n c).length = n := List.length_replicate
  have e : wd (List.replicate n c) x = c.toNat := by
    refine same_below (n := n) (by have := wd_le (List.replicate n c) x; omega) (by omega) fun b hb => ?_
    have z := wd_iff v x (b := b) (by omega)
    rw [S_even hn] at z
    omega
  rw [e]
  omega
theorem widths_even {n : Nat} {c : Int} (hn : 0 < n) (t : n ≤ 48) (h1 : 1 ≤ c) (h2 : c ≤ n) : widths (List.replicate n c) = List.replicate n c := by
  have l : (List.replicate n c).length = n := List.length_replicate
  have e : widths (List.replicate n c) = row n fun x => (wd (List.replicate n c) x : Int) := by
    unfold widths
    rw [l]
  rw [e, row_congr (g := fun _ => c) fun i _ => wd_even hn t h1 h2 (i : Int), row_const]
theorem mir_even {n : Nat} {c : Int} (hn : 0 < n) (t : n ≤ 48) (h1 : 1 ≤ c) (h2 : c ≤ n) : mir (List.replicate n c) = List.replicate n c := by
  rw [← widths_rev, widths_even hn t h1 h2, List.reverse_replicate]
theorem trn_even {n : Nat} {c : Int} (hn : 0 < n) (k : Int) : trn (List.replicate n c) k = List.replicate n c := by
  have e : trn (List.replicate n c) k = row n fun _ => c := by
    unfold trn
    rw [List.length_replicate]
    exact row_congr fun i _ => S_even hn _
  rw [e, row_const]
end Clk

/-! Own -/
/-! rules of my own over the layer -/
namespace Hn
open PySem L2 PyProof.Rows
section
variable {X : Cx}
/-- xs[i] read for xs[i] += e -/
theorem get_list : PGet X (rIxL X.K) := by
  intro pins s σ H o i ov iv Q I ro ri h
  obtain ⟨p, xs, k, z, rfl, rfl, hq, he, q⟩ := h
  cases ro
  obtain ⟨t, rfl⟩ := ri
  obtain ⟨its, r, pl, hz⟩ := I.list hq
  obtain ⟨j, h1, h2, h3, h4, h5⟩ := atI_get he
  obtain ⟨w, ew, rw'⟩ := r.get h2
  have hl := r.length
  have hn := line63
  have fin : EP X pins σ Q w s := ⟨z, H, I, rw', q⟩
  by_cases h0 : 0 ≤ k
  · have hj : k.toNat = j := by
      rw [seqIndex_of h0 h5] at h1
      exact Option.some.inj h1
    exact wpAny_getItem_list pl.isList h0 (by omega) (by rw [hj]; simpa using ew) fin
  · have hj : (k + (its.toArray.size : Int)).toNat = j := by
      rw [seqIndex_neg (by omega) h4] at h1
      rw [List.size_toArray, ← hl]
      exact Option.some.inj h1
    exact wpAny_getItem_list_neg pl.isList (by omega) (by rw [List.size_toArray] <;> omega) (by omega) (by rw [hj]; simpa using ew) fin
theorem PI.or {tg iter : Expr} {w1 w2 : TI} (h1 : PI X tg iter w1) (h2 : PI X tg iter w2) : PI X tg iter (fun σ H R => w1 σ H R ∨ w2 σ H R) :=
  ⟨fun pins s σ H R I h => h.elim (h1.run pins s σ H R I) (h2.run pins s σ H R I)⟩
/-- a list or a tuple, walked -/
theorem pi_seq {tg l : Expr} {tl : TE} (hl : PE X l tl) : PI X tg l (fun σ H R => iList X.K tl σ H R ∨ iTup X.K tl σ H R) := PI.or (pi_list hl) (pi_tup hl)
end
end Hn

/-! Own2 -/
namespace Hn
open PySem PySem.Spec L2
open PyProof.Rows hiding St
/-- '0' * k, both small -/
theorem op_mul_str {X : Cx} : OpR X (binaryOp .Mult) (fun x y H Q => ∃ z k, x = .str z ∧ y = .int k ∧ z.length ≤ 100 ∧ 0 ≤ k ∧ k ≤ 1000 ∧ Q (.str (Txt.mul z k)) H) := by
  intro pins s σ H x y v u Q I rx ry h
  obtain ⟨z, k, rfl, rfl, h1, h2, h3, q⟩ := h
  obtain ⟨t, rfl⟩ := rx
  obtain ⟨t', rfl⟩ := ry
  exact SB.mul (mulOk_of 100 1000 h1 h3 (by omega) (by decide) (by decide)) fun a b => ⟨.str _, H, I.tok _, ⟨_, rfl⟩, q⟩

set_option maxHeartbeats 1000000 in
theorem meets_enum1 {v : Value} {o : Obj} {G : Heap → Prop} (B : Begins v o G) :
    Meets (Builtin.«enumerate.__new__» ⟨[.type "enumerate", v], []⟩) (fun _ R s => G s.heap ∧
      R (.ok (.ret (.ref (s.heap.push o).objs.size))) { s with heap := (s.heap.push o).push { cls := .type "enumerate", data := .fields #[.none, .bool false, .ref s.heap.objs.size, rawInt 0, .none, .none] } }) :=
  .of_wp fun prog w A R s h => by
    obtain ⟨hp, g, d, tk, os⟩ := s
    obtain ⟨hG, h⟩ := h
    have hsE := sub_enumerate
    have it {A' : Around} {E : Value → Shared → Prop} {Q : Value → Shared → Prop} (q : Q (.ref hp.objs.size) ⟨hp.push o, g, d, tk, os⟩) : wpAny (model prog w) A' (pyIter v) Q E ⟨hp, g, d, tk, os⟩ :=
      B.iter prog w _ _ ⟨hp, g, d, tk, os⟩ _ hG q
    wp_walk using it
    refine wpAny_stack_any fun _ => wpAny_pure ?_
    split
    · rename_i c _ _ _ _ _
      cases (c == Value.type "enumerate") <;> (wp_walk using it; exact ⟨_, rfl, h⟩)
    · wp_walk using it
      exact ⟨_, rfl, h⟩
/-- enumerate(v): its two new cells -/
theorem enum_made {prog : Program} {w : World} {A : Around} {E : Value → Shared → Prop} {s : Shared} {v : Value} {o : Obj} {G : Heap → Prop} {Q : Value → Shared → Prop} (B : Begins v o G) (h1 : G s.heap)
    (h : ∀ h', IsEnum h' (s.heap.objs.size + 1) s.heap.objs.size 0 .none → h'.get? s.heap.objs.size = some o → (∀ b u, s.heap.get? b = some u → h'.get? b = some u) → Q (.ref (s.heap.objs.size + 1)) { s with heap := h' }) :
    wpAny (model prog w) A (call (.type "enumerate") [v]) Q E s := by
  refine callType_new F.called_enumerate (by decide) (F.typeCall_enumerate_1 _) (F.newCall_enumerate_1 _) (fun obj => F.args_object_init_2 obj _) F.entry_enumerate_new (meets_enum1 B) ⟨h1, ?_⟩
  have z1 : (s.heap.push o).objs.size = s.heap.objs.size + 1 := Heap.size_push _ _
  show _ ∧ _
  rw [z1]
  have en : IsEnum ((s.heap.push o).push { cls := .type "enumerate", data := .fields #[.none, .bool false, .ref s.heap.objs.size, rawInt 0, .none, .none] }) (s.heap.objs.size + 1) s.heap.objs.size 0 .none := by
    have q := Heap.get?_push_size (s.heap.push o) (o := { cls := .type "enumerate", data := .fields #[.none, .bool false, .ref s.heap.objs.size, rawInt 0, .none, .none] }) rfl
    rw [z1] at q
    exact q
  refine ⟨⟨_, en, rfl⟩, h _ en (Heap.get?_push_of_some _ (Heap.get?_push_size _ B.free)) fun b u x => ?_⟩
  exact Heap.get?_push_of_some _ (Heap.get?_push_of_some _ x)

/-- the tuple at a as it stands at each turn, each item in a new pair -/
def ItE (K : PySem.W.Frag) (a : Addr) : It :=
  ⟨fun i H => ∃ (xs : List V) (x : V), SqT K H a xs ∧ xs[i]? = some x, fun i H v H' => ∃ T x, v = .ref T ∧ H T = none ∧ H' = upd H T (.tup [.int (i : Nat), x]) ∧ ∀ xs, SqT K H a xs → xs[i]? = some x,
    fun i H => ∃ xs : List V, SqT K H a xs ∧ xs.length ≤ i⟩
theorem enumT_end {prog : Program} {w : World} {A : Around} {E : Value → Shared → Prop} {s : Shared} {e it l : Addr} {i : Nat} {c : Int} {items : Array Value} {old : Value} {Q : Option Value → Shared → Prop} (hh : A.handled = none)
    (he : IsEnum s.heap e it c old) (hit : s.heap.IsTupleIter it l i) (hl : s.heap.IsTuple l items) (hx : items[i]? = none) (hQ : ∀ h', Heap.ExtBut it s.heap h' → Q none { s with heap := h' }) : wpAny (model prog w) A (pyNext (.ref e)) Q E s := by
  have ty : s.TypeIs (.ref e) "enumerate" := ⟨_, he, rfl⟩
  unfold pyNext
  refine wpAny_bind (wpAny_attempt (wpAny_callSpecial?_slot (name := Str.ofString "__next__") ty F.slot_enumerate_next (wpAny_call_entry F.slot_enumerate_next ty F.entry_enumerate_next ?_ (F.args_enumerate_next_1 _))))
  show wpAny _ _ (field (.ref e) 2 >>= _) _ _ _
  refine wpAny_bind (wpAny_field he rfl (x := .ref it) rfl (wpAny_bind (wpAny_nextOf_tuple_end (by first | exact hh | (show A.in1.handled = none; exact hh)) hit hl hx fun h' x he' hx' => ?_)))
  obtain ⟨o, ho, hc⟩ := hx'
  exact wpAny_bind (wpAny_isInstance (T := "StopIteration") (b := true) ⟨o, ho, hc⟩ isSubtype_stop (wpAny_pure (hQ _ he')))
theorem turn_enumT {P : Program} {w : World} {K : PySem.W.Frag} {elts : List Expr} {kk : Nat} {tpos : Pos} (a e it : Addr) :
    Turn P w K (.Tuple elts kk tpos) (ItE K a) [e, it] e (fun i h => (∃ old, IsEnum h e it ((i : Nat) : Int) old) ∧ h.IsTupleIter it a i ∧ e ≠ it) where
  mem := by simp
  obj := fun i h st b hb => by
    obtain ⟨⟨old, he⟩, ⟨o, ho, hc, hd⟩, _⟩ := st
    have hb' : b = e ∨ b = it := by simpa using hb
    rcases hb' with rfl | rfl
    · exact ⟨_, he, fun v q => nomatch q⟩
    · exact ⟨o, ho, fun v q => by rw [hd] at q; cases q⟩
  keep := fun i h h' st k => by
    obtain ⟨⟨old, he⟩, hi, hne⟩ := st
    exact ⟨⟨old, k e (by simp) _ he⟩, hi.at fun o q => k it (by simp) o q, hne⟩
  item := by
    intro X hP hw hK hc i pins s σ H E I hf st hg
    subst hP hw hK
    obtain ⟨⟨old, he⟩, hit, hne⟩ := st
    obtain ⟨xs, x, hq, hx⟩ := hg
    obtain ⟨its, rv, p, hz⟩ := I.tuple hq
    obtain ⟨u, hu, ru⟩ := rv.get hx
    have le : e < s.heap.objs.size := Heap.lt_size he
    have li : it < s.heap.objs.size := by
      obtain ⟨_, q, _⟩ := hit
      exact Heap.lt_size q
    have hae : a ≠ e := by
      rintro rfl
      obtain ⟨o, h1, h2, _⟩ := p
      rw [show s.heap.get? a = some _ from he] at h1
      cases h1
      have h3 : Value.type "enumerate" = Value.type "tuple" := h2
      exact absurd h3 (by decide)
    have hai : a ≠ it := by
      rintro rfl
      obtain ⟨o, h1, h2, _⟩ := p
      obtain ⟨o', h3, h4, _⟩ := hit
      rw [h3] at h1
      cases h1
      rw [h4] at h2
      have h5 : Value.type "tuple_iterator" = Value.type "tuple" := h2
      exact absurd h5 (by decide)
    have D := Draws.tuple (prog := X.prog) (w := X.w) (A := X.A.in1) (I.ok.hd hc) it a hai its.toArray
    refine wpAny_pyNext_enum_itemC D he ⟨hit, p⟩ (i := i) (by
      have := (List.getElem?_eq_some_iff.mp hu).1
      simpa using this) hne (by simp [hne, Ne.symm hae]) fun y h' tk hy ho hs hT hsz hk => ?_
    have ey : y = u := by
      have hy' : its[i]? = some y := by simpa using hy
      rw [hu] at hy'
      exact (Option.some.inj hy').symm
    subst ey
    refine ⟨_, rfl, wpAny_letOwnedTupleGo_enum (s := { s with heap := h', toks := tk + 1 }) ho fun h'' he' sb => ?_⟩
    have hT2 : h''.get? s.heap.objs.size = some { cls := .type "tuple", data := .seq #[.int i tk, y] } := (sb.2 _ (Nat.ne_of_gt le)).trans hT
    have new : ObjOk X.prog X.w (upd H s.heap.objs.size (.tup [.int (i : Nat), x])) h'' s.heap.objs.size (.tup [.int (i : Nat), x]) :=
      ⟨by show 2 ≤ sizeLine; decide, [.int i tk, y], .cons ⟨_, rfl⟩ (.cons ru .nil), ⟨_, hT2, rfl, _, rfl⟩⟩
    have I1 : Inv X pins σ (upd H s.heap.objs.size (.tup [.int (i : Nat), x])) { s with heap := h'', toks := tk + 1 } :=
      I.turnedNew (ch := [e, it]) (fun b ob hb q => (sb.2 b (fun z => hb (by simp [z]))).trans (hk b ob (fun z => hb (by simp [z])) (fun z => hb (by simp [z])) q)) hf (Nat.le_refl _) new
    refine ⟨.ref s.heap.objs.size, _, I1, rfl, ⟨_, x, rfl, I.hok.fresh (Nat.le_refl _), rfl, fun ys hy => by rw [I.tuple_inj hy hq]; exact hx⟩, ⟨⟨y, ?_⟩, hs.1.at fun o q => (sb.2 it (Ne.symm hne)).trans q, hne⟩, fun b hb => ?_⟩
    · rw [show ((i + 1 : Nat) : Int) = (i : Int) + 1 by omega]
      exact he'
    · have lb : b < s.heap.objs.size := by
        have hb' : b = e ∨ b = it := by simpa using hb
        rcases hb' with rfl | rfl
        · exact le
        · exact li
      rw [upd_ne (Nat.ne_of_lt lb)]
      exact (hf b hb).1
  done := by
    intro X hP hw hK hc i pins s σ H E I hf st hg
    subst hP hw hK
    obtain ⟨⟨old, he⟩, hit, hne⟩ := st
    obtain ⟨xs, hq, hx⟩ := hg
    obtain ⟨its, rv, p, hz⟩ := I.tuple hq
    obtain ⟨f0, f1, f2, f3, f4, f5⟩ := hf it (by simp)
    have hl := rv.length
    exact enumT_end (I.ok.hd hc) he hit p (by simp; omega) fun h' eb => ⟨rfl, I.turned (t' := s.toks) (fun b o hb q => eb b o hb q) f0 f1 f3 f4 f5⟩
  self := fun A i s Q E st h => let ⟨⟨_, he⟩, _⟩ := st; wpAny_pyIter_enum he h
def iEnT (K : PySem.W.Frag) (ta : TA) : TI := fun σ H R => ta σ H fun vs H1 => ∃ a xs, vs = [.ref a] ∧ SqT K H1 a xs ∧ R (ItE K a) H1
theorem pi_enumT {X : Cx} {e : Expr} {ta : TA} {p pos tpos : Pos} {elts : List Expr} {kk : Nat} (hg : Gl X "enumerate") (hm : X.mg "enumerate" = none) (ha : PA X [e] ta) (hs : starEach [e] X.env = [(false, eval e X.env)] := by rfl) :
    PI X (.Tuple elts kk tpos) (.Call (.Name "enumerate" p) [e] [] pos) (iEnT X.K ta) := by
  refine ⟨fun pins s σ H R I h => Call_ (ld_blt I hg hm boot_enumerate (PyProof.Rows.callWith_type1 (thn (ha.run pos pins s σ H _ I h) fun us s1 ⟨vs, H1, I1, r1, a, xs, ex, hq, q⟩ => ?_) hs rfl))⟩
  subst ex
  cases r1 with
  | cons r rr =>
    cases rr
    cases r
    obtain ⟨its, rv, p', hz⟩ := I1.tuple hq
    refine enum_made (begins_tuple a its.toArray) p' fun h' he hit hk => wpAny_pyIter_enum he ?_
    have I2 : Inv X pins σ H1 { s1 with heap := h' } := I1.kept (t' := s1.toks) hk
    refine ⟨s1.heap.objs.size + 1, [s1.heap.objs.size + 1, s1.heap.objs.size], _, _, H1, rfl, I2, turn_enumT a (s1.heap.objs.size + 1) s1.heap.objs.size, ⟨⟨.none, he⟩, ⟨_, hit, rfl, rfl⟩, Nat.succ_ne_self _⟩, fun b hb => ?_, q⟩
    have lb : s1.heap.objs.size ≤ b := by
      have hb' : b = s1.heap.objs.size + 1 ∨ b = s1.heap.objs.size := by simpa using hb
      rcases hb' with rfl | rfl
      · exact Nat.le_succ _
      · exact Nat.le_refl _
    exact I1.fpOk lb (I1.hok.fresh lb)
/-- enumerate of a list or a tuple -/
theorem pi_enumQ {X : Cx} {e : Expr} {ta : TA} {p pos tpos : Pos} {elts : List Expr} {kk : Nat} (hg : Gl X "enumerate") (hm : X.mg "enumerate" = none) (ha : PA X [e] ta) (hs : starEach [e] X.env = [(false, eval e X.env)] := by rfl) :
    PI X (.Tuple elts kk tpos) (.Call (.Name "enumerate" p) [e] [] pos) (fun σ H R => iEnum X.K ta σ H R ∨ iEnT X.K ta σ H R) := PI.or (pi_enum hg hm ha hs) (pi_enumT hg hm ha hs)
end Hn

/-! Own3 -/
namespace Hn
open PySem PySem.Spec L2
open PyProof.Rows hiding St
theorem fnIn_of {K : PySem.W.Frag} {x qual : Str} {st : Stmt} {f : Addr} {fd : FuncData} (F : Fun K x qual st f fd) : PySem.W.fnIn K f = true := by
  obtain ⟨oc, od, kV, doc, pm, an, cdv, ct, osl, rfl, lk, hcd⟩ := F.ex
  unfold PySem.W.fnIn
  rw [lk]
/-- o[i] by an own __getitem__ -/
def tOwnIx (C : Addr) (sp : Sp) (E : XK) (to ti : TE) : TE := fun σ H Q => to σ H fun x H1 => ti σ H1 fun y H2 => ∃ a dx fs, x = .ref a ∧ H2 a = some (.ins C dx fs) ∧ sp [.ref a, y] H2 Q E
theorem pe_own {X : Cx} {CX : CXT} {k : Nat} {C f : Addr} {fd : FuncData} {ps : List Str} {sp : Sp} {E : XK} {o i : Expr} {pos : Pos} {to ti : TE} (ho : PE X o to) (hi : PE X i ti) (hm : Meth X.K C "__getitem__" f) (hf : PySem.W.fnIn X.K f = true)
    (F : FnOk X.prog X.w X.K X.mg X.base CX k f fd ps sp) (hr : Room (k + 1) X.A) (hb : Binds X.K fd ps []) (hx : Passes CX X.nox E)
    (hsl : ∀ (x : Addr) (v : Value), subscripted i true (.ref x) v = runValue (.builtin "lifetime.subscript" ⟨[.ref x, v], []⟩) := by intro _ _; with_unfolding_all rfl) :
    PE X (.Subscript o i pos) (tOwnIx C sp E to ti) := by
  refine ⟨fun pins s σ H Q I h => Subscript_ (thn (ho.run pins s σ H _ I h) fun u s1 ⟨x, H1, I1, rx, q1⟩ => thn (hi.run pins s1 σ H1 _ I1 q1) fun v s2 ⟨y, H2, I2, ry, a, dx, fs, ex, ea, q⟩ => ?_)⟩
  subst ex
  obtain rfl : u = Value.ref a := rx
  obtain ⟨mA, J, _⟩ := ins_get I2.hok ea
  obtain ⟨od, J, _⟩ := J.look
  obtain ⟨m, hF⟩ := I2.fr
  have hl : ([V.ref a, y] : List V).length = ps.length := F.len _ _ _ _ q
  have r2 : Vals [V.ref a, y] [Value.ref a, v] := .cons rfl (.cons ry .nil)
  refine PySem.W.sub_K hF I2.ok.mod.kin J hm.at_ hf hm.fn (wpAny_call (codeAny_mono (F.run X.A.in1 X.stack s2 H2 ⟨[.ref a, v], []⟩ [.ref a, v] [.ref a, y] Q E hr.in1 I2.env0.in1 (by
    have z := hb s2 [.ref a, v] I2.kIn (by simpa using hl)
    simpa using z) r2 q) fun r s' hq => ?_)) (hsl a v)
  cases r with
  | error er => exact False.elim (hx pins σ H2 s2 er s' (I2.wish _) hq)
  | ok fl =>
    cases fl with
    | ret u => exact I2.after hq
    | next => exact False.elim hq
    | brk => exact False.elim hq
    | cont => exact False.elim hq
end Hn

/-! Hp -/
/-! words for heaps -/
namespace Hn
open PySem L2
/-- the ints ns, as V's -/
abbrev iv (ns : List Int) : List V := ns.map V.int
theorem iv_len (ns : List Int) : (iv ns).length = ns.length := List.length_map ..
theorem iv_get {ns : List Int} {i : Nat} (h : i < ns.length) : (iv ns)[i]? = some (.int ns[i]) := by
  unfold iv
  rw [List.getElem?_map, List.getElem?_eq_getElem h]
  rfl
/-- at a: a list or a tuple of the ints ns -/
def Ints (K : PySem.W.Frag) (H : Hp) (a : Addr) (ns : List Int) : Prop := SqL K H a (iv ns) ∨ SqT K H a (iv ns)
/-- all that was tracked is as it was, but what stands at b -/
def But (b : Addr) (H H' : Hp) : Prop := ∀ c o, c ≠ b → H c = some o → H' c = some o
theorem But.refl (b : Addr) (H : Hp) : But b H H := fun _ _ _ h => h
theorem But.trans {b : Addr} {H H1 H2 : Hp} (x : But b H H1) (y : But b H1 H2) : But b H H2 := fun c o n h => y c o n (x c o n h)
theorem But.of {b : Addr} {H H1 : Hp} (x : Same H H1) : But b H H1 := fun c o _ h => x c o h
theorem But.upd {b : Addr} {H H1 : Hp} {o : HO} (x : But b H H1) : But b H (upd H1 b o) := fun c u n h => by
  rw [upd_ne n]
  exact x c u n h
theorem same_new {H : Hp} {p : Addr} {o : HO} (h : H p = none) : Same H (upd H p o) := fun b x e => by
  rw [upd_ne (ne_of_none e h)]
  exact e
theorem But.new {b : Addr} {H H1 : Hp} {p : Addr} {o : HO} (x : But b H H1) (h : H1 p = none) : But b H (L2.upd H1 p o) := x.trans (But.of (same_new h))
theorem But.seq {K : PySem.W.Frag} {b : Addr} {H H' : Hp} {a : Addr} {xs : List V} (e : But b H H') (n : a ≠ b) (h : SqL K H a xs) : SqL K H' a xs := by
  rcases h with (h | ⟨o, h⟩) | h
  · exact .inl (.inl (e _ _ n h))
  · exact .inl (.inr ⟨o, e _ _ n h⟩)
  · exact .inr h
theorem Same.set {K : PySem.W.Frag} {H H' : Hp} {a : Addr} {xs : List V} (e : Same H H') (h : SqT K H a xs) : SqT K H' a xs := by
  rcases h with (h | ⟨o, h⟩) | h
  · exact .inl (.inl (e _ _ h))
  · exact .inl (.inr ⟨o, e _ _ h⟩)
  · exact .inr h
theorem But.set {K : PySem.W.Frag} {b : Addr} {H H' : Hp} {a : Addr} {xs : List V} (e : But b H H') (n : a ≠ b) (h : SqT K H a xs) : SqT K H' a xs := by
  rcases h with (h | ⟨o, h⟩) | h
  · exact .inl (.inl (e _ _ n h))
  · exact .inl (.inr ⟨o, e _ _ n h⟩)
  · exact .inr h
theorem Ints.same {K : PySem.W.Frag} {H H' : Hp} {a : Addr} {ns : List Int} (h : Ints K H a ns) (e : Same H H') : Ints K H' a ns := h.elim (fun h => .inl (e.seq h)) fun h => .inr (Same.set e h)
theorem V_lst_inj {xs ys : List V} (h : some (HO.lst xs) = some (HO.lst ys)) : xs = ys := HO.lst.inj (Option.some.inj h)
/-- THE BAG at b: three numbers, and at c the list of cells cs -/
def BagAt (H : Hp) (b c : Addr) (cs : List Int) : Prop := ∃ g m i : Int, H b = some (.lst [.int g, .int m, .int i, .ref c]) ∧ H c = some (.lst (iv cs)) ∧ 0 ≤ g ∧ 0 ≤ m ∧ m < 2147483647 ∧ 0 ≤ i ∧ ∀ x ∈ cs, 0 ≤ x
def Bag (H : Hp) (b : Addr) : Prop := ∃ c cs, BagAt H b c cs
theorem BagAt.same {H H' : Hp} {b c : Addr} {cs : List Int} (x : BagAt H b c cs) (e : Same H H') : BagAt H' b c cs := by
  obtain ⟨g, m, i, h1, h2, r⟩ := x
  exact ⟨g, m, i, e _ _ h1, e _ _ h2, r⟩
theorem Bag.same {H H' : Hp} {b : Addr} (x : Bag H b) (e : Same H H') : Bag H' b := by
  obtain ⟨c, cs, x⟩ := x
  exact ⟨c, cs, x.same e⟩
theorem Bag.lst {H : Hp} {b : Addr} (x : Bag H b) : ∃ xs, H b = some (.lst xs) := by
  obtain ⟨c, cs, g, m, i, h1, _⟩ := x
  exact ⟨_, h1⟩
/-- ANOTHER STATE, behind draws from the bag at b (its cells stay) -/
structure Drew (b : Addr) (H H' : Hp) : Prop where
  but : But b H H'
  keeps : ∀ c cs, BagAt H b c cs → BagAt H' b c cs
  pre : Bag H b
theorem Drew.bag {b : Addr} {H H' : Hp} (x : Drew b H H') : Bag H' b := by
  obtain ⟨c, cs, y⟩ := x.pre
  exact ⟨c, cs, x.keeps c cs y⟩
theorem Drew.trans {b : Addr} {H H1 H2 : Hp} (x : Drew b H H1) (y : Drew b H1 H2) : Drew b H H2 := ⟨x.but.trans y.but, fun c cs h => y.keeps c cs (x.keeps c cs h), x.pre⟩
theorem Drew.same {b : Addr} {H H1 H2 : Hp} (x : Drew b H H1) (y : Same H1 H2) : Drew b H H2 := ⟨x.but.trans (But.of y), fun c cs h => (x.keeps c cs h).same y, x.pre⟩
theorem Drew.of {b : Addr} {H H1 : Hp} (x : Bag H b) (y : Same H H1) : Drew b H H1 := ⟨But.of y, fun c cs h => h.same y, x⟩
theorem Drew.refl {b : Addr} {H : Hp} (x : Bag H b) : Drew b H H := Drew.of x (Same.refl H)
theorem Drew.free {b : Addr} {H H' : Hp} (x : Drew b H H') {l : Addr} (h : H' l = none) : H l = none := by
  by_cases e : l = b
  · obtain ⟨xs, q⟩ := x.bag.lst
    rw [e, q] at h
    cases h
  · cases q : H l with
    | none => rfl
    | some o =>
      rw [x.but l o e q] at h
      cases h
theorem Bag.ne {H : Hp} {b l : Addr} (x : Bag H b) (h : H l = none) : l ≠ b := by
  obtain ⟨xs, q⟩ := x.lst
  exact (ne_of_none q h).symm
/-- something of one's own is laid or written -/
theorem Drew.put {b : Addr} {H H' : Hp} (x : Drew b H H') {l : Addr} (nl : H l = none) {o : HO} : Drew b H (upd H' l o) := by
  refine ⟨fun c u n e => ?_, fun c cs h => ?_, x.pre⟩
  · rw [upd_ne (ne_of_none e nl)]
    exact x.but c u n e
  · obtain ⟨g, m, i, h1, h2, r⟩ := id h
    obtain ⟨g', m', i', k1, k2, r'⟩ := x.keeps c cs h
    exact ⟨g', m', i', by rw [upd_ne (ne_of_none h1 nl)]; exact k1, by rw [upd_ne (ne_of_none h2 nl)]; exact k2, r'⟩
theorem Drew.new {b : Addr} {H H' : Hp} (x : Drew b H H') {l : Addr} (nl : H' l = none) {o : HO} : Drew b H (upd H' l o) := x.put (x.free nl)
/-- something of one's own was laid at L and is written later -/
theorem Drew.past {b L : Addr} {H2 H3 H5 H6 : Hp} (d : Drew b H2 H3) (nL : H3 L = none) (s : Same H3 H5) (bt : But L H5 H6) : Drew b H2 H6 := by
  refine ⟨fun c o n e => ?_, fun c cs h => ?_, d.pre⟩
  · have e3 := d.but c o n e
    exact bt c o (ne_of_none e3 nL) (s _ _ e3)
  · obtain ⟨g, m, i, k1, k2, r⟩ := d.keeps c cs h
    exact ⟨g, m, i, bt _ _ (ne_of_none k1 nL) (s _ _ k1), bt _ _ (ne_of_none k2 nL) (s _ _ k2), r⟩
/-- THE CLOCK of the stays ns at p -/
structure ClkAt (K : PySem.W.Frag) (C : Addr) (H : Hp) (p : Addr) (ns : List Int) : Prop where
  ok : Clk.Valid ns
  ex : ∃ dx t : Addr, H p = some (.ins C dx [("_stays", .ref t)]) ∧ SqT K H t (iv ns)
theorem ClkAt.same {K : PySem.W.Frag} {C : Addr} {H H' : Hp} {p : Addr} {ns : List Int} (x : ClkAt K C H p ns) (e : Same H H') : ClkAt K C H' p ns := by
  obtain ⟨dx, t, h1, h2⟩ := x.ex
  exact ⟨x.ok, dx, t, e _ _ h1, Same.set e h2⟩
theorem lst_ne_tup {xs ys : List V} : HO.lst xs ≠ HO.tup ys := fun h => nomatch h
theorem lst_ne_frz {xs : List V} {o : Obj} {u : HO} : HO.lst xs ≠ HO.frz o u := fun h => nomatch h
theorem lst_ne_ins {xs : List V} {C d : Addr} {fs : List (Str × V)} : HO.lst xs ≠ HO.ins C d fs := fun h => nomatch h
/-- the bag is no clock and no tuple -/
theorem ClkAt.but {K : PySem.W.Frag} {C b : Addr} {H H' : Hp} {p : Addr} {ns : List Int} (x : ClkAt K C H p ns) (g : ∃ xs, H b = some (.lst xs)) (e : But b H H') : ClkAt K C H' p ns := by
  obtain ⟨dx, t, h1, h2⟩ := x.ex
  obtain ⟨xs, hb⟩ := g
  refine ⟨x.ok, dx, t, e _ _ (ne_of h1 hb fun z => nomatch z) h1, ?_⟩
  rcases h2 with (h | ⟨o, h⟩) | h
  · exact .inl (.inl (e _ _ (ne_of h hb fun z => nomatch z) h))
  · exact .inl (.inr ⟨o, e _ _ (ne_of h hb fun z => nomatch z) h⟩)
  · exact .inr h
theorem ClkAt.drew {K : PySem.W.Frag} {C b : Addr} {H H' : Hp} {p : Addr} {ns : List Int} (x : ClkAt K C H p ns) (g : Bag H b) (e : Drew b H H') : ClkAt K C H' p ns := x.but g.lst e.but
end Hn
namespace Hn
open PySem L2
theorem Ints.ty {K : PySem.W.Frag} {H : Hp} {a : Addr} {ns : List Int} (h : Ints K H a ns) : (TyX K H (.ref a) (.type "list") ∨ TyX K H (.ref a) (.type "tuple")) := by
  rcases h with ((h | ⟨o, h⟩) | ⟨o, its, n, h1, h2, _⟩) | ((h | ⟨o, h⟩) | ⟨o, its, n, h1, h2, _⟩)
  · exact .inl (.base (.lst h))
  · exact .inl (.base (.frz h))
  · exact .inl (.kList h1 h2)
  · exact .inr (.base (.tup h))
  · exact .inr (.fTuple h)
  · exact .inr (.kTuple h1 h2)
theorem seq_ty {K : PySem.W.Frag} {H : Hp} {a : Addr} {xs : List V} (h : SqL K H a xs ∨ SqT K H a xs) : (TyX K H (.ref a) (.type "list") ∨ TyX K H (.ref a) (.type "tuple")) := by
  rcases h with ((h | ⟨o, h⟩) | ⟨o, its, n, h1, h2, _⟩) | ((h | ⟨o, h⟩) | ⟨o, its, n, h1, h2, _⟩)
  · exact .inl (.base (.lst h))
  · exact .inl (.base (.frz h))
  · exact .inl (.kList h1 h2)
  · exact .inr (.base (.tup h))
  · exact .inr (.fTuple h)
  · exact .inr (.kTuple h1 h2)
theorem kit_seq {K : PySem.W.Frag} {H : Hp} {a : Addr} {xs : List V} (h : SqL K H a xs ∨ SqT K H a xs) : ∃ t, TyX K H (.ref a) t ∧ PySem.W.kitAny K t [.type "list", .type "tuple"] = some true := by
  rcases seq_ty h with h | h
  · exact ⟨_, h, kitAny_cons (b := true) (kit_ty (by decide +kernel)) (fun z => nomatch z) fun _ => rfl⟩
  · exact ⟨_, h, kitAny_cons (b := false) (kit_ty (by decide +kernel)) (fun _ => kitAny_cons (b := true) (kit_ty (by decide +kernel)) (fun z => nomatch z) fun _ => rfl) fun z => nomatch z⟩
theorem kit_lt {K : PySem.W.Frag} {H : Hp} {a : Addr} {ns : List Int} (h : Ints K H a ns) : ∃ t, TyX K H (.ref a) t ∧ PySem.W.kitAny K t [.type "list", .type "tuple"] = some true := by
  rcases h.ty with h | h
  · exact ⟨_, h, kitAny_cons (b := true) (kit_ty (by decide +kernel)) (fun z => nomatch z) fun _ => rfl⟩
  · exact ⟨_, h, kitAny_cons (b := false) (kit_ty (by decide +kernel)) (fun _ => kitAny_cons (b := true) (kit_ty (by decide +kernel)) (fun z => nomatch z) fun _ => rfl) fun z => nomatch z⟩
theorem not_not_true {A B : Prop} (h : B) : if (!true) = true then A else B := iteF h
theorem dec_t {c A B : Prop} [Decidable c] (hc : c) (h : A) : if decide c = true then A else B := by
  rw [decide_eq_true hc]
  exact iteT h
theorem dec_f {c A B : Prop} [Decidable c] (hc : ¬ c) (h : B) : if decide c = true then A else B := by
  rw [decide_eq_false hc]
  exact iteF h
theorem small_line {n : Nat} (h : n ≤ 10000) : n < sizeLine := Nat.lt_of_le_of_lt h (by decide)
theorem small_line' {n : Nat} (h : n ≤ 10000) : n ≤ sizeLine := Nat.le_of_lt (small_line h)
/-- bools as V's -/
abbrev bv (bs : List Bool) : List V := bs.map V.bl
end Hn
namespace Hn
open PySem L2
theorem take_next {α : Type} {l : List α} {i : Nat} (h : i < l.length) : l.take (i + 1) = l.take i ++ [l[i]] := by
  rw [List.take_add_one, List.getElem?_eq_getElem h]
  rfl
/-- what a comprehension's reading asks -/
def LcG (J : It) (g : TG) (tt : TT) (te : TE) (vs : List Nat) (σ : L2.St) (H1 : Hp) (D : Addr) (Qd : Hp → Prop) : Prop :=
  ∃ W : Nat → Nat → Hp → Prop, (∃ m, W 0 m (upd H1 D (.lst []))) ∧ ∀ i m H, W i m H →
    (J.stop i H ∧ Qd H) ∨ (J.go i H ∧ ∃ Nx : Hp → Prop, (∀ H', Nx H' → ∃ m', m' < m ∧ W (i + 1) m' H') ∧ ∀ x H', J.yld i H x H' → g x (wipe σ vs) H' fun σ2 H2 => wipe σ2 vs = wipe σ vs ∧ tt σ2 H2 fun b H3 =>
      if b = true then te σ2 H3 fun y H4 => ∃ acc, H4 D = some (.lst acc) ∧ acc.length < sizeLine ∧ Nx (upd H4 D (.lst (acc ++ [y]))) else Nx H3)
theorem wipe_one (σ : L2.St) (j : Nat) (x : V) : wipe ((wipe σ [j]).set j (some x)) [j] = wipe σ [j] := by
  show ((σ.set j none).set j (some x)).set j none = σ.set j none
  rw [List.set_set, List.set_set]
/-- an element that changes nothing: over n items x 0, x 1, .., the list of the f i -/
theorem same_turn {H1 H : Hp} {D : Addr} {f : Nat → V} {i : Nat} {H4 : Hp} (nD : H1 D = none) (sm : Same H1 H) (hD : H D = some (.lst ((List.range i).map f))) (h : Same H H4) :
    H4 D = some (.lst ((List.range i).map f)) ∧ Same H1 (upd H4 D (.lst ((List.range i).map f ++ [f i]))) ∧ upd H4 D (.lst ((List.range i).map f ++ [f i])) D = some (.lst ((List.range (i + 1)).map f)) := by
  refine ⟨h _ _ hD, fun b o e => ?_, ?_⟩
  · rw [upd_ne (ne_of_none e nD)]
    exact h _ _ (sm _ _ e)
  · rw [upd_same, List.range_succ, List.map_append]
    rfl
theorem lc_mapL {K : PySem.W.Frag} {a : Addr} {xs : List V} {te : TE} {j : Nat} {σ : L2.St} {H1 : Hp} {D : Addr} {Qd : Hp → Prop} (f : Nat → V) (hS : SqL K H1 a xs) (nD : H1 D = none) (hz : xs.length ≤ 10000)
    (he : ∀ i (hi : i < xs.length) (H : Hp) (R : VK), Same H1 H → (∀ H4, Same H H4 → R (f i) H4) → te ((wipe σ [j]).set j (some xs[i])) H R)
    (hd : ∀ H, Same H1 H → H D = some (.lst ((List.range xs.length).map f)) → Qd H) : LcG (Itl K a) (gName j) tYes te [j] σ H1 D Qd := by
  refine lc_list (K := K) (a := a) (xs := xs) (fun i H => Same H1 H ∧ H D = some (.lst ((List.range i).map f))) ⟨same_new nD, upd_same⟩ (fun i H _ h => h.1.seq hS) (fun i x H hx h => ?_) (fun H h => hd H h.1 h.2)
  have hi : i < xs.length := (List.getElem?_eq_some_iff.mp hx).1
  rw [List.getElem?_eq_getElem hi] at hx
  cases hx
  refine ⟨wipe_one _ _ _, he i hi H _ h.1 fun H4 s4 => ?_⟩
  obtain ⟨q1, q2, q3⟩ := same_turn (f := f) nD h.1 h.2 s4
  exact ⟨_, q1, by rw [List.length_map, List.length_range]; exact small_line (by omega), q2, q3⟩
theorem lc_mapT {K : PySem.W.Frag} {a : Addr} {xs : List V} {te : TE} {j : Nat} {σ : L2.St} {H1 : Hp} {D : Addr} {Qd : Hp → Prop} (f : Nat → V) (hS : SqT K H1 a xs) (nD : H1 D = none) (hz : xs.length ≤ 10000)
    (he : ∀ i (hi : i < xs.length) (H : Hp) (R : VK), Same H1 H → (∀ H4, Same H H4 → R (f i) H4) → te ((wipe σ [j]).set j (some xs[i])) H R)
    (hd : ∀ H, Same H1 H → H D = some (.lst ((List.range xs.length).map f)) → Qd H) : LcG (Itt K a) (gName j) tYes te [j] σ H1 D Qd := by
  refine lc_tup (K := K) (a := a) (xs := xs) (fun i H => Same H1 H ∧ H D = some (.lst ((List.range i).map f))) ⟨same_new nD, upd_same⟩ (fun i H _ h => Same.set h.1 hS) (fun i x H hx h => ?_) (fun H h => hd H h.1 h.2)
  have hi : i < xs.length := (List.getElem?_eq_some_iff.mp hx).1
  rw [List.getElem?_eq_getElem hi] at hx
  cases hx
  refine ⟨wipe_one _ _ _, he i hi H _ h.1 fun H4 s4 => ?_⟩
  obtain ⟨q1, q2, q3⟩ := same_turn (f := f) nD h.1 h.2 s4
  exact ⟨_, q1, by rw [List.length_map, List.length_range]; exact small_line (by omega), q2, q3⟩
theorem lc_mapR {lo : Int} {n : Nat} {te : TE} {j : Nat} {σ : L2.St} {H1 : Hp} {D : Addr} {Qd : Hp → Prop} (f : Nat → V) (nD : H1 D = none) (hz : n ≤ 10000)
    (he : ∀ i (_ : i < n) (H : Hp) (R : VK), Same H1 H → (∀ H4, Same H H4 → R (f i) H4) → te ((wipe σ [j]).set j (some (.int (lo + i)))) H R)
    (hd : ∀ H, Same H1 H → H D = some (.lst ((List.range n).map f)) → Qd H) : LcG (Itr lo n) (gName j) tYes te [j] σ H1 D Qd := by
  refine lc_range (lo := lo) (n := n) (fun i H => Same H1 H ∧ H D = some (.lst ((List.range i).map f))) ⟨same_new nD, upd_same⟩ (fun i H hi h => ?_) (fun H h => hd H h.1 h.2)
  refine ⟨wipe_one _ _ _, he i hi H _ h.1 fun H4 s4 => ?_⟩
  obtain ⟨q1, q2, q3⟩ := same_turn (f := f) nD h.1 h.2 s4
  exact ⟨_, q1, by rw [List.length_map, List.length_range]; exact small_line (by omega), q2, q3⟩
/-- the items by their places -/
theorem range_get {α β : Type} {l : List α} {f : Nat → β} {g : α → β} (h : ∀ i (hi : i < l.length), f i = g l[i]) : (List.range l.length).map f = l.map g := by
  apply List.ext_getElem?
  intro i
  by_cases hi : i < l.length
  · rw [List.getElem?_map, List.getElem?_range hi, List.getElem?_map, List.getElem?_eq_getElem hi]
    exact congrArg some (h i hi)
  · rw [List.getElem?_eq_none (by rw [List.length_map, List.length_range]; omega), List.getElem?_eq_none (by rw [List.length_map]; omega)]
end Hn
namespace Hn
open PySem L2
/-- what a loop's reading asks -/
def ForG (J : It) (g : TG) (tb : TS) (D : Ends) (σ : L2.St) (H1 : Hp) : Prop := ∃ W : Nat → Nat → L2.St → Hp → Prop, (∃ m, W 0 m σ H1) ∧ ∀ i m σ H, W i m σ H →
  (J.stop i H ∧ D.nx σ H) ∨ (J.go i H ∧ ∃ N : L2.St → Hp → Prop, (∀ σ' H', N σ' H' → ∃ m', m' < m ∧ W (i + 1) m' σ' H') ∧ ∀ x H', J.yld i H x H' → g x σ H' fun σ2 H2 => tb { D with nx := N, ct := N, bk := D.nx } σ2 H2)
theorem for_enumL {K : PySem.W.Frag} {a : Addr} {xs : List V} {g : TG} {tb : TS} {D : Ends} {σ : L2.St} {H : Hp} (Pv : Nat → L2.St → Hp → Prop) (h0 : Pv 0 σ H) (hl : ∀ i σ H, Pv i σ H → SqL K H a xs)
    (hs : ∀ i (hi : i < xs.length) σ H (T : Addr), Pv i σ H → H T = none → g (.ref T) σ (upd H T (.tup [.int (i : Nat), xs[i]])) fun σ2 H2 => tb { D with nx := Pv (i + 1), ct := Pv (i + 1), bk := D.nx } σ2 H2)
    (hd : ∀ σ H, Pv xs.length σ H → D.nx σ H) : ForG (Ite K a) g tb D σ H := by
  refine ⟨fun i m σ H => m = xs.length - i ∧ i ≤ xs.length ∧ Pv i σ H, ⟨_, rfl, Nat.zero_le _, h0⟩, ?_⟩
  rintro i m σ H ⟨rfl, hi, p⟩
  have q := hl i σ H p
  by_cases hlt : i < xs.length
  · refine .inr ⟨⟨xs, xs[i], q, List.getElem?_eq_getElem hlt⟩, Pv (i + 1), fun σ' H' p' => ⟨xs.length - (i + 1), by omega, rfl, hlt, p'⟩, ?_⟩
    rintro x H' ⟨T, y, rfl, nT, rfl, hy⟩
    have e := hy xs q
    rw [List.getElem?_eq_getElem hlt] at e
    cases e
    exact hs i hlt σ H T p nT
  · obtain rfl : i = xs.length := by omega
    exact .inl ⟨⟨xs, q, Nat.le_refl _⟩, hd σ H p⟩
theorem for_enumT {K : PySem.W.Frag} {a : Addr} {xs : List V} {g : TG} {tb : TS} {D : Ends} {σ : L2.St} {H : Hp} (Pv : Nat → L2.St → Hp → Prop) (h0 : Pv 0 σ H) (hl : ∀ i σ H, Pv i σ H → SqT K H a xs)
    (hs : ∀ i (hi : i < xs.length) σ H (T : Addr), Pv i σ H → H T = none → g (.ref T) σ (upd H T (.tup [.int (i : Nat), xs[i]])) fun σ2 H2 => tb { D with nx := Pv (i + 1), ct := Pv (i + 1), bk := D.nx } σ2 H2)
    (hd : ∀ σ H, Pv xs.length σ H → D.nx σ H) : ForG (ItE K a) g tb D σ H := by
  refine ⟨fun i m σ H => m = xs.length - i ∧ i ≤ xs.length ∧ Pv i σ H, ⟨_, rfl, Nat.zero_le _, h0⟩, ?_⟩
  rintro i m σ H ⟨rfl, hi, p⟩
  have q := hl i σ H p
  by_cases hlt : i < xs.length
  · refine .inr ⟨⟨xs, xs[i], q, List.getElem?_eq_getElem hlt⟩, Pv (i + 1), fun σ' H' p' => ⟨xs.length - (i + 1), by omega, rfl, hlt, p'⟩, ?_⟩
    rintro x H' ⟨T, y, rfl, nT, rfl, hy⟩
    have e := hy xs q
    rw [List.getElem?_eq_getElem hlt] at e
    cases e
    exact hs i hlt σ H T p nT
  · obtain rfl : i = xs.length := by omega
    exact .inl ⟨⟨xs, q, Nat.le_refl _⟩, hd σ H p⟩
/-- the item at an hour round about -/
theorem at_round {ns : List Int} (hp : 0 < ns.length) (x : Int) : atI (iv ns) (x % (ns.length : Int)) = some (.int (Clk.S ns x)) := by
  obtain ⟨h, e⟩ := Clk.S_at hp x
  have h1 := Int.emod_nonneg x (show (ns.length : Int) ≠ 0 by omega)
  rw [e]
  exact at_of (j := (x % (ns.length : Int)).toNat) (by omega) (iv_get h)
end Hn
namespace Hn
open PySem L2
/-- all that was tracked is as it was, but what stands at p -/
theorem ints_but {K : PySem.W.Frag} {H H' : Hp} {a : Addr} {ns : List Int} (h : Ints K H a ns) (e : Same H H') : Ints K H' a ns := h.same e
theorem Same.ins {H H' : Hp} {p C dx : Addr} {fs : List (Str × V)} (e : Same H H') (h : H p = some (.ins C dx fs)) : H' p = some (.ins C dx fs) := e _ _ h
/-- behind the making of a clock -/
theorem made_same {H H2 : Hp} {x dx C : Addr} (nx : H x = none) (nd : H dx = none) (k : ∀ b o, b ≠ x → upd (upd H dx (.own x)) x (.ins C dx []) b = some o → H2 b = some o) : Same H H2 := fun b o e =>
  k b o (ne_of_none e nx) (by rw [upd_ne (ne_of_none e nx), upd_ne (ne_of_none e nd)]; exact e)
theorem made_ints {K : PySem.W.Frag} {H : Hp} {x dx C a : Addr} {ns : List Int} (nx : H x = none) (nd : H dx = none) (h : Ints K H a ns) : Ints K (upd (upd H dx (.own x)) x (.ins C dx [])) a ns :=
  h.same fun b o e => by
    rw [upd_ne (ne_of_none e nx), upd_ne (ne_of_none e nd)]
    exact e
end Hn
namespace Hn
open PySem L2
theorem range_row (n : Nat) (f : Int → Int) : (List.range n).map (fun i : Nat => V.int (f (i : Int))) = iv (Clk.row n f) := by
  unfold iv Clk.row
  rw [List.map_map]
  rfl
/-- t[f:], t[:f] -/
theorem cut_lo {xs : List V} {f : Nat} (h : f ≤ xs.length) : cutV xs (some (f : Int)) none = xs.drop f := by
  unfold cutV
  rw [HT.sIx_nat, HT.sIx_none, Nat.min_eq_left h]
  exact List.take_of_length_le (by rw [List.length_drop]; exact Nat.le_refl _)
theorem cut_hi {xs : List V} {f : Nat} (h : f ≤ xs.length) : cutV xs none (some (f : Int)) = xs.take f := by
  unfold cutV
  rw [HT.sIx_none, HT.sIx_nat, Nat.min_eq_left h]
  rfl
end Hn
namespace Hn
open PySem L2
theorem at_hour {ns : List Int} {i : Int} (h0 : 0 ≤ i) (hn : i < ns.length) : atI (iv ns) i = some (.int (Clk.S ns i)) := by
  obtain ⟨j, rfl⟩ := Int.eq_ofNat_of_zero_le h0
  have hj : j < ns.length := by omega
  rw [Clk.S_get hj]
  exact atI_nat (iv_get hj)
end Hn
namespace Hn
open PySem L2
/-- elements that are drawn -/
theorem lc_drawR {b : Addr} {lo : Int} {n : Nat} {te : TE} {j : Nat} {σ : L2.St} {H1 : Hp} {D : Addr} {Qd : Hp → Prop} (Pr : Nat → Int → Prop) (hb : Bag H1 b) (nD : H1 D = none) (hz : n ≤ 10000)
    (he : ∀ i (_ : i < n) (H : Hp) (R : VK), Drew b H1 H → (∀ H4 v, Drew b H H4 → Pr i v → R (.int v) H4) → te ((wipe σ [j]).set j (some (.int (lo + i)))) H R)
    (hd : ∀ H vs, Drew b H1 H → H D = some (.lst (iv vs)) → vs.length = n → (∀ i (h : i < vs.length), Pr i vs[i]) → Qd H) : LcG (Itr lo n) (gName j) tYes te [j] σ H1 D Qd := by
  refine lc_range (lo := lo) (n := n) (fun i H => ∃ vs : List Int, Drew b H1 H ∧ H D = some (.lst (iv vs)) ∧ vs.length = i ∧ ∀ k (h : k < vs.length), Pr k vs[k])
    ⟨[], Drew.of hb (same_new nD), upd_same, rfl, fun k h => nomatch h⟩ (fun i H hi ⟨vs, d, hD, hl, hp⟩ => ?_) (fun H ⟨vs, d, hD, hl, hp⟩ => hd H vs d hD hl hp)
  refine ⟨wipe_one _ _ _, he i hi H _ d fun H4 v d4 pv => ?_⟩
  refine ⟨iv vs, d4.but _ _ (hb.ne nD) hD, by rw [iv_len]; exact small_line (by omega), vs ++ [v], (d.trans d4).put nD, ?_, by rw [List.length_append, hl]; rfl, fun k h => ?_⟩
  · rw [upd_same]
    unfold iv
    rw [List.map_append]
    rfl
  · rw [List.length_append] at h
    by_cases hk : k < vs.length
    · rw [List.getElem_append_left hk]
      exact hp k hk
    · have e : k = vs.length := by
        have : [v].length = 1 := rfl
        omega
      subst e
      rw [List.getElem_append_right (Nat.le_refl _)]
      simp only [Nat.sub_self, List.getElem_cons_zero]
      rw [hl]
      exact pv
end Hn

/-! Dat -/
/-! data compared: lists of ints, of bools, rows of these -/
namespace Hn
open PySem L2
abbrev dI (ns : List Int) : PyData := .list (ns.map PyData.int)
abbrev dB (bs : List Bool) : PyData := .list (bs.map PyData.bool)
theorem dpI {K : PySem.W.Frag} {H : Hp} : ∀ ns : List Int, DpAll K H (iv ns) (ns.map PyData.int)
  | [] => .nil
  | x :: r => .cons (.int x) (dpI r)
theorem dpB {K : PySem.W.Frag} {H : Hp} : ∀ bs : List Bool, DpAll K H (bv bs) (bs.map PyData.bool)
  | [] => .nil
  | x :: r => .cons (.bl x) (dpB r)
theorem Dp.ints {K : PySem.W.Frag} {H : Hp} {a : Addr} {ns : List Int} (h : SqL K H a (iv ns)) : Dp K H (.ref a) (dI ns) := .lst h (dpI ns)
theorem Dp.bools {K : PySem.W.Frag} {H : Hp} {a : Addr} {bs : List Bool} (h : SqL K H a (bv bs)) : Dp K H (.ref a) (dB bs) := .lst h (dpB bs)
theorem lay_all : ∀ {ds : List PyData}, (∀ d ∈ ds, d.canLay0 = true) → PyData.canLayAll0 ds = true
  | [], _ => rfl
  | d :: r, h => by
    show (d.canLay0 && PyData.canLayAll0 r) = true
    rw [h d (List.mem_cons_self ..), lay_all fun x hx => h x (List.mem_cons_of_mem _ hx)]
    rfl
theorem depth_all {n : Nat} : ∀ {ds : List PyData}, (∀ d ∈ ds, d.depth ≤ n) → PyData.depthAll ds ≤ n
  | [], _ => Nat.zero_le _
  | d :: r, h => by
    show max d.depth (PyData.depthAll r) ≤ n
    exact Nat.max_le.mpr ⟨h d (List.mem_cons_self ..), depth_all fun x hx => h x (List.mem_cons_of_mem _ hx)⟩
end Hn
namespace Hn
open PySem L2
theorem shaped_list {ds : List PyData} (h : ∀ d ∈ ds, d.canLay0 = true ∧ d.depth ≤ 10) : SeqAt.shaped (.list ds) = true := by
  unfold SeqAt.shaped
  rw [show (PyData.list ds).canLay0 = PyData.canLayAll0 ds from rfl, lay_all fun d hd => (h d hd).1, Bool.true_and]
  refine decide_eq_true ?_
  show PyData.depthAll ds + 1 ≤ 64
  have := depth_all (n := 10) fun d hd => (h d hd).2
  omega
theorem lay_I (ns : List Int) : (dI ns).canLay0 = true := lay_all fun d hd => by
  obtain ⟨i, _, rfl⟩ := List.mem_map.mp hd
  rfl
theorem lay_B (ns : List Bool) : (dB ns).canLay0 = true := lay_all fun d hd => by
  obtain ⟨i, _, rfl⟩ := List.mem_map.mp hd
  rfl
theorem dep_I (ns : List Int) : (dI ns).depth ≤ 1 := Nat.succ_le_succ (depth_all fun d hd => by
  obtain ⟨i, _, rfl⟩ := List.mem_map.mp hd
  exact Nat.le_refl 0)
theorem dep_B (ns : List Bool) : (dB ns).depth ≤ 1 := Nat.succ_le_succ (depth_all fun d hd => by
  obtain ⟨i, _, rfl⟩ := List.mem_map.mp hd
  exact Nat.le_refl 0)
theorem shaped_I (ns : List Int) : SeqAt.shaped (dI ns) = true := shaped_list fun d hd => by
  obtain ⟨i, _, rfl⟩ := List.mem_map.mp hd
  exact ⟨rfl, Nat.zero_le _⟩
theorem shaped_B (ns : List Bool) : SeqAt.shaped (dB ns) = true := shaped_list fun d hd => by
  obtain ⟨i, _, rfl⟩ := List.mem_map.mp hd
  exact ⟨rfl, Nat.zero_le _⟩
theorem eqv_same {d : PyData} (h : SeqAt.shaped d = true) : PyData.eqv d d = true := SeqAt.eqv_refl d (SeqAt.canLay_of_shaped h)
theorem eqvAll_I : ∀ a b : List Int, PyData.eqvAll (a.map PyData.int) (b.map PyData.int) = decide (a = b)
  | [], [] => rfl
  | [], y :: r => rfl
  | x :: r, [] => rfl
  | x :: r, y :: t => by
    show ((x == y) && PyData.eqvAll (r.map PyData.int) (t.map PyData.int)) = decide (x :: r = y :: t)
    rw [eqvAll_I r t]
    by_cases h : x = y
    · subst h
      simp
    · simp [h]
theorem eqv_I (a b : List Int) : PyData.eqv (dI a) (dI b) = decide (a = b) := eqvAll_I a b
theorem dpAll_of {K : PySem.W.Frag} {H : Hp} : ∀ {xs : List V} {ds : List PyData}, xs.length = ds.length → (∀ i (h1 : i < xs.length) (h2 : i < ds.length), Dp K H xs[i] ds[i]) → DpAll K H xs ds
  | [], [], _, _ => .nil
  | x :: r, d :: t, hl, h => .cons (h 0 (Nat.zero_lt_succ _) (Nat.zero_lt_succ _)) (dpAll_of (Nat.succ.inj hl) fun i h1 h2 => h (i + 1) (Nat.succ_lt_succ h1) (Nat.succ_lt_succ h2))
end Hn
namespace Hn
open PySem L2
theorem at_row {n : Nat} {f : Int → Int} {i : Int} (h0 : 0 ≤ i) (hn : i < n) : atI (iv (Clk.row n f)) i = some (.int (f i)) := by
  obtain ⟨j, rfl⟩ := Int.eq_ofNat_of_zero_le h0
  have hj : j < n := by omega
  refine atI_nat ?_
  unfold iv
  rw [List.getElem?_map, Clk.row_get hj]
  rfl
theorem at_width {ns : List Int} {i : Int} (h0 : 0 ≤ i) (hn : i < ns.length) : atI (iv (Clk.widths ns)) i = some (.int (Clk.wd ns i)) := at_row h0 hn
/-- l != l : not so -/
theorem ne_same {d : PyData} (h : SeqAt.shaped d = true) : (!PyData.eqv d d) = false := by
  rw [eqv_same h]
  rfl
end Hn
namespace Hn
open PySem L2
/-- elements that are new objects: over n turns, objects f 0, f 1, .. -/
theorem lc_newR {lo : Int} {n : Nat} {te : TE} {j : Nat} {σ : L2.St} {H1 : Hp} {D : Addr} {Qd : Hp → Prop} (f : Nat → HO) (nD : H1 D = none) (hz : n ≤ 10000)
    (he : ∀ i (_ : i < n) (H : Hp) (R : VK), Same H1 H → (∀ H4 p, Same H H4 → H p = none → H4 p = some (f i) → R (.ref p) H4) → te ((wipe σ [j]).set j (some (.int (lo + i)))) H R)
    (hd : ∀ H (as : List Addr), Same H1 H → H D = some (.lst (as.map V.ref)) → as.length = n → (∀ k (h : k < as.length), H as[k] = some (f k)) → Qd H) : LcG (Itr lo n) (gName j) tYes te [j] σ H1 D Qd := by
  refine lc_range (lo := lo) (n := n) (fun i H => ∃ as : List Addr, Same H1 H ∧ H D = some (.lst (as.map V.ref)) ∧ as.length = i ∧ ∀ k (h : k < as.length), as[k] ≠ D ∧ H as[k] = some (f k))
    ⟨[], same_new nD, upd_same, rfl, fun k h => nomatch h⟩ (fun i H hi ⟨as, sm, hD, hl, hp⟩ => ?_) (fun H ⟨as, sm, hD, hl, hp⟩ => hd H as sm hD hl fun k h => (hp k h).2)
  refine ⟨wipe_one _ _ _, he i hi H _ sm fun H4 p s4 np hp4 => ?_⟩
  have hD4 := s4 _ _ hD
  have npD : p ≠ D := (ne_of_none hD np).symm
  refine ⟨as.map V.ref, hD4, by rw [List.length_map]; exact small_line (by omega), as ++ [p], fun b o e => ?_, ?_, by rw [List.length_append, hl]; rfl, fun k h => ?_⟩
  · rw [upd_ne (ne_of_none e nD)]
    exact s4 _ _ (sm _ _ e)
  · rw [upd_same, List.map_append]
    rfl
  · rw [List.length_append] at h
    by_cases hk : k < as.length
    · rw [List.getElem_append_left hk]
      obtain ⟨q1, q2⟩ := hp k hk
      exact ⟨q1, by rw [upd_ne q1]; exact s4 _ _ q2⟩
    · have e : k = as.length := by
        have : [p].length = 1 := rfl
        omega
      subst e
      rw [List.getElem_append_right (Nat.le_refl _)]
      simp only [Nat.sub_self, List.getElem_cons_zero]
      rw [hl]
      exact ⟨npD, by rw [upd_ne npD]; exact hp4⟩
theorem inV_int (x : Int) (ns : List Int) : inV (.int x) (iv ns) = decide (x ∈ ns) := by
  induction ns with
  | nil => rfl
  | cons y r ih =>
    have e : inV (.int x) (iv (y :: r)) = (decide (y = x) || inV (.int x) (iv r)) := rfl
    rw [e, ih]
    by_cases h : y = x
    · subst h
      simp
    · have h2 : ¬ x = y := fun z => h z.symm
      simp [h, h2]
theorem flat_iv (ns : List Int) : (iv ns).all flatV = true := List.all_eq_true.mpr fun x hx => by
  obtain ⟨i, _, rfl⟩ := List.mem_map.mp hx
  rfl
end Hn
namespace Hn
open PySem L2
theorem at_refs {as : List Addr} {i : Nat} (h : i < as.length) : atI (as.map V.ref) (i : Int) = some (.ref as[i]) := atI_nat (by rw [List.getElem?_map, List.getElem?_eq_getElem h]; rfl)
/-- a table of truths -/
def dT (n : Nat) (f : Nat → Nat → Bool) : PyData := .list ((List.range n).map fun h => .list ((List.range n).map fun b => .bool (f h b)))
theorem shaped_T (n : Nat) (f : Nat → Nat → Bool) : SeqAt.shaped (dT n f) = true := shaped_list fun d hd => by
  obtain ⟨h, _, rfl⟩ := List.mem_map.mp hd
  refine ⟨lay_all fun d hd => ?_, ?_⟩
  · obtain ⟨b, _, rfl⟩ := List.mem_map.mp hd
    rfl
  · show PyData.depthAll _ + 1 ≤ 10
    have := depth_all (n := 0) (ds := (List.range n).map fun b => .bool (f h b)) fun d hd => by
      obtain ⟨b, _, rfl⟩ := List.mem_map.mp hd
      exact Nat.le_refl 0
    omega
theorem dp_T {K : PySem.W.Frag} {H : Hp} {D : Addr} {as : List Addr} {n : Nat} {f : Nat → Nat → Bool} (hD : H D = some (.lst (as.map V.ref))) (hl : as.length = n)
    (hk : ∀ k (h : k < as.length), H as[k] = some (.lst ((List.range n).map fun b => .bl (f k b)))) : Dp K H (.ref D) (dT n f) := by
  refine .lst (SqL.of hD) (dpAll_of (by rw [List.length_map, List.length_map, List.length_range]; exact hl) fun i h1 h2 => ?_)
  rw [List.length_map] at h1
  rw [List.getElem_map, List.getElem_map, List.getElem_range]
  refine .lst (SqL.of (hk i h1)) (dpAll_of (by rw [List.length_map, List.length_map]) fun b g1 g2 => ?_)
  rw [List.getElem_map, List.getElem_map]
  exact .bl _
theorem getD_iv {ns : List Int} {i : Nat} (h : i < (iv ns).length) : (iv ns)[i] = V.int (ns.getD i 0) := by
  have h' : i < ns.length := by rwa [iv_len] at h
  rw [List.getElem_map, List.getD_eq_getElem?_getD, List.getElem?_eq_getElem h']
  rfl
theorem map_iv (ns : List Int) (g : Int → Int) : (List.range (iv ns).length).map (fun i => V.int (g (ns.getD i 0))) = iv (ns.map g) := by
  rw [iv_len]
  unfold iv
  rw [List.map_map]
  refine range_get fun i hi => ?_
  rw [List.getD_eq_getElem?_getD, List.getElem?_eq_getElem hi]
  rfl
end Hn

/-! KRules -/
/-! the layer's rules with the written part named: for use within comprehensions -/
namespace Hn
open PySem L2
section
variable {X : Cx} {K : PySem.W.Frag}
def rLenK (K : PySem.W.Frag) : List V → Hp → VK → Prop := fun xs H Q => ∃ p ys, xs = [V.ref p] ∧ (SqL K H p ys ∨ SqT K H p ys) ∧ Q (.int ys.length) H
theorem K_len (h : X.K = K) : CallR X (.builtin "len") (rLenK K) := by subst h; exact call_len_seq
theorem K_ixL (h : X.K = K) : IxR X (rIxL K) := by subst h; exact ix_list
theorem K_ixT (h : X.K = K) : IxR X (rIxT K) := by subst h; exact ix_tup
def rIxQ (K : PySem.W.Frag) : R2 := fun x y H Q => ∃ p xs i v, x = .ref p ∧ y = .int i ∧ (SqL K H p xs ∨ SqT K H p xs) ∧ atI xs i = some v ∧ Q v H
theorem K_ixQ (h : X.K = K) : IxR X (rIxQ K) := by
  subst h
  intro value slice pins s σ H x y v u Q I rx ry ⟨p, xs, i, z, h1, h2, h3, h4, q⟩ hs
  rcases h3 with h3 | h3
  · exact ix_list value slice pins s σ H x y v u Q I rx ry ⟨p, xs, i, z, h1, h2, h3, h4, q⟩ hs
  · exact ix_tup value slice pins s σ H x y v u Q I rx ry ⟨p, xs, i, z, h1, h2, h3, h4, q⟩ hs
def rListK (K : PySem.W.Frag) : List V → Hp → VK → Prop := fun xs H Q => ∃ p ys, xs = [V.ref p] ∧ (SqL K H p ys ∨ SqT K H p ys) ∧ ∀ l, H l = none → Q (.ref l) (upd H l (.lst ys))
theorem K_list (h : X.K = K) : CallR X (.type "list") (rListK K) := by subst h; exact call_list_of
def rTupK (K : PySem.W.Frag) : List V → Hp → VK → Prop := fun xs H Q => ∃ p ys, xs = [V.ref p] ∧ ((SqL K H p ys ∧ ∀ l, H l = none → Q (.ref l) (upd H l (.tup ys))) ∨ (SqT K H p ys ∧ Q (.ref p) H))
theorem K_tuple (h : X.K = K) : CallR X (.type "tuple") (rTupK K) := by subst h; exact call_tuple_of
theorem K_sum (hc : X.calm = true) (h : X.K = K) : CallR X (.builtin "sum") (rSum K) := by subst h; exact cr_sum hc
theorem K_min (hc : X.calm = true) (h : X.K = K) : CallR X (.builtin "min") (rMin K) := by subst h; exact cr_min hc
theorem K_max (hc : X.calm = true) (h : X.K = K) : CallR X (.builtin "max") (rMax K) := by subst h; exact cr_max hc
theorem K_all (hc : X.calm = true) (h : X.K = K) : CallR X (.builtin "all") (rAll K) := by subst h; exact cr_all hc
theorem K_any (hc : X.calm = true) (h : X.K = K) : CallR X (.builtin "any") (rAny K) := by subst h; exact cr_any hc
theorem K_sorted (h : X.K = K) : CallR X (.builtin "sorted") (rSorted K) := by subst h; exact cr_sorted
theorem K_isi (h : X.K = K) : CallR X (.builtin "isinstance") (rIsi K) := by subst h; exact call_isi
theorem K_isiT (h : X.K = K) : CallR X (.builtin "isinstance") (rIsiT K) := by subst h; exact call_isiT
theorem K_eqD (hu : X.A.units + 64 < cLine) (h : X.K = K) : OpR X (compareOp .Eq) (rEqD K) := by subst h; exact op_eqD hu
theorem K_neD (hu : X.A.units + 64 < cLine) (h : X.K = K) : OpR X (compareOp .NotEq) (rNeD K) := by subst h; exact op_neD hu
theorem K_in (h : X.K = K) : OpR X (compareOp .In) (rIn K false) := by subst h; exact op_in_seq
theorem K_notIn (h : X.K = K) : OpR X (compareOp .NotIn) (rIn K true) := by subst h; exact op_notIn_seq
theorem K_catT (h : X.K = K) : OpR X (binaryOp .Add) (rCatT K) := by subst h; exact op_catT
theorem K_slL (h : X.K = K) : SlR X (rSlL K) := by subst h; exact sl_list
theorem K_slT (h : X.K = K) : SlR X (rSlA K) := by subst h; exact sl_tupA
theorem K_revL {e : Expr} {te : TE} {k : Nat} {p1 p2 p3 pos : Pos} (h : X.K = K) (he : PE X e te) : PE X (.Subscript e (.Slice none none (some (.UnaryOp .USub (.Constant (.int 1) k p1) p2)) p3) pos) (tRevL K te) := by subst h; exact pe_revL he
theorem K_fld {e : Expr} {f : Str} {pos : Pos} {ta : TE} (h : X.K = K) (ha : PE X e ta) (hb : attributeBase e f X.env (eval e X.env) = eval e X.env) : PE X (.Attribute e f pos) (tFld K ta f) := by subst h; exact pe_fld ha hb
theorem K_pil {tg l : Expr} {tl : TE} (h : X.K = K) (hl : PE X l tl) : PI X tg l (iList K tl) := by subst h; exact pi_list hl
theorem K_pit {tg l : Expr} {tl : TE} (h : X.K = K) (hl : PE X l tl) : PI X tg l (iTup K tl) := by subst h; exact pi_tup hl
theorem K_piq {tg l : Expr} {tl : TE} (h : X.K = K) (hl : PE X l tl) : PI X tg l (fun σ H R => iList K tl σ H R ∨ iTup K tl σ H R) := by subst h; exact pi_seq hl
theorem K_get (h : X.K = K) : PGet X (rIxL K) := by subst h; exact get_list
theorem K_count (h : X.K = K) : MtR X "list.count" (rCntI K) := by subst h; exact mt_lcount
theorem K_index (h : X.K = K) : MtR X "list.index" (rIndex K) := by subst h; exact mt_index
end
end Hn

/-! Own4 -/
/-! == and != by an own __eq__, whatever it answers -/
namespace Hn
open PySem PySem.Spec L2
open PyProof.Rows hiding St
open PySem.W in
theorem ne_K {prog : Program} {w : World} {A : Around} {E : Value → Shared → Prop} {s : Shared} {K : Frag} {x C L f : Addr} {h₀ : Heap} {m : Str → Option Value} {ox : Obj} {od : Option Obj} {b tb : Value} {Q : Value → Shared → Prop}
    (hu : A.units + 1 < cLine) (F : Fr h₀ L s.heap m) (X₀ : K.In h₀) (I : InstAt s.heap x ox C od) (hb : Looks (model prog w) s.heap (typeOf b) tb) (hn : notFirst K C tb = true)
    (hne : findIn K (.ref C) "__ne__" = some (some (.builtin "object.__ne__"))) (hob : mroIn K C (.type "object") = some true) (hs : findIn K (.ref C) "__eq__" = some (some (.ref f))) (hf : isFn K (.ref f) = true)
    (h : wpAny (model prog w) A.in1 (call (.ref f) [.ref x, b]) (fun v s' => ∃ k, v = .bool k ∧ Q (.bool (!k)) s') E s) : wpAny (model prog w) A (richCompare .NotEq (.ref x) b) Q E s := by
  have X := X₀.keeps F.keep
  have sub : Looks (model prog w) s.heap (isInstance (.ref x) (.type "object")) true := I.type.andThen (looks_mroIn X hob)
  have entry : wpAny (model prog w) A.in1 (Builtin.«object.__ne__» ⟨[.ref x, b], []⟩) (fun fin s' => ∃ v, fin = .done (.ret v) ∧ ∃ k, v = .bool k ∧ Q (.bool k) s') E s := by
    unfold Builtin.«object.__ne__»
    refine wpAny_bind (m := slotArgs "__ne__" 1 _) (wpAny_pure ?_)
    refine wpAny_bind (wpAny_cRoomFor (by show A.units + 1 < cLine; exact hu) ?_)
    refine wpAny_bind (m := callSpecialIfBound? (.ref x) (Str.ofString "__eq__") [b]) (ifBound_K X I hs hf (wpAny_mono h (fun v s' hv => ?_) fun _ _ e => e))
    obtain ⟨k, rfl, q⟩ := hv
    refine wpAny_bind (m := truthy (.bool k)) (wpAny_truthy_bool ?_)
    exact wpAny_pure ⟨_, rfl, _, rfl, q⟩
  have one : wpAny (model prog w) A (tryCompare (.ref x) "__ne__" b) (fun r s' => ∃ k, r = some (.bool k) ∧ Q (.bool k) s') E s := by
    unfold tryCompare
    have cal : wpAny (model prog w) A (call (.builtin "object.__ne__") [.ref x, b]) (fun v s' => ∃ k, v = .bool k ∧ Q (.bool k) s') E s := by
      refine wpAny_call (codeAny_call_builtin PySem.F.cmp_object.ne.plain PySem.F.cmpEntry_ne (@check_slot (model prog w) _ _ _ "object.__ne__" "object" "__ne__" (.ref x) [b] [] _ PySem.F.cmpKind_ne PySem.F.cmpSplit_ne sub (PySem.F.cmpArgs_ne _ _) ?_))
      refine wpAny_mono entry (fun fin s' hq => ?_) fun _ _ e => e
      obtain ⟨v, rfl, q⟩ := hq
      exact q
    refine wpAny_bind (m := callSpecialIfBound? (.ref x) (Str.ofString "__ne__") [b]) ?_
    simp only [callSpecialIfBound?, bindSpecialIfBound?]
    refine wpAny_holding (wpAny_bind (wpAny_bind (wpAny_bind (I.type.here ((looks_findIn X hne).here ?_)))))
    refine wpAny_bind (wpAny_askSetting (wpAny_ite ?_))
    have fin : wpAny (model prog w) A (call (.builtin "object.__ne__") ([.ref x] ++ [b]) >>= fun v => pure (some v)) (fun r s' => ∃ k, r = some (.bool k) ∧ Q (.bool k) s') E s :=
      wpAny_bind (wpAny_mono cal (fun v s' ⟨k, e, q⟩ => wpAny_pure ⟨k, by rw [e], q⟩) fun _ _ h' => h')
    have fin2 : wpAny (model prog w) A (call (.builtin "object.__ne__") ([.ref x] ++ [b]) >>= fun v => pure (some v)) (fun r s' => wpAny (model prog w) A (match r with
      | some .notImplemented | none => pure none
      | some v => pure (some v)) (fun r s' => ∃ k, r = some (.bool k) ∧ Q (.bool k) s') E s') E s := wpAny_mono fin (fun r s' ⟨k, e, q⟩ => by
        subst e
        exact wpAny_pure ⟨k, rfl, q⟩) fun _ _ e => e
    simp only [PySem.F.cmp_object.ne.bind]
    split
    · exact wpAny_bind (wpAny_pure (wpAny_pure fin2))
    · exact wpAny_tryCatch (wpAny_bind (wpAny_pure (wpAny_pure fin2)))
  unfold richCompare
  simp only [oneThing_ref]
  refine wpAny_holding (wpAny_bind (wpAny_cRoomFor (Nat.lt_of_succ_lt hu) ?_))
  refine wpAny_bind (I.type.here (wpAny_bind (hb.here ?_)))
  split
  · rename_i q
    have e : subIn K tb (.ref C) = some false := by
      rcases Bool.or_eq_true_iff.mp hn with e | e
      · rw [beq_iff_eq.mp e] at q
        simp at q
      · exact beq_iff_eq.mp e
    refine wpAny_bind ((looks_subIn X e).here ?_)
    simp only [Bool.false_eq_true, if_false]
    exact wpAny_bind (wpAny_mono one (fun r s' ⟨k, e, q⟩ => by subst e; exact wpAny_pure q) fun _ _ e => e)
  · refine wpAny_bind (wpAny_pure ?_)
    simp only [Bool.false_eq_true, if_false]
    exact wpAny_bind (wpAny_mono one (fun r s' ⟨k, e, q⟩ => by subst e; exact wpAny_pure q) fun _ _ e => e)
/-- o == p, o != p of two instances of the class at C -/
def rCmpOwn (C : Addr) (sp : Sp) (E : XK) (neg : Bool) : R2 := fun x y H Q => ∃ a b dx dy fs gs, x = .ref a ∧ y = .ref b ∧ H a = some (.ins C dx fs) ∧ H b = some (.ins C dy gs) ∧ sp [.ref a, .ref b] H (fun v H' => ∃ k, v = .bl k ∧ Q (.bl (if neg then !k else k)) H') E
section
variable {X : Cx} {CX : CXT} {k : Nat} {C f : Addr} {fd : FuncData} {ps : List Str} {sp : Sp} {E : XK}
theorem op_eqOwn (hm : Meth X.K C "__eq__" f) (F : FnOk X.prog X.w X.K X.mg X.base CX k f fd ps sp) (hr : Room k X.A) (hb : Binds X.K fd ps []) (hx : Passes CX X E) : OpR X (compareOp .Eq) (rCmpOwn C sp E false) := by
  intro pins s σ H x y v u Q I rx ry q
  obtain ⟨a, b, dx, dy, fs, gs, rfl, rfl, ha, hb', q⟩ := q
  cases rx
  cases ry
  obtain ⟨mA, J, _⟩ := ins_get I.hok ha
  obtain ⟨mB, J', _⟩ := ins_get I.hok hb'
  obtain ⟨od, J, _⟩ := J.look
  obtain ⟨od', J', _⟩ := J'.look
  obtain ⟨m, hF⟩ := I.fr
  show wpAny (model X.prog X.w) X.A (richCompare .Eq (.ref a) (.ref b)) (EP X pins σ Q) X.xe s
  refine PySem.W.cmp_K (op := .Eq) (tb := .ref C) hr.units0 hF I.ok.mod.kin J J'.type (by simp [PySem.W.notFirst]) hm.at_ hm.fn ?_
  have r2 : Vals [V.ref a, V.ref b] [Value.ref a, Value.ref b] := .cons rfl (.cons rfl .nil)
  refine wpAny_mono (run_fn (dvs := []) F hr hb .nil hx I r2 q) (fun r s' z => ?_) fun _ _ e => e
  obtain ⟨v, H', I', rv, kk, rfl, q'⟩ := z
  cases rv
  exact ⟨.bl kk, H', I', rfl, q'⟩
theorem op_neOwn (hm : Meth X.K C "__eq__" f) (hne : PySem.W.findIn X.K (.ref C) "__ne__" = some (some (.builtin "object.__ne__"))) (hob : PySem.W.mroIn X.K C (.type "object") = some true) (F : FnOk X.prog X.w X.K X.mg X.base CX k f fd ps sp) (hr : Room (k + 1) X.A)
    (hb : Binds X.K fd ps []) (hx : Passes CX X.nox E) : OpR X (compareOp .NotEq) (rCmpOwn C sp E true) := by
  intro pins s σ H x y v u Q I rx ry q
  obtain ⟨a, b, dx, dy, fs, gs, rfl, rfl, ha, hb', q⟩ := q
  cases rx
  cases ry
  obtain ⟨mA, J, _⟩ := ins_get I.hok ha
  obtain ⟨mB, J', _⟩ := ins_get I.hok hb'
  obtain ⟨od, J, _⟩ := J.look
  obtain ⟨od', J', _⟩ := J'.look
  obtain ⟨m, hF⟩ := I.fr
  have hl : ([V.ref a, V.ref b] : List V).length = ps.length := F.len _ _ _ _ q
  have r2 : Vals [V.ref a, V.ref b] [Value.ref a, Value.ref b] := .cons rfl (.cons rfl .nil)
  show wpAny (model X.prog X.w) X.A (richCompare .NotEq (.ref a) (.ref b)) (EP X pins σ Q) X.xe s
  refine ne_K (tb := .ref C) (Nat.lt_of_le_of_lt (Nat.add_le_add_left (by decide : 1 ≤ 64) _) hr.units) hF I.ok.mod.kin J J'.type (by simp [PySem.W.notFirst]) hne hob hm.at_ hm.fn (wpAny_call (codeAny_mono (F.run X.A.in1 X.stack s H ⟨[.ref a, .ref b], []⟩ [.ref a, .ref b] [.ref a, .ref b] _ E hr.in1 I.env0.in1 (by
    have z := hb s [.ref a, .ref b] I.kIn (by simpa using hl)
    simpa using z) r2 q) fun r s' hq => ?_))
  cases r with
  | error er => exact False.elim (hx pins σ H s er s' (I.wish _) hq)
  | ok fl =>
    cases fl with
    | ret w =>
      obtain ⟨z, H', I', rz, kk, ez, q'⟩ := I.after hq
      subst ez
      cases rz
      exact ⟨kk, rfl, .bl (!kk), H', I', rfl, q'⟩
    | next => exact False.elim hq
    | brk => exact False.elim hq
    | cont => exact False.elim hq
/-- len(o) by an own __len__ -/
def rLenOwn (C : Addr) (sp : Sp) (E : XK) : List V → Hp → VK → Prop := fun xs H Q => ∃ a dx fs, xs = [.ref a] ∧ H a = some (.ins C dx fs) ∧ sp [.ref a] H (fun v H' => ∃ n : Int, v = .int n ∧ 0 ≤ n ∧ n < 2 ^ 63 ∧ Q (.int n) H') E
theorem call_lenOwn (hm : Meth X.K C "__len__" f) (F : FnOk X.prog X.w X.K X.mg X.base CX k f fd ps sp) (hr : Room (k + 1) X.A) (hb : Binds X.K fd ps []) (hx : Passes CX X.nox E) : CallR X (.builtin "len") (rLenOwn C sp E) := by
  intro pins s σ H xs us Q I r q
  obtain ⟨a, dx, fs, rfl, ha, q⟩ := q
  obtain ⟨mA, J, _⟩ := ins_get I.hok ha
  obtain ⟨od, J, _⟩ := J.look
  obtain ⟨m, hF⟩ := I.fr
  cases r with
  | cons r1 r2 =>
    cases r2
    cases r1
    have hl : ([V.ref a] : List V).length = ps.length := F.len _ _ _ _ q
    have r2 : Vals [V.ref a] [Value.ref a] := .cons rfl .nil
    refine PySem.W.len_K hF I.ok.mod.kin J hm.at_ hm.fn (wpAny_call (codeAny_mono (F.run X.A.in1 X.stack s H ⟨[.ref a], []⟩ [.ref a] [.ref a] _ E hr.in1 I.env0.in1 (by
      have z := hb s [.ref a] I.kIn (by simpa using hl)
      simpa using z) r2 q) fun r s' hq => ?_))
    cases r with
    | error er => exact False.elim (hx pins σ H s er s' (I.wish _) hq)
    | ok fl =>
      cases fl with
      | ret w =>
        obtain ⟨z, H', I', rz, n, ez, n0, n1, q'⟩ := I.after hq
        subst ez
        obtain ⟨t, rfl⟩ := rz
        exact ⟨⟨n0, n1⟩, .int n, H', I'.tok _, ⟨_, rfl⟩, q'⟩
      | next => exact False.elim hq
      | brk => exact False.elim hq
      | cont => exact False.elim hq
end
end Hn

/-! Own5 -/
/-! iter(t) of a tuple; list(o), tuple(o) of an instance whose own __iter__ hands back such an iterator -/
namespace Hn
open PySem PySem.Spec L2
open PyProof.Rows hiding St
/-- at it an iterator over the tuple at t, the next place is i -/
def TiO (t it : Addr) (i : Nat) : HO := .ext fun h => h.IsTupleIter it t i
/-- .. that has ended -/
def TiE (it : Addr) : HO := .ext fun h => ∃ o, h.get? it = some o
theorem tiO_ok {P : Program} {w : World} {H : Hp} {h : Heap} {t it : Addr} {i : Nat} (e : h.IsTupleIter it t i) : ObjOk P w H h it (TiO t it i) :=
  ⟨e, let ⟨o, ho, _⟩ := e; ⟨o, ho⟩, fun _ _ q k => let ⟨o, ho, r⟩ := q; ⟨o, k _ ho, r⟩⟩
theorem tiE_ok {P : Program} {w : World} {H : Hp} {h : Heap} {it : Addr} (e : ∃ o, h.get? it = some o) : ObjOk P w H h it (TiE it) :=
  ⟨e, e, fun _ _ q k => let ⟨o, ho⟩ := q; ⟨o, k _ ho⟩⟩
/-- at it an iterator over the list at l -/
def LiO (l it : Addr) (i : Nat) : HO := .ext fun h => h.IsListIter it l i
theorem liO_ok {P : Program} {w : World} {H : Hp} {h : Heap} {l it : Addr} {i : Nat} (e : h.IsListIter it l i) : ObjOk P w H h it (LiO l it i) :=
  ⟨e, let ⟨o, ho, _⟩ := e; ⟨o, ho⟩, fun _ _ q k => let ⟨o, ho, r⟩ := q; ⟨o, k _ ho, r⟩⟩
section
variable {prog : Program} {w : World} {A : Around} {E : Value → Shared → Prop} {s : Shared} {it t : Addr} {i : Nat} {items : Array Value}
theorem tup_end {Q : Option Value → Shared → Prop} (hh : A.handled = none) (hit : s.heap.IsTupleIter it t i) (ht : s.heap.IsTuple t items) (hx : items[i]? = none)
    (hQ : ∀ h', Heap.ExtBut it s.heap h' → (∃ o, h'.get? it = some o) → Q none { s with heap := h' }) : wpAny (model prog w) A (pyNext (.ref it)) Q E s := by
  obtain ⟨o, ho, hc, hd⟩ := id hit
  obtain ⟨ol, hol, _, nl, hdl⟩ := ht
  unfold pyNext
  refine wpAny_bind (wpAny_attempt (wpAny_callSpecial?_slot (name := Str.ofString "__next__") hit.typeIs PySem.F.slot_tuple_iterator_next
    (wpAny_call_entry PySem.F.slot_tuple_iterator_next hit.typeIs PySem.F.entry_tuple_iterator_next ?_ (PySem.F.args_tuple_iterator_next_1 _))))
  show wpAny _ _ (field (.ref it) 0 >>= _) _ _ s
  refine wpAny_bind (wpAny_field ho hd (x := .ref t) rfl ?_)
  show wpAny _ _ (if (Value.ref t == Value.none) = true then _ else _) _ _ s
  rw [if_neg (show ¬ ((Value.ref t == Value.none) = true) from Bool.false_ne_true)]
  show wpAny _ _ (field (.ref it) 1 >>= _) _ _ s
  refine wpAny_bind (wpAny_field ho hd (x := .int i 0) rfl ?_)
  show wpAny _ _ (seqItems? (.ref t) >>= _) _ _ s
  refine wpAny_bind (wpAny_seqItems hol hdl ?_)
  simp only [Int.toNat_natCast, hx]
  refine wpAny_bind (wpAny_rule (wpAny_bind (wpAny_setField ho hd (by simp) ?_)))
  show wpAny _ _ (newExc (.type "StopIteration") [] >>= _) _ _ _
  refine wpAny_bind ?_
  simp only [newExc, newTuple]
  refine wpAny_bind (wpAny_newObj_type ?_ (by size_fits))
  refine wpAny_bind (m := firstArgMember _ _) (wpAny_of_eq (a := Value.none) (by first | rfl | (simp only [firstArgMember]; rfl)) ?_)
  refine wpAny_newObj_type ?_ (by size_fits)
  simp only [raiseNew]
  refine wpAny_bind (wpAny_handled ?_)
  rw [show A.in1.handled = none from hh]
  refine wpAny_bind (wpAny_pure (wpAny_throw ?_))
  refine wpAny_bind (wpAny_isInstance (T := "StopIteration") (b := true) ⟨_, Heap.get?_push_size _ rfl, rfl⟩ PySem.isSubtype_stop ?_)
  refine wpAny_pure (hQ _ (((Heap.SameBut.update ..).extBut.push _).push _) ⟨_, Heap.get?_push_of_some _ (Heap.get?_push_of_some _ (Heap.get?_update_self _ ho ?_))⟩)
  exact Obj.isFreed_of_fields (Obj.data_mapFields hd _)
theorem liT {l : Addr} {i : Nat} (hit : s.heap.IsListIter it l i) : s.TypeIs (.ref it) "list_iterator" := let ⟨o, ho, hc, _⟩ := hit; ⟨o, ho, hc⟩
theorem list_end {Q : Option Value → Shared → Prop} (hh : A.handled = none) (hit : s.heap.IsListIter it t i) (ht : s.heap.IsList t items) (hx : items[i]? = none)
    (hQ : ∀ h', Heap.ExtBut it s.heap h' → (∃ o, h'.get? it = some o) → Q none { s with heap := h' }) : wpAny (model prog w) A (pyNext (.ref it)) Q E s := by
  obtain ⟨o, ho, hc, hd⟩ := id hit
  obtain ⟨ol, hol, _, nl, hdl⟩ := ht
  unfold pyNext
  refine wpAny_bind (wpAny_attempt (wpAny_callSpecial?_slot (name := Str.ofString "__next__") (liT hit) slot_listiter_next
    (wpAny_call_entry slot_listiter_next (liT hit) entry_listiter_next ?_ (args_listiter_next _))))
  show wpAny _ _ (field (.ref it) 0 >>= _) _ _ s
  refine wpAny_bind (wpAny_field ho hd (x := .ref t) rfl ?_)
  show wpAny _ _ (if (Value.ref t == Value.none) = true then _ else _) _ _ s
  rw [if_neg (show ¬ ((Value.ref t == Value.none) = true) from Bool.false_ne_true)]
  show wpAny _ _ (field (.ref it) 1 >>= _) _ _ s
  refine wpAny_bind (wpAny_field ho hd (x := .int i 0) rfl ?_)
  show wpAny _ _ (seqItems? (.ref t) >>= _) _ _ s
  refine wpAny_bind (wpAny_seqItems hol hdl ?_)
  simp only [Int.toNat_natCast, hx]
  refine wpAny_bind (wpAny_rule (wpAny_bind (wpAny_setField ho hd (by simp) ?_)))
  show wpAny _ _ (newExc (.type "StopIteration") [] >>= _) _ _ _
  refine wpAny_bind ?_
  simp only [newExc, newTuple]
  refine wpAny_bind (wpAny_newObj_type ?_ (by size_fits))
  refine wpAny_bind (m := firstArgMember _ _) (wpAny_of_eq (a := Value.none) (by first | rfl | (simp only [firstArgMember]; rfl)) ?_)
  refine wpAny_newObj_type ?_ (by size_fits)
  simp only [raiseNew]
  refine wpAny_bind (wpAny_handled ?_)
  rw [show A.in1.handled = none from hh]
  refine wpAny_bind (wpAny_pure (wpAny_throw ?_))
  refine wpAny_bind (wpAny_isInstance (T := "StopIteration") (b := true) ⟨_, Heap.get?_push_size _ rfl, rfl⟩ PySem.isSubtype_stop ?_)
  refine wpAny_pure (hQ _ (((Heap.SameBut.update ..).extBut.push _).push _) ⟨_, Heap.get?_push_of_some _ (Heap.get?_push_of_some _ (Heap.get?_update_self _ ho ?_))⟩)
  exact Obj.isFreed_of_fields (Obj.data_mapFields hd _)
theorem call_iterTup {Q : Value → Shared → Prop} (ht : s.heap.IsTuple t items) (h : Q (.ref s.heap.objs.size) { s with heap := s.heap.push { cls := .type "tuple_iterator", data := .fields #[.ref t, .int 0 0] } }) :
    wpAny (model prog w) A (call (.builtin "iter") [.ref t]) Q E s := by
  refine Calls.call_function_entry (by decide +kernel) (by decide +kernel) PySem.W.kdk_entry_iter (PySem.W.kdk_args_iter _) ?_
  unfold Builtin.«iter»
  refine wpAny_bind (m := someArgs "iter" 1 2 _) (wpAny_of_eq (a := [Value.ref t]) (by first | rfl | kernel_rfl!) ?_)
  show wpAny _ _ (pyIter (.ref t) >>= _) _ _ _
  refine wpAny_bind (wpAny_pyIter_tuple ht ?_)
  exact wpAny_pure ⟨_, rfl, h⟩
end
section
variable {X : Cx} {pins : List (Addr × Obj)} {σ : L2.St} {H : Hp} {s : Shared} {t it : Addr} {i : Nat}
theorem liO_get {l : Addr} (I : Inv X pins σ H s) (e : H it = some (LiO l it i)) : s.heap.IsListIter it l i := (I.hok it _ e).1
theorem tiO_get (I : Inv X pins σ H s) (e : H it = some (TiO t it i)) : s.heap.IsTupleIter it t i := (I.hok it _ e).1
/-- iter(t), t a tuple -/
def rIterT (K : PySem.W.Frag) : List V → Hp → VK → Prop := fun xs H Q => ∃ (t : Addr) (zs : List V), xs = [.ref t] ∧ SqT K H t zs ∧ ∀ it, H it = none → Q (.ref it) (upd H it (TiO t it 0))
theorem K_iterT {K : PySem.W.Frag} (hK : X.K = K) : CallR X (.builtin "iter") (rIterT K) := by
  subst hK
  intro pins s σ H xs us Q I r h
  obtain ⟨l, zs, rfl, hq, q⟩ := h
  obtain rfl := Vals.ref1 r
  obtain ⟨its, rv, pl, hz⟩ := I.tuple hq
  refine call_iterTup (items := its.toArray) pl ?_
  exact ⟨.ref s.heap.objs.size, _, I.laid (t' := s.toks) (fun b u e => Heap.get?_push_of_some _ e) (Nat.le_refl _) (tiO_ok ⟨_, Heap.get?_push_size _ rfl, rfl, rfl⟩), rfl, q _ (I.hok.fresh (Nat.le_refl _))⟩
/-- the walk of list.extend over a tuple's iterator -/
theorem ti_loop {A1 : Around} {q : Addr} {zs : List V} {res : Value} {Rs : Result → Shared → Prop} (hh : A1.handled = none) (hz : zs.length ≤ sizeLine) :
    ∀ (k i : Nat) (H : Hp) (s : Shared), zs.length - i = k → i ≤ zs.length → Inv X pins σ H s → H q = some (.lst (zs.take i)) → H it = some (TiO t it i) → SqT X.K H t zs →
    (∀ H' s', Inv X pins σ H' s' → (∀ b o, b ≠ q → b ≠ it → H b = some o → H' b = some o) → H' q = some (.lst zs) → Rs (.ok (.ret res)) s') →
    codeAny (model X.prog X.w) A1 (.builtin "list.extend.loop" ⟨[.ref q, .ref it, res], []⟩) Rs s := by
  intro k
  induction k with
  | zero =>
    intro i H s hk hi I hq hit ht hR
    have hin : i = zs.length := by omega
    obtain ⟨its, rv, pl, _⟩ := I.tuple ht
    have hl := rv.length
    refine codeAny_builtin PySem.F.entry_extend_loop ?_
    rw [Around.under_plainId PySem.F.plain_extend_loop _]
    show wpAny _ A1.in1 (pyNext (.ref it) >>= _) _ _ s
    refine wpAny_bind (tup_end (items := its.toArray) hh (tiO_get I hit) pl (by rw [List.getElem?_toArray]; exact List.getElem?_eq_none (by omega)) fun h' eb ex => ?_)
    refine wpAny_pure (hR (upd H it (TiE it)) _ ?_ (fun b o n1 n2 e => by rw [upd_ne n2]; exact e) ?_)
    · exact I.write (x := it) (e := it) (t' := s.toks) (by rw [hit]; exact trivial) (.inl rfl) (fun b u nb e => eb b u nb e) ex (tiE_ok ex)
    · rw [upd_ne (ne_of hq hit fun z => nomatch z), hq, hin, List.take_length]
  | succ k ih =>
    intro i H s hk hi I hq hit ht hR
    have hlt : i < zs.length := by omega
    obtain ⟨its, rv, pl, _⟩ := I.tuple ht
    have hl := rv.length
    obtain ⟨u, hu, ru⟩ := rv.get (List.getElem?_eq_getElem hlt)
    refine codeAny_builtin PySem.F.entry_extend_loop ?_
    rw [Around.under_plainId PySem.F.plain_extend_loop _]
    show wpAny _ A1.in1 (pyNext (.ref it) >>= _) _ _ s
    refine wpAny_bind (wpAny_pyNext_tuple_item (items := its.toArray) (x := u) (tiO_get I hit) pl (by rw [List.getElem?_toArray]; exact hu) fun h' hit' sb => ?_)
    have I1 : Inv X pins σ (upd H it (TiO t it (i + 1))) { s with heap := h' } :=
      I.write (x := it) (e := it) (t' := s.toks) (by rw [hit]; exact trivial) (.inl rfl) (fun b u nb e => sb.extBut b u nb e) (let ⟨o, ho, _⟩ := hit'; ⟨o, ho⟩) (tiO_ok hit')
    have nq : q ≠ it := ne_of hq hit fun z => nomatch z
    have hq1 : upd H it (TiO t it (i + 1)) q = some (.lst (zs.take i)) := by rw [upd_ne nq]; exact hq
    obtain ⟨z2, its2, n2, r2, hl2, e2⟩ := I1.lstM hq1
    show wpAny _ A1.in1 (updateSeq q (·.push u) >>= _) _ _ _
    have htl : (zs.take i).length = i := by rw [List.length_take]; omega
    refine wpAny_bind (wpAny_updateSeq e2 rfl (wpAny_pure ⟨plainId_quiet PySem.F.plain_extend_loop _, ?_⟩) (by rw [List.size_toArray]; omega) (by show (its2.toArray.push u).size ≤ sizeLine + 1; rw [Array.size_push, List.size_toArray]; omega))
    have I2 := I1.lset (f := (·.push u)) (its' := its2 ++ [u]) (ys := zs.take i ++ [zs[i]]) (t' := s.toks) hq1 e2 (by simp) (r2.append (.cons ru .nil)) (by rw [List.length_append, List.length_singleton]; omega)
    refine ih (i + 1) _ _ (by omega) hlt I2 ?_ ?_ ?_ fun H' s' I' kk hq' => hR H' s' I' (fun b o n1 n2 e => kk b o n1 n2 (by rw [upd_ne n1, upd_ne n2]; exact e)) hq'
    · rw [upd_same, List.take_append_getElem hlt]
    · rw [upd_ne nq.symm, upd_same]
    · have n1 : ∀ b o, H b = some o → b ≠ q → b ≠ it → upd (upd H it (TiO t it (i + 1))) q (.lst (zs.take i ++ [zs[i]])) b = some o := fun b o e n1 n2 => by rw [upd_ne n1, upd_ne n2]; exact e
      rcases ht with (h | ⟨o, h⟩) | h
      · exact .inl (.inl (n1 _ _ h (ne_of h hq fun z => nomatch z) (ne_of h hit fun z => nomatch z)))
      · exact .inl (.inr ⟨o, n1 _ _ h (ne_of h hq fun z => nomatch z) (ne_of h hit fun z => nomatch z)⟩)
      · exact .inr h
end
end Hn

/-! Own6 -/
/-! list(o), tuple(o) of an instance with its own __iter__ (a tuple's iterator) and __len__ -/
namespace Hn
open PySem PySem.Spec L2
open PyProof.Rows hiding St
section
variable {X : Cx} {pins : List (Addr × Obj)} {σ : L2.St} {H : Hp} {s : Shared} {C fi fl a q dx : Addr} {fs : List (Str × V)} {fdI fdL : FuncData} {psI psL : List Str} {spI spL : Sp} {EI EL : XK} {n : Nat} {A : Around}
theorem sub_env0 (sb : Sub X n A) (I : Inv X pins σ H s) : Env0 X.prog X.w X.K X.mg X.base A X.stack s H := by
  have e := I.env0
  exact ⟨by rw [sb.fr]; exact e.frames, e.mod, e.bs, e.bsz, e.funs, e.frf, e.hok, e.bare⟩
theorem own_hintLen {Q : Bool → Shared → Prop} {E : Value → Shared → Prop} {Qf : Hp → Prop} (sb : Sub X n A.in1) (hm : Meth X.K C "__len__" fl) (FL : FnOk X.prog X.w X.K X.mg X.base CX0 n fl fdL psL spL) (bL : Binds X.K fdL psL [])
    (I : Inv X pins σ H s) (ha : H a = some (.ins C dx fs)) (h : spL [.ref a] H (fun v H' => ∃ k : Int, v = .int k ∧ 0 ≤ k ∧ k ≤ 10000 ∧ Qf H') EL) (hQ : ∀ b H' s', Inv X pins σ H' s' → Qf H' → Q b s') :
    wpAny (model X.prog X.w) A (Builtin.List.listLengthHint (.ref a)) Q E s := by
  obtain ⟨mA, J, _⟩ := ins_get I.hok ha
  obtain ⟨od, J, _⟩ := J.look
  obtain ⟨m, hF⟩ := I.fr
  have hl : ([V.ref a] : List V).length = psL.length := FL.len _ _ _ _ h
  have r2 : Vals [V.ref a] [Value.ref a] := .cons rfl .nil
  unfold Builtin.List.listLengthHint
  refine wpAny_bind (wpAny_bind (J.type.here ((PySem.W.looks_findIn I.kIn hm.at_).here ?_)))
  refine PySem.W.KFB.if_not rfl ?_
  refine PySem.W.KFB.if_so rfl ?_
  refine wpAny_bind (wpAny_rule ?_)
  refine wpAny_bind (wpAny_attempt (PySem.W.len_K hF I.ok.mod.kin J hm.at_ hm.fn (wpAny_call (codeAny_mono (FL.run A.in1 X.stack s H ⟨[.ref a], []⟩ [.ref a] [.ref a] _ EL sb.room (sub_env0 sb I) (by
      have z := bL s [.ref a] I.kIn (by simpa using hl)
      simpa using z) r2 h) fun r s' hq => ?_))))
  cases r with
  | error er => exact False.elim (pass0 (X := X.nox) pins σ H s er s' (I.wish _) hq)
  | ok f =>
    cases f with
    | ret w =>
      obtain ⟨z, H', I', rz, k, ez, k0, k1, q'⟩ := I.after hq
      subst ez
      obtain ⟨t, rfl⟩ := rz
      refine ⟨⟨k0, by omega⟩, ?_⟩
      show wpAny _ _ (if Builtin.List.listTooLong k.toNat = true then _ else _) _ _ _
      rw [if_neg (by
        show ¬ (decide (k.toNat > sizeLine) = true)
        rw [decide_eq_true_eq]
        have := small_line' (n := k.toNat) (by omega)
        omega)]
      exact wpAny_pure (hQ _ H' _ (I'.tok _) q')
    | next => exact False.elim hq
    | brk => exact False.elim hq
    | cont => exact False.elim hq
/-- what list(o), tuple(o) do with the new list at q -/
def OwnIt (K : PySem.W.Frag) (C : Addr) (spI spL : Sp) (EI EL : XK) (a q : Addr) (R : List V → Hp → Prop) : Hp → Prop := fun H =>
  (∃ dx fs, H a = some (.ins C dx fs)) ∧ spI [.ref a] H (fun v H1 => ∃ (it t : Addr) (zs : List V), v = .ref it ∧ H1 it = some (TiO t it 0) ∧ SqT K H1 t zs ∧ zs.length ≤ 10000 ∧ (∃ dx fs, H1 a = some (.ins C dx fs)) ∧ H1 q = some (.lst []) ∧
    spL [.ref a] H1 (fun v H2 => ∃ k : Int, v = .int k ∧ 0 ≤ k ∧ k ≤ 10000 ∧ H2 it = some (TiO t it 0) ∧ SqT K H2 t zs ∧ H2 q = some (.lst []) ∧
      ∀ H3, (∀ b o, b ≠ q → b ≠ it → H2 b = some o → H3 b = some o) → H3 q = some (.lst zs) → R zs H3) EL) EI
theorem own_ext {A1 : Around} {res : Value} {Rs : Result → Shared → Prop} {R : List V → Hp → Prop} (hh : A1.handled = none) (sb : Sub X (n + 1) A1.in1) (hi : Meth X.K C "__iter__" fi) (FI : FnOk X.prog X.w X.K X.mg X.base CX0 n fi fdI psI spI) (bI : Binds X.K fdI psI [])
    (hm : Meth X.K C "__len__" fl) (FL : FnOk X.prog X.w X.K X.mg X.base CX0 n fl fdL psL spL) (bL : Binds X.K fdL psL [])
    (I : Inv X pins σ H s) (hq : H q = some (.lst [])) (h : OwnIt X.K C spI spL EI EL a q R H) (hR : ∀ zs H' s', Inv X pins σ H' s' → H' q = some (.lst zs) → zs.length ≤ 10000 → R zs H' → Rs (.ok (.ret res)) s') :
    wpAny (model X.prog X.w) A1.in1 (Builtin.List.listExtendWith (.ref q) (.ref a) res)
      (fun fin s' => match fin with | .done f => Rs (.ok f) s' | .again c' => c'.quiet = true ∧ codeAny (model X.prog X.w) A1 c' Rs s') (fun e s' => Rs (.error e) s') s := by
  obtain ⟨⟨dx, fs, ha⟩, hspI⟩ := h
  have hne : q ≠ a := ne_of hq ha (fun z => nomatch z)
  obtain ⟨mA, J, _⟩ := ins_get I.hok ha
  obtain ⟨od, J, _⟩ := J.look
  obtain ⟨m0, hF⟩ := I.fr
  have hl : ([V.ref a] : List V).length = psI.length := FI.len _ _ _ _ hspI
  have r2 : Vals [V.ref a] [Value.ref a] := .cons rfl .nil
  have sb0 : Sub X n A1.in1 := sb.mono (Nat.le_succ _)
  unfold Builtin.List.listExtendWith
  refine wpAny_bind (J.type.here ?_)
  have h1 : Builtin.List.listSameRef (.ref q) (.ref a) = false := by simp [Builtin.List.listSameRef, hne]
  have h2 : (Value.ref C == Value.type "list") = false := rfl
  have h3 : (Value.ref C == Value.type "tuple") = false := rfl
  simp only [h1, h2, h3, Bool.or_false, Bool.false_eq_true, if_false]
  refine wpAny_bind (PySem.W.owit_iter hF I.ok.mod.kin J hi.at_ hi.fn ?_)
  refine wpAny_call (codeAny_mono (FI.run A1.in1 X.stack s H ⟨[.ref a], []⟩ [.ref a] [.ref a] _ EI sb0.room (sub_env0 sb0 I) (by
    have z := bI s [.ref a] I.kIn (by simpa using hl)
    simpa using z) r2 hspI) fun r s' hq' => ?_)
  cases r with
  | error er => exact False.elim (pass0 (X := X.nox) pins σ H s er s' (I.wish _) hq')
  | ok f =>
    cases f with
    | next => exact False.elim hq'
    | brk => exact False.elim hq'
    | cont => exact False.elim hq'
    | ret u =>
      obtain ⟨v, H1, I1, rv, it, t, zs, ev, hit, ht, hz, ⟨dx1, fs1, ha1⟩, hq1, hspL⟩ := I.after hq'
      subst ev
      cases rv
      unfold PySem.W.OwitIt
      refine wpAny_specialOf (tiO_get I1 hit).typeIs PySem.F.slot_tuple_iterator_next.lookup ?_
      refine wpAny_bind (wpAny_holding (own_hintLen (sb.in1) hm FL bL I1 ha1 (Qf := fun H2 => H2 it = some (TiO t it 0) ∧ SqT X.K H2 t zs ∧ H2 q = some (.lst []) ∧ ∀ H3, (∀ b o, b ≠ q → b ≠ it → H2 b = some o → H3 b = some o) → H3 q = some (.lst zs) → R zs H3) hspL fun b H2 s2 I2 hf => ?_))
      obtain ⟨hit2, ht2, hq2, k2⟩ := hf
      have go : ∀ (s3 : Shared), Inv X pins σ H2 s3 → codeAny (model X.prog X.w) A1 (.builtin "list.extend.loop" ⟨[.ref q, .ref it, res], []⟩) Rs s3 := fun s3 I3 =>
        ti_loop hh (small_line' hz) _ 0 H2 s3 rfl (Nat.zero_le _) I3 hq2 hit2 ht2 fun H3 s4 I4 k4 hq4 => hR zs H3 s4 I4 hq4 hz (k2 H3 k4 hq4)
      obtain ⟨z, its, c, r3, hl3, e3⟩ := I2.lstM hq2
      cases r3
      refine wpAny_ite_split (fun _ => ?_) (fun _ => wpAny_pure ⟨plainId_quiet PySem.F.plain_extend_loop _, go _ I2⟩)
      refine wpAny_bind (wpAny_rule ?_)
      refine wpAny_bind ?_
      show wpAny _ _ (updateSeq q (·.push .none) >>= fun _ => updateSeq q (·.pop)) _ _ _
      refine wpAny_bind (wpAny_updateSeq e3 rfl ?_)
      have I3 := I2.lset (f := (·.push Value.none)) (its' := [Value.none]) (ys := [.non]) (t' := s2.toks) hq2 e3 (by simp) (.cons rfl .nil) (by rw [List.length_singleton, sizeLine_eq]; decide)
      obtain ⟨z4, its4, k4, r4, hl4, e4⟩ := I3.lstM upd_same
      obtain ⟨u4, rfl, ru4⟩ := r4.one
      refine wpAny_updateSeq e4 rfl ?_ (by show 1 ≤ sizeLine; rw [sizeLine_eq]; decide) (by show 0 ≤ sizeLine + 1; exact Nat.zero_le _)
      refine wpAny_pure ⟨plainId_quiet PySem.F.plain_extend_loop _, go _ ?_⟩
      have I5 := I3.lset (f := (·.pop)) (its := [u4]) (its' := []) (ys := []) (t' := s2.toks) upd_same e4 (by rfl) .nil (Nat.zero_le _)
      rw [upd_upd] at I5
      have hH : upd H2 q (.lst []) = H2 := by
        funext b
        by_cases hb : b = q
        · rw [hb, upd_same, hq2]
        · rw [upd_ne hb]
      rw [hH] at I5
      exact I5
/-- list(o) -/
def rOwnList (K : PySem.W.Frag) (C : Addr) (spI spL : Sp) (EI EL : XK) : List V → Hp → VK → Prop := fun xs H Q => ∃ a, xs = [.ref a] ∧ (∃ dx fs, H a = some (.ins C dx fs)) ∧ ∀ q, H q = none → OwnIt K C spI spL EI EL a q (fun _ H' => Q (.ref q) H') (upd H q (.lst []))
theorem call_ownList {K : PySem.W.Frag} (hK : X.K = K) (hc : X.calm = true) (hi : Meth X.K C "__iter__" fi) (FI : FnOk X.prog X.w X.K X.mg X.base CX0 n fi fdI psI spI) (bI : Binds X.K fdI psI [])
    (hm : Meth X.K C "__len__" fl) (FL : FnOk X.prog X.w X.K X.mg X.base CX0 n fl fdL psL spL) (bL : Binds X.K fdL psL []) (hr : Room (n + 3) X.A) : CallR X (.type "list") (rOwnList K C spI spL EI EL) := by
  subst hK
  intro pins s σ H xs us Q I rv h
  obtain ⟨a, rfl, ⟨dx, fs, ha⟩, hq⟩ := h
  obtain ⟨u, rfl, ru⟩ := rv.one
  cases ru
  have sb : Sub X (n + 1) X.A.in1.in1 := (Sub.in1 (Sub.in1 (⟨hr, rfl⟩ : Sub X (n + 3) X.A)))
  refine callType_codes (Q₁ := fun obj s₁ => obj = .ref s.heap.objs.size ∧ s₁ = { s with heap := s.heap.push { cls := .type "list", data := .seq #[] } }) PySem.F.called_list (PySem.F.typeCall_list_1 _) PySem.F.entry_list_init
    (code_list_new _ ⟨rfl, rfl⟩) fun obj s₁ h₁ => ?_
  obtain ⟨rfl, rfl⟩ := h₁
  have hS : (s.heap.push { cls := .type "list", data := .seq #[] }).get? s.heap.objs.size = some { cls := .type "list", data := .seq #[] } := Heap.get?_push_size _ rfl
  refine ⟨⟨_, hS, rfl⟩, PySem.F.args_list_init_2 _ _, ?_⟩
  have fr : H s.heap.objs.size = none := I.hok.fresh (Nat.le_refl _)
  have I1 : Inv X pins σ (upd H s.heap.objs.size (.lst [])) { s with heap := s.heap.push { cls := .type "list", data := .seq #[] } } := I.lnew (its := []) (t' := s.toks) .nil (Nat.zero_le _)
  show wpAny _ _ (do let old ← Builtin.List.listItems (.ref s.heap.objs.size); Builtin.List.listUpdate (.ref s.heap.objs.size) (fun _ => #[]); letGo old.toList.reverse; Builtin.List.listExtendWith (.ref s.heap.objs.size) (.ref a) .none) _ _ _
  refine wpAny_bind ?_
  unfold Builtin.List.listItems
  refine wpAny_bind (wpAny_seqItems hS rfl (wpAny_pure ?_))
  show wpAny _ _ (updateSeq s.heap.objs.size (fun _ => #[]) >>= fun _ => letGo (#[] : Array Value).toList.reverse >>= fun _ => Builtin.List.listExtendWith (.ref s.heap.objs.size) (.ref a) .none) _ _ _
  refine wpAny_bind (wpAny_updateSeq hS rfl ?_)
  have I2 := I1.lset (f := fun _ => #[]) (its := []) (its' := []) (ys := []) (t' := s.toks) upd_same hS rfl .nil (Nat.zero_le _)
  rw [upd_upd] at I2
  refine wpAny_bind (wpAny_letGo ?_)
  exact own_ext (A1 := X.A.in1) (Rs := wants (fun r s₂ => r = .none ∧ EP X pins σ Q (.ref s.heap.objs.size) s₂) X.xe) (I.ok.hd hc) sb hi FI bI hm FL bL I2 upd_same (hq _ fr)
    fun zs H' s' I' _ _ hR => ⟨rfl, .ref s.heap.objs.size, H', I', rfl, hR⟩
/-- tuple(o) -/
def rOwnTup (K : PySem.W.Frag) (C : Addr) (spI spL : Sp) (EI EL : XK) : List V → Hp → VK → Prop := fun xs H Q => ∃ a, xs = [.ref a] ∧ (∃ dx fs, H a = some (.ins C dx fs)) ∧ ∀ q, H q = none → OwnIt K C spI spL EI EL a q (fun zs H' => ∀ p, H' p = none → Q (.ref p) (upd H' p (.tup zs))) (upd H q (.lst []))
theorem own_collect {Q : List Value → Shared → Prop} {E : Value → Shared → Prop} {R : List V → Hp → Prop} (hh : A.handled = none) (sb : Sub X (n + 1) A.in1) (hi : Meth X.K C "__iter__" fi) (FI : FnOk X.prog X.w X.K X.mg X.base CX0 n fi fdI psI spI) (bI : Binds X.K fdI psI [])
    (hm : Meth X.K C "__len__" fl) (FL : FnOk X.prog X.w X.K X.mg X.base CX0 n fl fdL psL spL) (bL : Binds X.K fdL psL [])
    (I : Inv X pins σ H s) (h : ∀ q, H q = none → OwnIt X.K C spI spL EI EL a q R (upd H q (.lst []))) (hR : ∀ zs H' s' its, Inv X pins σ H' s' → zs.length ≤ 10000 → R zs H' → Vals zs its → Q its s') :
    wpAny (model X.prog X.w) A (collect (.ref a)) Q E s := by
  unfold collect
  refine wpAny_bind (wpAny_runValue (codeAny_builtin PySem.F.entry_proto_collect ?_))
  rw [Around.under_plainId PySem.F.plain_proto_collect _]
  show wpAny _ A.in1 (newList [] >>= fun l' => again (.builtin "list.__iadd__" ⟨[l', .ref a], []⟩)) _ _ s
  refine wpAny_bind (wpAny_newObj_type ?_)
  refine wpAny_pure ⟨plainId_quiet PySem.F.plain_list_iadd _, codeAny_builtin PySem.F.entry_list_iadd ?_⟩
  rw [Around.under_plainId PySem.F.plain_list_iadd _]
  have fr : H s.heap.objs.size = none := I.hok.fresh (Nat.le_refl _)
  have I1 : Inv X pins σ (upd H s.heap.objs.size (.lst [])) { s with heap := s.heap.push { cls := .type "list", data := .seq ([] : List Value).toArray } } := I.lnew (its := []) (t' := s.toks) .nil (Nat.zero_le _)
  show wpAny _ A.in1 (Builtin.List.listExtendWith (.ref s.heap.objs.size) (.ref a) (.ref s.heap.objs.size)) _ _ _
  refine wpAny_mono (own_ext (A1 := A) (Rs := fun r s' => r = .ok (.ret (.ref s.heap.objs.size)) ∧ ∃ zs H' its c, Inv X pins σ H' s' ∧ zs.length ≤ 10000 ∧ R zs H' ∧ Vals zs its ∧ s'.heap.get? s.heap.objs.size = some { cls := .type "list", data := .seq its.toArray c }) hh sb hi FI bI hm FL bL I1 upd_same (h _ fr) fun zs H' s' I' hq hz hr => ?_) (fun fin s' hf => ?_) fun e s' he => ?_
  · obtain ⟨z, its, c, r3, hl3, e3⟩ := I'.lstM hq
    exact ⟨rfl, zs, H', its, c, I', hz, hr, r3, e3⟩
  · cases fin with
    | done f =>
      obtain ⟨e, zs, H', its, c, I', hz, hr, r3, e3⟩ := hf
      cases e
      show wpAny _ A (load s.heap.objs.size >>= _) _ _ s'
      refine wpAny_bind (wpAny_load e3 ?_)
      exact wpAny_pure (hR zs H' s' its I' hz hr r3)
    | again c' =>
      refine ⟨hf.1, codeAny_mono hf.2 fun r s2 hr2 => ?_⟩
      obtain ⟨rfl, zs, H', its, c, I', hz, hr, r3, e3⟩ := hr2
      show wpAny _ A (load s.heap.objs.size >>= _) _ _ s2
      refine wpAny_bind (wpAny_load e3 ?_)
      exact wpAny_pure (hR zs H' s2 its I' hz hr r3)
  · exact nomatch he.1
theorem code_tupOwn {Q₁ : Value → Shared → Prop} {E : Value → Shared → Prop} {R : List V → Hp → Prop} (hh : A.handled = none) (sb : Sub X (n + 1) A.in1.in1) (hi : Meth X.K C "__iter__" fi) (FI : FnOk X.prog X.w X.K X.mg X.base CX0 n fi fdI psI spI) (bI : Binds X.K fdI psI [])
    (hm : Meth X.K C "__len__" fl) (FL : FnOk X.prog X.w X.K X.mg X.base CX0 n fl fdL psL spL) (bL : Binds X.K fdL psL [])
    (I : Inv X pins σ H s) (ha : H a = some (.ins C dx fs)) (h : ∀ q, H q = none → OwnIt X.K C spI spL EI EL a q R (upd H q (.lst []))) (hR : ∀ zs H' s' its, Inv X pins σ H' s' → zs.length ≤ 10000 → R zs H' → Vals zs its →
      Q₁ (.ref s'.heap.objs.size) { s' with heap := s'.heap.push { cls := .type "tuple", data := .seq its.toArray } }) :
    codeAny (model X.prog X.w) A (.call (.builtin "tuple.__new__") ⟨[.type "tuple", .ref a], []⟩) (wants Q₁ E) s := by
  obtain ⟨mA, J, _⟩ := ins_get I.hok ha
  obtain ⟨od, J, _⟩ := J.look
  have hT : ∀ (A : Around) (E : Value → Shared → Prop) (Q : Value → Shared → Prop), Q (.ref C) s → wpAny (model X.prog X.w) A (typeOf (.ref a)) Q E s := fun _ _ _ q => J.type.here q
  refine codeAny_of_tree ?_
  show wpAny _ A.in1 (do checkBuiltinCall "tuple.__new__" ⟨[.type "tuple", .ref a], []⟩; again (.builtin "tuple.__new__" ⟨[.type "tuple", .ref a], []⟩)) _ _ s
  refine wpAny_bind (wpAny_of_eq (PySem.F.newCall_tuple_1 _) (wpAny_pure ⟨plainId_quiet PySem.F.plain_tuple_new _, codeAny_builtin PySem.F.entry_tuple_new ?_⟩))
  rw [Around.under_plainId PySem.F.plain_tuple_new _]
  have hsub := sub_tuple_self
  have hinit := init_tuple_lookup
  have hmh := madeHere_tuple
  have hh1 : A.in1.handled = none := hh
  wp_walk using (hT _ _ _), own_collect (A := A.in1) hh1 sb hi FI bI hm FL bL I h
  intro zs H' s' its I' hz hr rv
  have hl := rv.length
  show wpAny _ _ (Builtin.Tuple.tupleExact its.toArray >>= fun v => ret v) _ _ _
  unfold Builtin.Tuple.tupleExact
  refine wpAny_bind (wpAny_newObj_type ?_ (by show its.toArray.size ≤ sizeLine; rw [List.size_toArray, ← hl]; exact small_line' hz))
  exact wpAny_pure (hR zs H' s' its I' hz hr rv)
theorem call_ownTup {K : PySem.W.Frag} (hK : X.K = K) (hc : X.calm = true) (hi : Meth X.K C "__iter__" fi) (FI : FnOk X.prog X.w X.K X.mg X.base CX0 n fi fdI psI spI) (bI : Binds X.K fdI psI [])
    (hm : Meth X.K C "__len__" fl) (FL : FnOk X.prog X.w X.K X.mg X.base CX0 n fl fdL psL spL) (bL : Binds X.K fdL psL []) (hr : Room (n + 4) X.A) : CallR X (.type "tuple") (rOwnTup K C spI spL EI EL) := by
  subst hK
  intro pins s σ H xs us Q I rv h
  obtain ⟨a, rfl, ⟨dx, fs, ha⟩, hq⟩ := h
  obtain ⟨u, rfl, ru⟩ := rv.one
  cases ru
  have sb : Sub X (n + 1) X.A.in1.in1.in1 := Sub.in1 (Sub.in1 (Sub.in1 (⟨hr, rfl⟩ : Sub X (n + 4) X.A)))
  refine callType_codes (Q₁ := fun obj s₁ => s₁.TypeIs obj "tuple" ∧ EP X pins σ Q obj s₁) PySem.F.called_tuple (PySem.F.typeCall_tuple_1 _) PySem.F.entry_object_init
    (code_tupOwn (A := X.A.in1) (I.ok.hd hc) sb hi FI bI hm FL bL I ha hq fun zs H' s' its I' hz hr' rz => ⟨⟨_, Heap.get?_push_size _ rfl, rfl⟩, ?_⟩) fun obj s₁ h₁ => ?_
  · have I2 : Inv X pins σ (upd H' s'.heap.objs.size (.tup zs)) { s' with heap := s'.heap.push { cls := .type "tuple", data := .seq its.toArray } } :=
      I'.laid (t' := s'.toks) (fun b o e => Heap.get?_push_of_some _ e) (Nat.le_refl _) (show ObjOk X.prog X.w _ _ _ (.tup zs) from ⟨small_line' hz, its, rz, IsTup.new _ _⟩)
    exact ⟨.ref s'.heap.objs.size, _, I2, rfl, hr' _ (I'.hok.fresh (Nat.le_refl _))⟩
  · exact ⟨h₁.1, PySem.F.args_object_init_2 obj _, object_init_meets PySem.F.called_tuple.init.lookup PySem.F.called_tuple.made (by decide) X.prog X.w X.A.in1 _ s₁ ⟨h₁.1, rfl, h₁.2⟩⟩
end
end Hn

/-! Own7 -/
/-! sum(ls, []) of a list of lists -/
namespace Hn
open PySem PySem.Spec L2
open PyProof.Rows hiding St
theorem args_sum2 (a b : Value) : argsOk "sum" ⟨[a, b], []⟩ := by unfold argsOk; kernel_rfl
theorem list_notStr : isSubtype (.type "list") (.type "str") = pure false := by rw [isSubtype_type]; kernel_rfl
theorem list_notBytes : isSubtype (.type "list") (.type "bytes") = pure false := by rw [isSubtype_type]; kernel_rfl
theorem list_notBa : isSubtype (.type "list") (.type "bytearray") = pure false := by rw [isSubtype_type]; kernel_rfl
section
variable {X : Cx} {pins : List (Addr × Obj)} {σ : L2.St} {H : Hp} {s : Shared}
/-- the rows at as, from place i on, one behind another -/
def catFrom (f : Nat → List V) (i : Nat) : Nat → List V
  | 0 => []
  | k + 1 => f i ++ catFrom f (i + 1) k
theorem sum_loop {A1 : Around} {l it S : Addr} {as : List Addr} {f : Nat → List V} {Rs : Result → Shared → Prop} (hh : A1.handled = none) :
    ∀ (k i : Nat) (H : Hp) (s : Shared) (p : Addr) (xs : List V), as.length - i = k → i ≤ as.length → Inv X pins σ H s → H it = some (LiO l it i) → H S = some (.lst [.ref p]) → H p = some (.lst xs) → p ≠ S → l ≠ S → SqL X.K H l (as.map V.ref) →
    (∀ j (h : j < as.length), as[j] ≠ S ∧ H as[j] = some (.lst (f j))) → xs.length + (catFrom f i k).length ≤ 10000 →
    (∀ H' s' p', Inv X pins σ H' s' → (∀ b o, b ≠ S → b ≠ it → H b = some o → H' b = some o) → H' p' = some (.lst (xs ++ catFrom f i k)) → Rs (.ok (.ret (.ref p'))) s') →
    codeAny (model X.prog X.w) A1 (.builtin "sum.loop" ⟨[.ref it, .ref S, rawInt 2, rawInt 0], []⟩) Rs s := by
  intro k
  induction k with
  | zero =>
    intro i H s p xs hk hi I hit hS hp npS nlS hl ha hz hR
    have hin : i = as.length := by omega
    obtain ⟨its, rv, pl, _⟩ := I.list hl
    have hle := rv.length
    rw [List.length_map] at hle
    obtain ⟨zS, itS, nS, rS, hlS, eS⟩ := I.lstM hS
    obtain ⟨u, rfl, ru⟩ := rS.one
    cases ru
    refine codeAny_builtin PySem.F.entry_sum_loop ?_
    rw [Around.under_plainId PySem.F.plain_sum_loop _]
    show wpAny _ A1.in1 (seqItems? (.ref S) >>= _) _ _ s
    refine wpAny_bind (wpAny_seqItems eS rfl ?_)
    show wpAny _ A1.in1 (tryCatch (pyNext (.ref it)) _ >>= _) _ _ s
    refine wpAny_bind (wpAny_tryCatch (list_end (items := its.toArray) hh (liO_get I hit) pl.isList (by rw [List.getElem?_toArray]; exact List.getElem?_eq_none (by omega)) fun h' eb ex => ?_))
    refine wpAny_pure (hR (upd H it (TiE it)) _ p ?_ (fun b o n1 n2 e => by rw [upd_ne n2]; exact e) ?_)
    · exact I.write (x := it) (e := it) (t' := s.toks) (by rw [hit]; exact trivial) (.inl rfl) (fun b u nb e => eb b u nb e) ex (tiE_ok ex)
    · rw [upd_ne (ne_of hp hit fun z => nomatch z), hp]
      show _ = some (HO.lst (xs ++ []))
      rw [List.append_nil]
  | succ k ih =>
    intro i H s p xs hk hi I hit hS hp npS nlS hl ha hz hR
    have hlt : i < as.length := by omega
    obtain ⟨its, rv, pl, _⟩ := I.list hl
    have hle := rv.length
    rw [List.length_map] at hle
    obtain ⟨u, hu, ru⟩ := rv.get (i := i) (x := .ref as[i]) (by rw [List.getElem?_map, List.getElem?_eq_getElem hlt]; rfl)
    cases ru
    obtain ⟨zS, itS, nS, rS, hlS, eS⟩ := I.lstM hS
    obtain ⟨u, rfl, ru⟩ := rS.one
    cases ru
    refine codeAny_builtin PySem.F.entry_sum_loop ?_
    rw [Around.under_plainId PySem.F.plain_sum_loop _]
    show wpAny _ A1.in1 (seqItems? (.ref S) >>= _) _ _ s
    refine wpAny_bind (wpAny_seqItems eS rfl ?_)
    show wpAny _ A1.in1 (tryCatch (pyNext (.ref it)) _ >>= _) _ _ s
    have hitg := liO_get I hit
    refine wpAny_bind (wpAny_tryCatch (wpAny_pyNext_list_item (items := its.toArray) (x := .ref as[i]) hitg pl.isList (by rw [List.getElem?_toArray]; exact hu) fun h' hit' sb => ?_))
    have I1 : Inv X pins σ (upd H it (LiO l it (i + 1))) { s with heap := h' } :=
      I.write (x := it) (e := it) (t' := s.toks) (by rw [hit]; exact trivial) (.inl rfl) (fun b u nb e => sb.extBut b u nb e) (let ⟨o, ho, _⟩ := hit'; ⟨o, ho⟩) (liO_ok hit')
    have nSi : S ≠ it := ne_of hS hit fun z => nomatch z
    have npi : p ≠ it := ne_of hp hit fun z => nomatch z
    obtain ⟨nai, hai⟩ := ha i hlt
    have nti : as[i] ≠ it := ne_of hai hit fun z => nomatch z
    have hS1 : upd H it (LiO l it (i + 1)) S = some (.lst [.ref p]) := by rw [upd_ne nSi]; exact hS
    obtain ⟨zp, itp, np, rp, hlp, ep⟩ := I1.lstM (l := p) (xs := xs) (by rw [upd_ne npi]; exact hp)
    obtain ⟨za, ita, na, ra, hla, ea⟩ := I1.lstM (l := as[i]) (xs := f i) (by rw [upd_ne nti]; exact hai)
    have hz' : xs.length + (f i ++ catFrom f (i + 1) k).length ≤ 10000 := hz
    rw [List.length_append] at hz'
    have hsm := small_line' (n := xs.length + (f i).length) (by omega)
    show wpAny _ A1.in1 ((holding [Value.ref as[i]] (binaryOp .Add (.ref p) (.ref as[i]))).attempt >>= _) _ _ _
    refine wpAny_bind (wpAny_attempt (wpAny_holding (PySem.P.add_list ep ea ?_ (by rw [List.size_toArray, List.size_toArray]; omega))))
    have eap : itp.toArray ++ ita.toArray = (itp ++ ita).toArray := by simp
    rw [eap]
    have I2 : Inv X pins σ (upd (upd H it (LiO l it (i + 1))) h'.objs.size (.lst (xs ++ f i))) { s with heap := h'.push { cls := .type "list", data := .seq (itp ++ ita).toArray } } :=
      I1.lnew (t' := s.toks) (rp.append ra) (by rw [List.length_append]; omega)
    have frN : upd H it (LiO l it (i + 1)) h'.objs.size = none := I1.hok.fresh (Nat.le_refl _)
    generalize hN : h'.objs.size = N at I2 frN
    have nNS : N ≠ S := (ne_of_none hS1 frN).symm
    have nNi : N ≠ it := (ne_of_none upd_same frN).symm
    have frH : H N = none := by rw [← frN, upd_ne nNi]
    have hS2 : upd (upd H it (LiO l it (i + 1))) N (.lst (xs ++ f i)) S = some (.lst [.ref p]) := by rw [upd_ne nNS.symm]; exact hS1
    obtain ⟨zS2, itS2, nS2, rS2, hlS2, eS2⟩ := I2.lstM hS2
    show wpAny _ A1.in1 (updateSeq S (fun _ => #[.ref N]) >>= _) _ _ _
    refine wpAny_bind (wpAny_updateSeq eS2 rfl ?_)
    have I3 := I2.lset (f := fun _ => #[Value.ref N]) (its' := [Value.ref N]) (ys := [.ref N]) (t' := s.toks) hS2 eS2 rfl (.cons rfl .nil) (by show 1 ≤ sizeLine; rw [sizeLine_eq]; decide)
    obtain ⟨zS3, itS3, nS3, rS3, hlS3, eS3⟩ := I3.lstM upd_same
    refine wpAny_bind (wpAny_letGo ?_)
    refine wpAny_bind (wpAny_updateSeq eS3 rfl (wpAny_pure ⟨plainId_quiet PySem.F.plain_sum_loop _, ?_⟩))
    have I4 := I3.lset (f := fun _ => #[Value.ref N]) (its' := [Value.ref N]) (ys := [.ref N]) (t' := s.toks) upd_same eS3 rfl (.cons rfl .nil) (by show 1 ≤ sizeLine; rw [sizeLine_eq]; decide)
    rw [upd_upd] at I4
    have keep : ∀ b o, b ≠ S → b ≠ it → H b = some o → upd (upd (upd H it (LiO l it (i + 1))) N (.lst (xs ++ f i))) S (.lst [.ref N]) b = some o := fun b o n1 n2 e => by
      rw [upd_ne n1, upd_ne (ne_of_none e frH), upd_ne n2]; exact e
    refine ih (i + 1) _ _ N (xs ++ f i) (by omega) hlt I4 ?_ upd_same ?_ nNS nlS ?_ ?_ (by rw [List.length_append]; omega) fun H' s' p' I' kk hp' => hR H' s' p' I' (fun b o n1 n2 e => kk b o n1 n2 (keep b o n1 n2 e)) ?_
    · rw [upd_ne nSi.symm, upd_ne nNi.symm, upd_same]
    · rw [upd_ne nNS, upd_same]
    · rcases hl with (h | ⟨o, h⟩) | h
      · exact .inl (.inl (keep _ _ nlS (ne_of h hit fun z => nomatch z) h))
      · exact .inl (.inr ⟨o, keep _ _ nlS (ne_of h hit fun z => nomatch z) h⟩)
      · exact .inr h
    · intro j hj
      obtain ⟨n1, h1⟩ := ha j hj
      exact ⟨n1, keep _ _ n1 (ne_of h1 hit fun z => nomatch z) h1⟩
    · rw [hp', List.append_assoc]
      rfl
/-- sum(ls, []) -/
def rSumL (K : PySem.W.Frag) : List V → Hp → VK → Prop := fun vs H Q => ∃ (l e : Addr) (as : List Addr) (f : Nat → List V), vs = [.ref l, .ref e] ∧ SqL K H l (as.map V.ref) ∧ H e = some (.lst []) ∧ (∀ j (h : j < as.length), H as[j] = some (.lst (f j))) ∧
  (catFrom f 0 as.length).length ≤ 10000 ∧ ∀ p H', Same H H' → H' p = some (.lst (catFrom f 0 as.length)) → Q (.ref p) H'
theorem call_sumL {K : PySem.W.Frag} (hc : X.calm = true) (hK : X.K = K) : CallR X (.builtin "sum") (rSumL K) := by
  subst hK
  intro pins s σ H vs us Q I r h
  obtain ⟨l, e, as, f, rfl, hl, he, ha, hz, q⟩ := h
  obtain ⟨u, v, rfl, ru, rv⟩ := r.two
  cases ru
  cases rv
  obtain ⟨its, rl, pl, _⟩ := I.list hl
  obtain ⟨ze, ite, ne, re, hle, ee⟩ := I.lstM he
  have hTe : ∀ {s' : Shared}, s'.heap.get? e = some { cls := .type "list", data := .seq ite.toArray ne } → s'.TypeIs (.ref e) "list" := fun h => ⟨_, h, rfl⟩
  refine call_function_tree PySem.F.kind_sum PySem.F.plain_sum PySem.F.entry_sum (args_sum2 _ _) ?_
  unfold Builtin.«sum»
  simp only [List.length_cons, List.length_nil]
  rw [if_neg (by decide)]
  refine wpAny_bind (wpAny_of_eq (show Builtin.Builtins.bindParams "sum" ["start"] 0 ⟨[.ref e], []⟩ = pure [some (.ref e)] from rfl) ?_)
  refine wpAny_bind (wpAny_pyIter_list pl.isList ?_)
  have hX : ({ s with heap := s.heap.push { cls := .type "list_iterator", data := .fields #[.ref l, .int 0 0] } } : Shared).heap.get? e = some { cls := .type "list", data := .seq ite.toArray ne } := Heap.get?_push_of_some _ ee
  refine wpAny_bind (wpAny_pure ?_)
  simp only [List.forIn_cons, List.forIn_nil]
  refine wpAny_bind (wpAny_bind (wpAny_bind (wpAny_isInstance (T := "list") (b := false) (hTe hX) list_notStr ?_)))
  simp only [Bool.false_eq_true, if_false]
  refine wpAny_pure (wpAny_bind (wpAny_bind (wpAny_isInstance (T := "list") (b := false) (hTe hX) list_notBytes ?_)))
  simp only [Bool.false_eq_true, if_false]
  refine wpAny_pure (wpAny_bind (wpAny_bind (wpAny_isInstance (T := "list") (b := false) (hTe hX) list_notBa ?_)))
  simp only [Bool.false_eq_true, if_false]
  refine wpAny_pure (wpAny_pure ?_)
  have I1 : Inv X pins σ (upd H s.heap.objs.size (LiO l s.heap.objs.size 0)) { s with heap := s.heap.push { cls := .type "list_iterator", data := .fields #[.ref l, .int 0 0] } } :=
    I.laid (t' := s.toks) (fun b u q => Heap.get?_push_of_some _ q) (Nat.le_refl _) (liO_ok ⟨_, Heap.get?_push_size _ rfl, rfl, rfl⟩)
  have fr1 : H s.heap.objs.size = none := I.hok.fresh (Nat.le_refl _)
  refine wpAny_bind (wpAny_newObj_type ?_)
  have I2 := I1.lnew (its := [Value.ref e]) (ys := [V.ref e]) (t' := s.toks) (.cons rfl .nil) (by show 1 ≤ sizeLine; rw [sizeLine_eq]; decide)
  have fr2 := I1.hok.fresh (Nat.le_refl (s.heap.push { cls := .type "list_iterator", data := .fields #[.ref l, .int 0 0] }).objs.size)
  refine wpAny_pure ⟨plainId_quiet PySem.F.plain_sum_loop _, ?_⟩
  generalize hit : s.heap.objs.size = it at I1 I2 fr1 fr2
  generalize hS : (s.heap.push { cls := .type "list_iterator", data := .fields #[.ref l, .int 0 0] }).objs.size = S at I2 fr2
  have nSi : S ≠ it := (ne_of_none upd_same fr2).symm
  have frS : H S = none := by rw [← fr2, upd_ne nSi]
  have keep : ∀ b o, H b = some o → upd (upd H it (LiO l it 0)) S (.lst [.ref e]) b = some o := fun b o q => by
    rw [upd_ne (ne_of_none q frS), upd_ne (ne_of_none q fr1)]; exact q
  have sm : Same H (upd (upd H it (LiO l it 0)) S (.lst [.ref e])) := keep
  refine sum_loop (as := as) (f := f) (I.ok.hd hc) as.length 0 _ _ e [] rfl (Nat.zero_le _) I2 (by rw [upd_ne nSi.symm, upd_same]) upd_same (keep _ _ he) (ne_of_none he frS) ?_ (sm.seq hl) (fun j hj => ⟨ne_of_none (ha j hj) frS, keep _ _ (ha j hj)⟩) (by rw [List.length_nil, Nat.zero_add]; exact hz) fun H' s' p' I' kk hp' => ?_
  · obtain ⟨o, n, eo, _⟩ := pl
    rw [← hS, Heap.size_push]
    exact Nat.ne_of_lt (Nat.lt_succ_of_lt (Heap.lt_size eo))
  · exact ⟨.ref p', H', I', rfl, q p' H' (fun b o x => kk b o (ne_of_none x frS) (ne_of_none x fr1) (keep _ _ x)) hp'⟩
end
end Hn

/-! Filt -/
/-! a comprehension with a condition; a clock's own iteration -/
namespace Hn
open PySem L2
theorem K_bm {X : Cx} {K : PySem.W.Frag} {o e : Expr} {es : List Expr} {to : TE} {t : TA} {name : Str} {apos cpos : Pos} {T id : String} {r : V → List V → Hp → VK → Prop} (hK : X.K = K) (pa : PlainAttrs T) (slot : Slot T name id)
    (hty : typeOf (.builtin id) = pure (.type "method_descriptor")) (hm : MtR X id r) (ho : PE X o to) (ha : PA X (e :: es) t)
    (hbase : attributeBase o name X.env (eval o X.env) = eval o X.env := by rfl)
    (hfew : ((backTo cpos (starEach (e :: es) X.env)).all (fun x => !x.1) && (backToKw cpos (keywordEach [] X.env)).all (fun x => x.1.isSome)
      && decide ((e :: es).length + ([] : List Keyword).length + (if ([] : List Keyword).isEmpty then 0 else 1) < 30)) = true := by rfl)
    (hline : (apos.endLine == cpos.line) = true := by rfl) (hs : starEach (e :: es) X.env = (false, eval e X.env) :: starEach es X.env := by rfl) (hplain : (backTo cpos (starEach es X.env)).any (·.1) = false := by rfl) :
    PE X (.Call (.Attribute o name apos) (e :: es) [] cpos) (tBM K T r to t) := by
  subst hK
  exact pe_bm pa slot hty hm ho ha hbase hfew hline hs hplain
theorem lc_filtR {lo : Int} {n : Nat} {tt : TT} {te : TE} {j : Nat} {σ : L2.St} {H1 : Hp} {D : Addr} {Qd : Hp → Prop} (f : Nat → V) (p : Nat → Bool) (nD : H1 D = none) (hz : n ≤ 10000)
    (ht : ∀ i (_ : i < n) (H : Hp) (R : Bool → Hp → Prop), Same H1 H → R (p i) H → tt ((wipe σ [j]).set j (some (.int (lo + i)))) H R)
    (he : ∀ i (_ : i < n) (H : Hp) (R : VK), p i = true → Same H1 H → (∀ H4, Same H H4 → R (f i) H4) → te ((wipe σ [j]).set j (some (.int (lo + i)))) H R)
    (hd : ∀ H, Same H1 H → H D = some (.lst (((List.range n).filter p).map f)) → Qd H) : LcG (Itr lo n) (gName j) tt te [j] σ H1 D Qd := by
  refine lc_range (lo := lo) (n := n) (fun i H => Same H1 H ∧ H D = some (.lst (((List.range i).filter p).map f))) ⟨same_new nD, upd_same⟩ (fun i H hi ⟨sm, hD⟩ => ?_) (fun H h => hd H h.1 h.2)
  have hlen : (((List.range i).filter p).map f).length ≤ i := by
    rw [List.length_map]
    exact Nat.le_trans (List.length_filter_le _ _) (by rw [List.length_range]; exact Nat.le_refl _)
  refine ⟨wipe_one _ _ _, ht i hi H _ sm ?_⟩
  cases e : p i with
  | false =>
    refine iteF ⟨sm, ?_⟩
    rw [List.range_succ, List.filter_append, List.filter_cons_of_neg (by rw [e]; exact Bool.false_ne_true)]
    simpa using hD
  | true =>
    refine iteT (he i hi H _ e sm fun H4 s4 => ⟨_, s4 _ _ hD, small_line (by omega), fun b o q => ?_, ?_⟩)
    · rw [upd_ne (ne_of_none q nD)]
      exact s4 _ _ (sm _ _ q)
    · rw [upd_same, List.range_succ, List.filter_append, List.filter_cons_of_pos (by rw [e])]
      simp
/-- a comprehension over a list whose condition is never so -/
theorem lc_noneL {K : PySem.W.Frag} {a : Addr} {xs : List V} {tt : TT} {te : TE} {j : Nat} {σ : L2.St} {H1 : Hp} {D : Addr} {Qd : Hp → Prop} (hS : SqL K H1 a xs) (nD : H1 D = none)
    (ht : ∀ i (hi : i < xs.length) (H : Hp) (R : Bool → Hp → Prop), Same H1 H → (∀ H4, Same H H4 → R false H4) → tt ((wipe σ [j]).set j (some xs[i])) H R)
    (hd : ∀ H, Same H1 H → H D = some (.lst []) → Qd H) : LcG (Itl K a) (gName j) tt te [j] σ H1 D Qd := by
  refine lc_list (K := K) (a := a) (xs := xs) (fun i H => Same H1 H ∧ H D = some (.lst [])) ⟨same_new nD, upd_same⟩ (fun i H _ h => h.1.seq hS) (fun i x H hx ⟨sm, hD⟩ => ?_) (fun H h => hd H h.1 h.2)
  have hi : i < xs.length := (List.getElem?_eq_some_iff.mp hx).1
  rw [List.getElem?_eq_getElem hi] at hx
  cases hx
  exact ⟨wipe_one _ _ _, ht i hi H _ sm fun H4 s4 => iteF ⟨sm.trans s4, s4 _ _ hD⟩⟩
theorem filter_below (n w : Nat) (h : w ≤ n) : (List.range n).filter (fun b => decide (b < w)) = List.range w := by
  induction n with
  | zero =>
    obtain rfl : w = 0 := by omega
    rfl
  | succ n ih =>
    rw [List.range_succ, List.filter_append]
    by_cases e : w ≤ n
    · rw [ih e, List.filter_cons_of_neg (by rw [decide_eq_true_eq]; omega)]
      simp
    · obtain rfl : w = n + 1 := by omega
      rw [List.filter_cons_of_pos (by rw [decide_eq_true_eq]; omega)]
      rw [List.filter_eq_self.mpr fun x hx => by rw [decide_eq_true_eq]; have := List.mem_range.mp hx; omega]
      rw [List.range_succ]
      rfl
theorem catFrom_iv (g : Nat → List Int) : ∀ (k i : Nat), catFrom (fun j => iv (g j)) i k = iv (Clk.catI g i k)
  | 0, _ => rfl
  | k + 1, i => by
    show iv (g i) ++ catFrom (fun j => iv (g j)) (i + 1) k = iv (g i ++ Clk.catI g (i + 1) k)
    rw [catFrom_iv g k (i + 1)]
    exact (List.map_append ..).symm
theorem kit_self (K : PySem.W.Frag) (C : Addr) : PySem.W.kitOne K (.ref C) (.ref C) = some true := by
  unfold PySem.W.kitOne
  rw [if_pos (by simp)]
theorem shaped_tupI (ns : List Int) : SeqAt.shaped (.tuple (ns.map PyData.int)) = true := shaped_I ns
theorem eqv_tupI (a b : List Int) : PyData.eqv (.tuple (a.map PyData.int)) (.tuple (b.map PyData.int)) = decide (a = b) := eqvAll_I a b
/-- len(o), iter(o) of a clock -/
def spLen (K : PySem.W.Frag) (C : Addr) : Sp := fun vs H Q _ => ∃ (p : Addr) (ns : List Int), vs = [.ref p] ∧ ClkAt K C H p ns ∧ Q (.int ns.length) H
def spIter (K : PySem.W.Frag) (C : Addr) : Sp := fun vs H Q _ => ∃ (p dx t : Addr) (xs : List V), vs = [.ref p] ∧ H p = some (.ins C dx [("_stays", .ref t)]) ∧ SqT K H t xs ∧ ∀ it, H it = none → Q (.ref it) (upd H it (TiO t it 0))
theorem ownIt_clk {K : PySem.W.Frag} {C a q : Addr} {EI EL : XK} {H : Hp} {R : List V → Hp → Prop} {ns : List Int} (hC : ClkAt K C H a ns) (nq : H q = none)
    (h : ∀ H3, Same H H3 → H3 q = some (.lst (iv ns)) → R (iv ns) H3) : OwnIt K C (spIter K C) (spLen K C) EI EL a q R (upd H q (.lst [])) := by
  have s1 : Same H (upd H q (.lst [])) := same_new nq
  have hC1 := hC.same s1
  obtain ⟨dx, t, h1, h2⟩ := id hC1.ex
  refine ⟨⟨dx, _, h1⟩, a, dx, t, iv ns, rfl, h1, h2, fun it nit => ?_⟩
  have s2 : Same (upd H q (.lst [])) (upd (upd H q (.lst [])) it (TiO t it 0)) := same_new nit
  have tp := hC.ok.top
  refine ⟨it, t, iv ns, rfl, upd_same, Same.set s2 h2, by rw [iv_len]; omega, ⟨dx, _, s2 _ _ h1⟩, s2 _ _ upd_same, a, ns, rfl, hC1.same s2, (ns.length : Int), rfl, by omega, by omega, upd_same, Same.set s2 h2, s2 _ _ upd_same, fun H3 k hq => h H3 (fun b o e => ?_) hq⟩
  exact k b o (ne_of_none e nq) (ne_of_none (s1 _ _ e) nit) (s2 _ _ (s1 _ _ e))
end Hn

/-! Gd -/
/-! repr of data, where no repr is under way: promises that are kept by calls of which that is known -/
namespace Hn
open PySem PySem.Spec L2
open PyProof.Rows hiding St
def rRepr (K : PySem.W.Frag) : List V → Hp → VK → Prop := fun xs H Q => ∃ (a : Addr) (d : PyData), xs = [.ref a] ∧ Dp K H (.ref a) d ∧ d.showable = true ∧ d.hasDict = false ∧ d.depth ≤ 60 ∧ d.shown.length ≤ sizeLine ∧ Q (.str d.shown) H
theorem K_repr {X : Cx} {K : PySem.W.Frag} (hK : X.K = K) (hg : X.A.guards = some []) (hu : X.A.units + 64 < cLine) : CallR X (.builtin "repr") (rRepr K) := by
  subst hK
  intro pins s σ H xs us Q I r h
  obtain ⟨a, d, rfl, hd, hs, hnd, hdp, hz, q⟩ := h
  obtain rfl := Vals.ref1 r
  obtain ⟨as, r1⟩ := Dp.reads I d (.ref a) (.ref a) hd rfl
  exact repr_of_reads' r1 hs (PyData.noDict_hsm hnd) hg (by omega) (fun _ _ e => e) (fun h' u tk hk => ⟨.str d.shown, H, I.kept (t' := tk) hk, ⟨_, rfl⟩, q⟩) hz
/-- what a def promises to callers under which no repr is under way -/
structure FnG (P : Program) (w : World) (K : PySem.W.Frag) (mg : Str → Option Value) (base : Heap) (k : Nat) (f : Addr) (fd : FuncData) (ps : List Str) (sp : Sp) : Prop where
  len : ∀ vs H Q E, sp vs H Q E → vs.length = ps.length
  run : ∀ (A : Around) (outer : List Env) (s : Shared) (H : Hp) (args : Args) (us : List Value) (vs : List V) (Q : VK) (E : XK), A.guards = some [] → Room k A → Env0 P w K mg base A outer s H → BindsTo s fd args (ps.zip us) → Vals vs us → sp vs H Q E →
    codeAny (model P w) A (.call (.ref f) args) (CR CX0 outer P w H s Q E) s
section
variable {P : Program} {w : World} {K : PySem.W.Frag} {mg : Str → Option Value} {base : Heap}
theorem okG {x qual : Str} {st : Stmt} {f : Addr} {fd : FuncData} {N ps : List Str} {k : Nat} {sp : Sp} (F : Fun K x qual st f fd) (S : FnScope N ps (defScope st)) (len : ∀ vs H Q E, sp vs H Q E → vs.length = ps.length)
    (hbody : ∀ (cdv : Value) (A : Around) (outer : List Env) (s : Shared) (H : Hp) (vs : List V) (Q : VK) (E : XK), A.guards = some [] → Room k (A.deeper (envOfC qual (defScope st) s.heap.objs.size f cdv)) → sp vs H Q E →
      ∃ t, PSs (cxOf CX0 P w K mg base N qual (defScope st) f cdv A outer s H E).nox (defBody st) t ∧ t { nx := fun _ H' => Q .non H', rt := Q } (L2.start N vs) H) : FnG P w K mg base (k + 1) f fd ps sp := by
  obtain ⟨oc, od, kV, doc, pm, an, cdv, ct, osl, rfl, lk, hcd⟩ := F.ex
  refine ⟨len, fun A outer s H args us vs Q E hG hr e0 hb rel hsp => ?_⟩
  have grown : ∀ b o, base.get? b = some o → s.heap.get? b = some o := fun b o e => (e0.bs b o e).1
  have inK := e0.mod.kin.keeps grown
  refine codeAny_call_function hr.depth (inK _ _ lk) rfl S.co S.gen rfl (PySem.W.codeRec_of inK hcd) (hb _ _ _ _ ?_)
  refine wpAny_newFunctionEnv_cells S.kind (fun y hy => ?_) fun env he s1 entered => ?_
  · rcases S.par y.1 (List.of_mem_zip (show (y.1, y.2) ∈ ps.zip us from hy)).1 with z | z
    · exact .inl z
    · exact .inr ⟨z, PySem.W.cellsFrom_some _ _ _ (.inl z)⟩
  subst he
  obtain ⟨t, body, reads⟩ := hbody cdv A outer s H vs Q E hG (hr.deeper _) hsp
  refine ⟨(e0.mod.nolimit.keeps grown).keeps entered.toInCall.keep, codeAny_func ?_⟩
  have J := inv_start (CX := CX0) (E := E) S hr.hd e0 (len _ _ _ _ hsp) rel entered
  refine wpAny_mono (body.nox.run [] s1 (L2.start N vs) H _ J reads) (fun fl s' out => ?_) fun e s' out => out
  match fl, out with
  | .ret u, ⟨v, _, H', J', rv, q⟩ => exact ⟨v, H', J'.os, J'.bare, J'.base, J'.hok, rv, q⟩
  | .next, ⟨_, H', J', q⟩ => exact ⟨.non, H', J'.os, J'.bare, J'.base, J'.hok, rfl, q⟩
  | .brk, ⟨_, _, _, q⟩ => exact q.elim
  | .cont, ⟨_, _, _, q⟩ => exact q.elim
end
section
variable {X : Cx} {k : Nat} {f : Addr} {fd : FuncData} {ps : List Str} {sp : Sp} {E : XK} {x : Str} {p pos : Pos} {e : Expr} {es : List Expr} {t : TA}
theorem pe_callG (F : FnG X.prog X.w X.K X.mg X.base k f fd ps sp) (hG : X.A.guards = some []) (hr : Room k X.A) (hg : Gl X x) (hm : X.mg x = some (.ref f)) (hk : PySem.W.keepIn X.K (.ref f) = true) (hb : Binds X.K fd ps [])
    (hx : Passes CX0 X E) (ha : PA X (e :: es) t) (hdb : (x == ("__debug__" : Str)) = false := by decide) (he : starEach (e :: es) X.env = (false, eval e X.env) :: starEach es X.env := by rfl) (hpl : (backTo pos (starEach es X.env)).any (·.1) = false := by rfl) :
    PE X (.Call (.Name x p) (e :: es) [] pos) (tCall sp [] E t) := by
  refine ⟨fun pins s σ H Q I h => wpAny_Call_Name_kw (ld_glob I hg hm ?_ hdb)⟩
  refine PySem.W.callWith_K (h₀ := X.base) I.ok.mod.kin hk (thn (ha.run pos pins s σ H _ I h) fun us s1 ⟨vs, H1, I1, r, q⟩ => ⟨I1.kIn, ?_⟩) he hpl
  have q : sp vs H1 Q E := by simpa using q
  have many : us.length = ps.length := r.length ▸ F.len _ _ _ _ q
  have bound := hb s1 us I1.kIn (by simpa using many)
  rw [List.append_nil] at bound
  show wpAny (model X.prog X.w) X.A (call (.ref f) us) (EP X pins σ Q) X.xe s1
  refine wpAny_call (codeAny_mono (F.run X.A X.stack s1 H1 ⟨us, []⟩ us vs Q E hG hr I1.env0 bound r q) fun out s' z => ?_)
  match out, z with
  | .error er, z => exact hx pins σ H1 s1 er s' I1 z
  | .ok (.ret u), z => exact I1.after z
  | .ok .next, z => exact z.elim
  | .ok .brk, z => exact z.elim
  | .ok .cont, z => exact z.elim
end
/-- the law's own call, from the promise of its def -/
theorem lawG {P : Program} {w : World} {K : PySem.W.Frag} {mg mb : Str → Option Value} {k : Nat} {fa a : Addr} {fd : FuncData} {x : Str} {sp : Sp} {s₁ : Shared} {vs : List Value} {ns : List Int}
    (KX : K.In s₁.heap) (hns : s₁.heap.Ns mainGlobals mg) (hb : s₁.heap.Ns builtinsNs mb) (hbb : ∀ x : Str, x ≠ "__name__" → mb x = bootBuiltins x) (hlim : s₁.heap.NoLimit) (hg : s₁.gens = #[])
    (ha : s₁.heap.get? a = some { cls := .type "list", data := .seq vs.toArray }) (hi : IntsAre vs ns) (hl : ns.length ≤ sizeLine) (hr : Room k callerA)
    (F : ∀ base : Heap, K.In base → base.Ns mainGlobals mg → FnG P w K mg base k fa fd [x] sp) (hbind : ∀ (s : Shared) (u : Value), BindsTo s fd ⟨[u], []⟩ [(x, u)])
    (hsp : ∀ H : Hp, Only H → SqL K H a (ns.map V.int) → sp [.ref a] H (fun v _ => v = .bl true) fun _ _ _ => False) :
    codeAny (model P w) callerA (.call (.ref fa) ⟨[.ref a], []⟩) (fun r s' => r = .ok (.ret (.bool true)) ∧ OldK s₁.heap s'.heap ∧ s'.os = s₁.os ∧ AllBare s'.gens) s₁ := by
  classical
  have rvs := vals_ints hi
  -- what is tracked: the script, unless the program has written it
  let script : HO := .frz { cls := .type "list", data := .seq vs.toArray } (.lst (ns.map V.int))
  let H : Hp := fun b => if b = a ∧ K.lookup a = none then some script else none
  have at_ : ∀ {b u}, H b = some u → b = a ∧ K.lookup a = none ∧ u = script := fun {b u} z => by
    by_cases c : b = a ∧ K.lookup a = none
    · exact ⟨c.1, c.2, (Option.some.inj ((if_pos c).symm.trans z)).symm⟩
    · exact absurd ((if_neg c).symm.trans z) (fun z => nomatch z)
  have only : Only H := fun b => by
    cases e : H b with
    | none => exact .inl rfl
    | some u => exact .inr ⟨_, _, congrArg some (at_ e).2.2⟩
  have seq : SqL K H a (ns.map V.int) := by
    cases hk : K.lookup a with
    | none => exact .inl (.inr ⟨_, if_pos ⟨rfl, hk⟩⟩)
    | some o =>
      have e := KX a o hk
      rw [ha] at e
      cases e
      exact .inr ⟨_, vs.toArray, _, hk, rfl, rfl, rfl, by rw [List.size_toArray, hi.length]; exact hl, by simpa using rvs⟩
  have hok : HOk P w H s₁.heap := fun b u z => by
    obtain ⟨rfl, _, rfl⟩ := at_ z
    exact ⟨ha, by rw [List.length_map]; exact hl, vs, _, rvs, ha⟩
  have dictFree : ∀ {b : Addr} {o : Obj} {es : Array DictEntry} {ep : Nat}, s₁.heap.get? b = some o → o.data = .dict es ep → H b = none := fun {b o es ep} e d => by
    cases z : H b with
    | none => rfl
    | some u =>
      obtain ⟨rfl, _, _⟩ := at_ z
      rw [ha] at e
      cases e
      exact nomatch d
  have names : ∀ {b : Addr} {m : Str → Option Value}, s₁.heap.Ns b m → (hidT s₁.heap H).Ns b m := fun {b m} ⟨o, es, ep, e, d, r⟩ => ⟨o, es, ep, hidT_get e (dictFree e d), d, r⟩
  have inBase : K.In (hidT s₁.heap H) := fun b o e => hidT_get (KX b o e) (by
    cases z : H b with
    | none => rfl
    | some u =>
      obtain ⟨rfl, kn, _⟩ := at_ z
      rw [kn] at e
      exact nomatch e)
  have env : Env0 P w K mg (hidT s₁.heap H) callerA [] s₁ H := ⟨rfl, ⟨inBase, names hns, ⟨mb, names hb, hbb⟩, let ⟨mc, h1, h2⟩ := hlim; ⟨mc, names h1, h2⟩⟩, fun b o e => of_hidT e, Nat.le_of_eq (hidT_size _ _), trivial,
    fun b hb => absurd (show b ∈ ([] : List Addr) from hb) (by simp), hok, .of_eq hg⟩
  refine codeAny_mono ((F _ inBase (names hns)).run callerA [] s₁ H ⟨[.ref a], []⟩ [.ref a] [.ref a] _ _ rfl hr env (hbind s₁ (.ref a)) (.cons rfl .nil) (hsp H only seq)) fun r s' h => ?_
  match r, h with
  | .error e, h => exact (show False from h).elim
  | .ok .next, h => exact h.elim
  | .ok .brk, h => exact h.elim
  | .ok .cont, h => exact h.elim
  | .ok (.ret u), ⟨v, H', os, bare, un, hok', rel, q⟩ =>
    obtain rfl : v = .bl true := q
    obtain rfl : u = Value.bool true := rel
    refine ⟨rfl, OldK.of_keep fun b o e => ?_, os, bare⟩
    cases z : H b with
    | none => exact un.keep b o e z (fun z => absurd (show b ∈ ([] : List Addr) from z) (by simp)) (by simp)
    | some u =>
      obtain ⟨rfl, _, rfl⟩ := at_ z
      obtain ⟨e2, _⟩ := hok' _ _ (un.frzs _ _ _ z)
      rw [ha] at e
      cases e
      exact e2
theorem walkG {l : PySem.W.OpenLaw} {n k : Nat} {q : Program} {loose : List Str} {XP : (Str → Option Value) → Heap → Prop} {YP : World → Heap → Prop} {d : DefRec} {K : Params → PySem.W.Frag} {sp : World → Sp} {x : Str}
    (hn : l.most = some n) (hn2 : n ≤ sizeLine) (hdf : d.params.defaults = []) (hr : Room k callerA) (hY : ∀ (w : World) (h : Heap), YP w h → (K w.params).In h)
    (F : ∀ (w : World) (mg : Str → Option Value) (fa : Addr) (h : Heap), (K w.params).In h → h.Ns mainGlobals mg → mg d.name = some (.ref fa) →
      ∃ fd : FuncData, (∀ (s : Shared) (u : Value), BindsTo s fd ⟨[u], []⟩ [(x, u)]) ∧ ∀ base : Heap, (K w.params).In base → base.Ns mainGlobals mg → FnG l.prog w (K w.params) mg base k fa fd [x] (sp w))
    (hsp : ∀ (w : World) (H : Hp) (a : Addr) (ns : List Int), ns.length ≤ n → Only H → SqL (K w.params) H a (ns.map V.int) → sp w [.ref a] H (fun v _ => v = .bl true) fun _ _ _ => False) :
    PySem.W.WalkO q loose XP YP l.row.toRowW d [] (fun f vs => PySem.call f vs) := by
  refine Att.attach_call hn hdf fun w s₀ s₁ mg mb fa o pm cd doc a vs ns G Y ho hd hcd hmg hobj hints hlen hg => ?_
  obtain ⟨fd, bound, promise⟩ := F w mg fa _ (hY w _ Y) G.T.g hmg
  exact lawG (hY w _ Y) G.T.g G.T.b G.T.builtins G.T.nolimit hg hobj hints (Nat.le_trans hlen hn2) hr promise bound fun H only seq => hsp w H a ns hlen only seq
end Hn

/-! Rep -/
/-! how data are shown: lists of small ints, lists of these; static methods -/
namespace Hn
open PySem PySem.Spec L2
open PyProof.Rows hiding St
theorem textFrom_top : ∀ (ts : List Str) (k : Nat) (acc : Str), (textFrom k acc ts).length ≤ acc.length + piled ts
  | [], _, acc => by
    show acc.length ≤ acc.length + piled []
    omega
  | t :: r, k, acc => by
    have h := textFrom_top r (k + 1) (acc ++ (if k > 0 then ", " else "" : String) ++ t)
    have e : (acc ++ (if k > 0 then ", " else "" : String) ++ t).length ≤ acc.length + 2 + t.length := by
      rw [strLen_append, strLen_append]
      by_cases hk : k > 0
      · rw [if_pos hk]
        exact Nat.le_refl _
      · rw [if_neg hk]
        exact Nat.add_le_add_right (Nat.add_le_add_left (Nat.zero_le 2) _) _
    rw [piled_cons]
    show (textFrom (k + 1) (acc ++ (if k > 0 then ", " else "" : String) ++ t) r).length ≤ _
    omega
theorem listText_top (ts : List Str) : (listText ts).length ≤ piled ts + 2 := by
  have h := textFrom_top ts 0 "["
  show (textFrom 0 "[" ts ++ "]").length ≤ _
  rw [strLen_append]
  have e1 : (("[" : String) : Str).length = 1 := rfl
  have e2 : (("]" : String) : Str).length = 1 := rfl
  omega
theorem piled_top {m : Nat} : ∀ (ds : List PyData), (∀ d ∈ ds, d.shown.length ≤ m) → piled (PyData.shownAll ds) ≤ ds.length * (m + 2)
  | [], _ => Nat.zero_le _
  | d :: r, h => by
    show piled (d.shown :: PyData.shownAll r) ≤ _
    rw [piled_cons, List.length_cons, Nat.succ_mul]
    have h1 := h d List.mem_cons_self
    have h2 := piled_top r fun x hx => h x (List.mem_cons_of_mem _ hx)
    omega
theorem showList {m : Nat} {ds : List PyData} (h : ∀ d ∈ ds, d.shown.length ≤ m) : (PyData.list ds).shown.length ≤ ds.length * (m + 2) + 2 := by
  have h1 := listText_top (PyData.shownAll ds)
  have h2 := piled_top ds h
  show (listText (PyData.shownAll ds)).length ≤ _
  omega
theorem showable_all : ∀ {ds : List PyData}, (∀ d ∈ ds, d.showable = true) → PyData.showableAll ds = true
  | [], _ => rfl
  | d :: r, h => by
    show (d.showable && PyData.showableAll r) = true
    rw [h d List.mem_cons_self, showable_all fun x hx => h x (List.mem_cons_of_mem _ hx)]
    rfl
theorem noDict_all : ∀ {ds : List PyData}, (∀ d ∈ ds, d.hasDict = false) → PyData.hasDictAll ds = false
  | [], _ => rfl
  | d :: r, h => by
    show (d.hasDict || PyData.hasDictAll r) = false
    rw [h d List.mem_cons_self, noDict_all fun x hx => h x (List.mem_cons_of_mem _ hx)]
    rfl
/-- data that are compared and shown: all that the law asks of them -/
structure Fine (n : Nat) (m : Nat) (d : PyData) : Prop where
  lay : d.canLay0 = true
  show_ : d.showable = true
  nod : d.hasDict = false
  dep : d.depth ≤ n
  len : d.shown.length ≤ m
theorem Fine.list {n m k : Nat} {ds : List PyData} (h : ∀ d ∈ ds, Fine n m d) (hk : ds.length ≤ k) : Fine (n + 1) (k * (m + 2) + 2) (.list ds) where
  lay := lay_all fun d hd => (h d hd).lay
  show_ := showable_all fun d hd => (h d hd).show_
  nod := noDict_all fun d hd => (h d hd).nod
  dep := Nat.succ_le_succ (depth_all fun d hd => (h d hd).dep)
  len := Nat.le_trans (showList fun d hd => (h d hd).len) (Nat.add_le_add_right (Nat.mul_le_mul_right _ hk) 2)
theorem Fine.int {i : Int} (h0 : 0 ≤ i) (h1 : i ≤ 100) : Fine 0 102 (.int i) where
  lay := rfl
  show_ := by
    show decide (i.natAbs.log2 < 1920) = true
    have := Nat.log2_le_self i.natAbs
    exact decide_eq_true (by omega)
  nod := rfl
  dep := Nat.le_refl _
  len := by
    have h := len_str_of_int i
    show (Str.ofString (toString i)).length ≤ 102
    omega
theorem fineI {ns : List Int} (h : ns.length ≤ 48) (hb : ∀ x ∈ ns, 0 ≤ x ∧ x ≤ 100) : Fine 1 5000 (dI ns) := by
  have z := Fine.list (n := 0) (m := 102) (k := 48) (ds := ns.map PyData.int) (fun d hd => by
    obtain ⟨i, hi, rfl⟩ := List.mem_map.mp hd
    exact Fine.int (hb i hi).1 (hb i hi).2) (by rw [List.length_map]; exact h)
  exact ⟨z.lay, z.show_, z.nod, z.dep, Nat.le_trans z.len (by decide)⟩
/-- a list of rows -/
abbrev dL (rows : List (List Int)) : PyData := .list (rows.map dI)
theorem fineL {rows : List (List Int)} (h : rows.length ≤ 48) (hb : ∀ r ∈ rows, r.length ≤ 48 ∧ ∀ x ∈ r, 0 ≤ x ∧ x ≤ 100) : Fine 2 1000000 (dL rows) := by
  have z := Fine.list (n := 1) (m := 5000) (k := 48) (ds := rows.map dI) (fun d hd => by
    obtain ⟨r, hr, rfl⟩ := List.mem_map.mp hd
    exact fineI (hb r hr).1 (hb r hr).2) (by rw [List.length_map]; exact h)
  exact ⟨z.lay, z.show_, z.nod, z.dep, Nat.le_trans z.len (by decide)⟩
theorem Fine.shaped {n m : Nat} {d : PyData} (h : Fine n m d) (hn : n ≤ 60) : SeqAt.shaped d = true := by
  unfold SeqAt.shaped
  rw [h.lay, Bool.true_and]
  exact decide_eq_true (by have := h.dep; omega)
theorem dp_L {K : PySem.W.Frag} {H : Hp} {D : Addr} {as : List Addr} {rows : List (List Int)} (hD : SqL K H D (as.map V.ref)) (hl : as.length = rows.length) (hk : ∀ k (h : k < as.length) (h2 : k < rows.length), SqL K H as[k] (iv rows[k])) : Dp K H (.ref D) (dL rows) := by
  refine .lst hD (dpAll_of (by rw [List.length_map, List.length_map]; exact hl) fun i h1 h2 => ?_)
  rw [List.length_map] at h1
  rw [List.getElem_map, List.getElem_map]
  exact Dp.ints (hk i h1 (by omega))
/-- C.m is a static method: its record at p, its def at g -/
structure SMet (K : PySem.W.Frag) (C : Addr) (m : Str) (p g : Addr) : Prop where
  rd : PySem.W.readsIn K C (.type "type") = true
  ga : PySem.W.specialIn K (.ref C) "__getattribute__" = some (some (.builtin "type.__getattribute__"))
  at_ : PySem.W.findCls K (.ref C) (.type "type") m = some (.get (.builtin "staticmethod.__get__") (.ref p) .none (.ref C))
  rc : ∃ rest, PySem.W.recIn K p "staticmethod" = some (.ref g :: rest)
def tSMeth (C : Addr) (sp : Sp) (E : XK) (ta : TE) (t : TA) : TE := fun σ H Q => ta σ H fun x H1 => x = .ref C ∧ t σ H1 fun vs H2 => sp vs H2 Q E
theorem pe_smeth {X : Cx} {k : Nat} {C p f : Addr} {fd : FuncData} {ps : List Str} {sp : Sp} {E : XK} {o e : Expr} {es : List Expr} {m : Str} {pos apos : Pos} {ta : TE} {t : TA} {pl : Sem Bool} (he : PE X o ta) (c : SMet X.K C m p f)
    (F : FnOk X.prog X.w X.K X.mg X.base CX0 k f fd ps sp) (hr : Room k X.A) (hk : PySem.W.keepIn X.K (.ref f) = true) (hb : Binds X.K fd ps []) (hx : Passes CX0 X E) (ha : PA X (e :: es) t)
    (hst : starEach (e :: es) X.env = (false, eval e X.env) :: starEach es X.env := by rfl) (hpl : (backTo pos (starEach es X.env)).any (·.1) = false := by rfl)
    (ht : eval (.Call (.Attribute o m apos) (e :: es) [] pos) X.env = (do
      let ov ← eval o X.env
      standAt apos.atName
      let (f, first) ← holding [ov] (getMethod ov m pl)
      callWith pos f first (backTo pos (starEach (e :: es) X.env)) (backToKw pos (keywordEach [] X.env))) := by rfl) :
    PE X (.Call (.Attribute o m apos) (e :: es) [] pos) (tSMeth C sp E ta t) := by
  refine ⟨fun pins s σ H Q I h => ?_⟩
  refine PySem.W.methodCall_KW (pl := pl) (thn (he.run pins s σ H _ I h) fun u s1 ⟨x, H1, I1, rx, ex, q⟩ => ?_) ht
  subst ex
  obtain rfl : u = Value.ref C := rx
  obtain ⟨rest, hp⟩ := c.rc
  refine PySem.W.method_cls I1.kIn c.ga (PySem.W.cls_bind I1.kIn c.rd c.at_ ?_)
  refine wpAny_call (PySem.W.sm_get (s := { s1 with toks := s1.toks + 1 }) I1.kIn hp (PySem.W.handed_on rfl ?_))
  have I2 : Inv X pins σ H1 { s1 with toks := s1.toks + 1 } := I1.tok _
  refine PySem.W.callWith_K (h₀ := X.base) I2.ok.mod.kin hk (thn (ha.run pos pins _ σ H1 _ I2 q) fun us s3 ⟨vs, H2, I3, rv, q2⟩ => ⟨I3.kIn, ?_⟩) hst hpl
  exact run_fn F hr hb .nil hx I3 rv (by simpa using q2)
/-- elements that are new objects, over a list -/
theorem lc_newL {K : PySem.W.Frag} {a : Addr} {xs : List V} {te : TE} {j : Nat} {σ : L2.St} {H1 : Hp} {D : Addr} {Qd : Hp → Prop} (f : Nat → HO) (hS : SqL K H1 a xs) (nD : H1 D = none) (hz : xs.length ≤ 10000)
    (he : ∀ i (hi : i < xs.length) (H : Hp) (R : VK), Same H1 H → (∀ H4 p, Same H H4 → H p = none → H4 p = some (f i) → R (.ref p) H4) → te ((wipe σ [j]).set j (some xs[i])) H R)
    (hd : ∀ H (as : List Addr), Same H1 H → H D = some (.lst (as.map V.ref)) → as.length = xs.length → (∀ k (h : k < as.length), H as[k] = some (f k)) → Qd H) : LcG (Itl K a) (gName j) tYes te [j] σ H1 D Qd := by
  refine lc_list (K := K) (a := a) (xs := xs) (fun i H => ∃ as : List Addr, Same H1 H ∧ H D = some (.lst (as.map V.ref)) ∧ as.length = i ∧ ∀ k (h : k < as.length), as[k] ≠ D ∧ H as[k] = some (f k))
    ⟨[], same_new nD, upd_same, rfl, fun k h => nomatch h⟩ (fun i H _ ⟨_, sm, _⟩ => sm.seq hS) (fun i x H hx ⟨as, sm, hD, hl, hp⟩ => ?_) (fun H ⟨as, sm, hD, hl, hp⟩ => hd H as sm hD hl fun k h => (hp k h).2)
  have hi : i < xs.length := (List.getElem?_eq_some_iff.mp hx).1
  rw [List.getElem?_eq_getElem hi] at hx
  cases hx
  refine ⟨wipe_one _ _ _, he i hi H _ sm fun H4 p s4 np hp4 => ?_⟩
  have hD4 := s4 _ _ hD
  have npD : p ≠ D := (ne_of_none hD np).symm
  refine ⟨as.map V.ref, hD4, by rw [List.length_map]; exact small_line (by omega), as ++ [p], fun b o e => ?_, ?_, by rw [List.length_append, hl]; rfl, fun k h => ?_⟩
  · rw [upd_ne (ne_of_none e nD)]
    exact s4 _ _ (sm _ _ e)
  · rw [upd_same, List.map_append]
    rfl
  · rw [List.length_append] at h
    by_cases hk : k < as.length
    · rw [List.getElem_append_left hk]
      obtain ⟨q1, q2⟩ := hp k hk
      exact ⟨q1, by rw [upd_ne q1]; exact s4 _ _ q2⟩
    · have e : k = as.length := by
        have : [p].length = 1 := rfl
        omega
      subst e
      rw [List.getElem_append_right (Nat.le_refl _)]
      simp only [Nat.sub_self, List.getElem_cons_zero]
      rw [hl]
      exact ⟨npD, by rw [upd_ne npD]; exact hp4⟩
theorem rg_len (n : Nat) : (rgV 0 (n : Int)).length = n := by
  rw [rgV_length]
  omega
theorem rg_at {n i : Nat} (h : i < (rgV 0 (n : Int)).length) : (rgV 0 (n : Int))[i] = V.int (i : Int) := by
  have e : rgV 0 (n : Int) = (List.range ((n : Int) - 0).toNat).map fun i => V.int (0 + (i : Nat)) := rfl
  have h' : i < ((List.range ((n : Int) - 0).toNat).map fun i => V.int (0 + (i : Nat))).length := h
  show ((List.range ((n : Int) - 0).toNat).map fun i => V.int (0 + (i : Nat)))[i] = V.int (i : Int)
  rw [List.getElem_map, List.getElem_range, Int.zero_add]
theorem le100 {m : Int} (h0 : 0 ≤ m) (h1 : m ≤ 48) : 0 ≤ m ∧ m ≤ 100 := ⟨h0, by omega⟩
theorem stays_fit {ns : List Int} (v : Clk.Valid ns) : ∀ x ∈ ns, 0 ≤ x ∧ x ≤ 100 := fun x hx => by
  have h := v.mem hx
  have t := v.top
  exact ⟨by omega, by omega⟩
theorem widths_fit {ns : List Int} (v : Clk.Valid ns) : ∀ x ∈ Clk.widths ns, 0 ≤ x ∧ x ≤ 100 := fun x hx => by
  obtain ⟨i, hi, rfl⟩ := Clk.mem_row.mp hx
  have h := Clk.wd_le ns (i : Int)
  have t := v.top
  exact ⟨by omega, by omega⟩
theorem mod_fit {n : Nat} (p : 0 < n) (t : n ≤ 48) (x : Int) : 0 ≤ x % (n : Int) ∧ x % (n : Int) ≤ 100 := by
  have h1 := Int.emod_nonneg x (show (n : Int) ≠ 0 by omega)
  have h2 := Int.emod_lt_of_pos x (show (0 : Int) < n by omega)
  exact ⟨h1, by omega⟩
theorem served_fit {ns : List Int} (v : Clk.Valid ns) (i : Int) : (Clk.served ns i).length ≤ 48 ∧ ∀ x ∈ Clk.served ns i, 0 ≤ x ∧ x ≤ 100 := by
  have l := Clk.served_len v i
  have hi := v.hi i
  have t := v.top
  refine ⟨by omega, fun x hx => ?_⟩
  obtain ⟨k, _, rfl⟩ := Clk.mem_row.mp hx
  exact mod_fit v.pos t _
theorem serving_fit {ns : List Int} (v : Clk.Valid ns) (i : Int) : (Clk.serving ns i).length ≤ 48 ∧ ∀ x ∈ Clk.serving ns i, 0 ≤ x ∧ x ≤ 100 := by
  have l := Clk.serving_len ns i
  have hi := Clk.wd_le ns i
  have t := v.top
  refine ⟨by omega, fun x hx => ?_⟩
  obtain ⟨k, _, rfl⟩ := Clk.mem_row.mp hx
  exact mod_fit v.pos t _
/-- rows made hour by hour -/
theorem dp_rows {K : PySem.W.Frag} {H : Hp} {D : Addr} {as : List Addr} {n : Nat} (g : Nat → List Int) (hD : H D = some (.lst (as.map V.ref))) (hl : as.length = n) (hk : ∀ k (h : k < as.length), H as[k] = some (.lst (iv (g k)))) : Dp K H (.ref D) (dL ((List.range n).map g)) :=
  dp_L (SqL.of hD) (by rw [List.length_map, List.length_range]; exact hl) fun k h h2 => by
    rw [List.getElem_map, List.getElem_range]
    exact SqL.of (hk k h)
theorem fine_rows {n : Nat} (hn : n ≤ 48) (g : Nat → List Int) (h : ∀ k, (g k).length ≤ 48 ∧ ∀ x ∈ g k, 0 ≤ x ∧ x ≤ 100) : Fine 2 1000000 (dL ((List.range n).map g)) := fineL (by rw [List.length_map, List.length_range]; exact hn) fun r hr => by
  obtain ⟨k, _, rfl⟩ := List.mem_map.mp hr
  exact h k
end Hn

/-! Exn -/
/-! errors: what a try's body lets out, isinstance(e, X) of an error of just this class -/
namespace Hn
open PySem PySem.Spec L2
open PyProof.Rows hiding St
theorem pe_never {X : Cx} {e : Expr} : PE X e (fun _ _ _ => False) := ⟨fun _ _ _ _ _ _ h => h.elim⟩
/-- in a try's body: what is wished must hold at all slots -/
theorem passLen {X : Cx} {W : WX} (n : Nat) (tk : Takes X W) (hn : X.N.length = n) : Passes (L2.CX X.prog X.w) X (fun cls d H => ∀ σ : L2.St, σ.length = n → W cls d σ H) := fun _ σ _ _ e s' I c => tk e s' (XE.of_call I (fun _ _ _ h => h σ (I.len.trans hn)) c)
/-- in a def that may raise: what a callee lets out goes out -/
theorem passOut {X : Cx} {E : XK} (tk : Takes X (fun cls d _ H => E cls d H)) : Passes (L2.CX X.prog X.w) X E := passes_call tk fun _ _ _ _ h => h
/-- a callee that may raise, but doesn't as it is called here -/
theorem passNone {X : Cx} : Passes (L2.CX X.prog X.w) X E0 := fun _ _ _ _ _ _ _ c => by
  obtain ⟨_, _, _, _, _, _, _, _, _, _, _, _, h⟩ := c
  exact h.elim
section
variable {prog : Program} {w : World} {A : Around} {E : Value → Shared → Prop} {s : Shared}
theorem isinst_exact {K : PySem.W.Frag} {x D : Addr} {oe : Obj} {od : Option Obj} {Q : Value → Shared → Prop} (J : PySem.W.InstAt s.heap x oe D od) (h : Q (.bool true) s) : wpAny (model prog w) A (call (.builtin "isinstance") [.ref x, .ref D]) Q E s := by
  refine call_isinstance (S := fun _ R s => (∃ oe od, PySem.W.InstAt s.heap x oe D od) ∧ R (.ok (.ret (.bool true))) s) (fun prog w A R s hs => isinstance_outer ?_ (fun z => nomatch z)) ⟨⟨oe, od, J⟩, h⟩
  obtain ⟨⟨oe, od, J⟩, hR⟩ := hs
  unfold Builtin.«isinstance.nested»
  refine wpAny_bind (J.type.here ?_)
  rw [if_pos (by simp)]
  exact wpAny_bind (wpAny_rule (wpAny_pure hR))
end
/-- isinstance(e, D), e the error that the suite holds, of the class D, with its own dict -/
def rIsX (cls : Value) (d : Option Addr) (a : Addr) : List V → Hp → VK → Prop := fun xs H Q => ∃ (D dd : Addr) (fs : List (Str × V)), xs = [.ref a, .ref D] ∧ cls = .ref D ∧ d = some dd ∧ H dd = some (.xd fs) ∧ Q (.bl true) H
theorem call_isX {X : Cx} {a : Addr} {oe : Obj} {cls : Value} {d : Option Addr} {pn : List (Addr × Obj)} (hz : Zc cls d oe) (hf : ∃ vs, oe.data = .fields vs) : CallR (X.suite a ((a, oe) :: pn)) (.builtin "isinstance") (rIsX cls d a) := by
  intro pins s σ H xs us Q I r h
  obtain ⟨D, dd, fs, rfl, rfl, rfl, hd, q⟩ := h
  obtain ⟨u, v, rfl, ru, rv⟩ := r.two
  cases ru
  cases rv
  obtain ⟨hget, _⟩ := I.pin (a, oe) (List.mem_append.mpr (.inl List.mem_cons_self))
  obtain ⟨vs, hv⟩ := hf
  obtain ⟨mA, hn, _⟩ := I.hok dd _ hd
  obtain ⟨oD, es, ep, eD, _, _⟩ := id hn
  have J : PySem.W.InstAt s.heap a oe D (some oD) := by
    obtain ⟨oc, od, oda, osl⟩ := oe
    obtain ⟨z1, z2⟩ := hz
    dsimp only at z1 z2 hv
    subst z1 z2 hv
    exact ⟨hget, rfl, rfl, eD⟩
  exact isinst_exact (K := X.K) J ⟨.bl true, H, I, rfl, q⟩
/-- an error of the class at X is what «except S» names -/
theorem exm_sub {K : PySem.W.Frag} {X S : Addr} (h1 : PySem.W.subIn K (.ref S) (.type "BaseException") = some true) (h2 : PySem.W.isClsIn K S = true) (h3 : PySem.W.typeIn K (.ref S) = some (.type "type")) (h4 : PySem.W.subIn K (.ref X) (.ref S) = some true) :
    PySem.W.exmOne K (.ref X) (.ref S) = some true := by
  have e1 : (PySem.W.subIn K (.ref S) (.type "BaseException") == some true) = true := by rw [h1] <;> rfl
  have e2 : ((PySem.W.clsIn K S).isSome && PySem.W.typeIn K (.ref S) == some (.type "type")) = true := by
    have h2' : (PySem.W.clsIn K S).isSome = true := h2
    rw [h2', h3] <;> rfl
  show (if (PySem.W.subIn K (.ref S) (.type "BaseException") == some true) = true then (if ((PySem.W.clsIn K S).isSome && PySem.W.typeIn K (.ref S) == some (.type "type")) = true then PySem.W.subIn K (.ref X) (.ref S) else none) else none) = some true
  rw [if_pos e1, if_pos e2]
  exact h4
end Hn

/-! SortB -/
/-! sorted(xs) of truths -/
namespace Hn
open PySem PySem.Spec L2
open PyProof.Rows hiding St
/-- a truth's number -/
def b2 : Value → Nat
  | .bool true => 1
  | _ => 0
def ltB (v u : Value) : Bool := decide (b2 v < b2 u)
theorem swo_B : SrtO.Swo ltB := by
  refine ⟨fun x y h => ?_, fun x y z h1 h2 => ?_⟩
  · have a := of_decide_eq_true (p := b2 x < b2 y) h
    exact decide_eq_false (p := b2 y < b2 x) (by omega)
  · have a := of_decide_eq_false (p := b2 y < b2 x) h1
    have b := of_decide_eq_false (p := b2 z < b2 y) h2
    exact decide_eq_false (p := b2 z < b2 x) (by omega)
theorem bool_first (b : Bool) : firstOfTuple' (.bool b) = pure none := by
  first
  | rfl
  | (cases b <;> rfl)
  | (simp only [firstOfTuple']; rfl)
theorem bools_first : ∀ bs : List Bool, (bs.map Value.bool).mapM firstOfTuple' = pure (bs.map fun _ => none)
  | [] => rfl
  | b :: r => by
    rw [List.map_cons, List.mapM_cons, bool_first, bools_first r]
    simp
theorem bools_type : ∀ bs : List Bool, (bs.map Value.bool).mapM typeOf = pure (bs.map fun _ => Value.type "bool")
  | [] => rfl
  | b :: r => by
    rw [List.map_cons, List.mapM_cons, bools_type r]
    show (pure (Value.type "bool") >>= fun b => pure _ >>= fun bs => pure (b :: bs)) = _
    simp
theorem kind_B {b c : Bool} {r : List Bool} : keyKind' ((b :: c :: r).map Value.bool).toArray = pure oneType' := by
  rw [keyKind'_eq, List.mapM_toArray, bools_first]
  simp only [map_pure, pure_bind]
  rw [if_neg (by simp), if_neg (by simp)]
  rw [oneTypeOnly'_eq, List.mapM_toArray, bools_type]
  simp only [map_pure, pure_bind]
  have hall : ((List.map (fun _ => Value.type "bool") (b :: c :: r)).toArray.all fun x => x == Value.type "bool") = true := by
    simp only [List.all_toArray, List.all_map, List.all_eq_true]
    intro _ _
    rfl
  have h0 : (List.map (fun _ => Value.type "bool") (b :: c :: r)).toArray[0]? = some (Value.type "bool") := by simp
  rw [h0]
  simp only [hall, if_true, pure_bind, Option.isSome_some]
section
variable {prog : Program} {w : World} {A : Around} {E : Value → Shared → Prop} {s : Shared}
theorem lt_B {p q : Bool} {Q : Bool → Shared → Prop} (h : Q (decide (b2 (.bool p) < b2 (.bool q))) s) : wpAny (model prog w) A (oneLt' true (.bool p) (.bool q)) Q E s := by
  rw [oneLt'_eq]
  simp only [if_true]
  refine wpAny_bind (wpAny_cRoomFor_byValue rfl ?_)
  refine wpAny_bind (wpAny_callSpecialIfBound?_slot (typeIs_bool' s p) PySem.F.slot_bool_lt (wpAny_call_entry PySem.F.slot_bool_lt (typeIs_bool' s p) PySem.F.entry_int_lt ?_ (PySem.F.args_int_lt_2 _ _)))
  cases p <;> cases q <;> exact wpAny_pure ⟨_, rfl, wpAny_truthy_bool h⟩
theorem bools_cmp {bs : List Bool} : SrtO.Cmp prog w A s oneType' (fun p => p.1 ∈ bs.map Value.bool) (SrtO.lt2 ltB) := by
  intro x y hx hy
  obtain ⟨p, _, e⟩ := List.mem_map.mp hx
  obtain ⟨q, _, e'⟩ := List.mem_map.mp hy
  show wpAny (model prog w) A (keyLt' oneType' x.1 y.1) (fun r s' => s' = s ∧ r = ltB x.1 y.1) (fun _ _ => False) s
  rw [← e, ← e', keyLt'_oneType]
  exact lt_B ⟨rfl, rfl⟩
theorem bools_sortable {a : Addr} {bs : List Bool} (h2 : 2 ≤ (bs.map Value.bool).length) : SrtO.SortableO prog w A s a (bs.map Value.bool) ltB := by
  intro h' _
  refine ⟨oneType', fun Q E hq => ?_, bools_cmp⟩
  match bs, h2 with
  | b :: c :: r, _ =>
    rw [kind_B]
    exact wpAny_pure hq
  | [], h => exact absurd h (by decide)
  | [b], h => exact absurd h (by simp)
end
/-- the truth of such a value -/
def tb : Value → Bool
  | .bool b => b
  | _ => false
theorem tb_map (bs : List Bool) : (bs.map Value.bool).map tb = bs := by
  rw [List.map_map]
  exact List.map_id bs
theorem vals_B : ∀ {bs : List Bool} {us : List Value}, Vals (bv bs) us → us = bs.map Value.bool
  | [], _, .nil => rfl
  | b :: r, _, .cons x t => by
    cases (show _ = Value.bool b from x)
    rw [vals_B t]
    rfl
theorem back_B : ∀ {us : List Value}, (∀ u ∈ us, ∃ b, u = Value.bool b) → us = (us.map tb).map Value.bool
  | [], _ => rfl
  | u :: r, h => by
    obtain ⟨b, rfl⟩ := h u List.mem_cons_self
    show Value.bool b :: r = Value.bool b :: (r.map tb).map Value.bool
    rw [← back_B fun v hv => h v (List.mem_cons_of_mem _ hv)]
theorem to_vals : ∀ bs : List Bool, Vals (bv bs) (bs.map Value.bool)
  | [] => .nil
  | b :: r => .cons rfl (to_vals r)
/-- sorted(xs), xs a list of truths -/
def rSortedB (K : PySem.W.Frag) : List V → Hp → VK → Prop := fun vs H Q => ∃ (a : Addr) (bs : List Bool), vs = [V.ref a] ∧ SqL K H a (bv bs) ∧
  ∀ (bs' : List Bool) (p : Addr), bs'.Perm bs → bs'.Pairwise (fun x y => x = true → y = true) → H p = none → Q (.ref p) (upd H p (.lst (bv bs')))
theorem K_sortedB {X : Cx} {K : PySem.W.Frag} (hK : X.K = K) : CallR X (.builtin "sorted") (rSortedB K) := by
  subst hK
  intro pins s σ H vs us Q I r h
  obtain ⟨a, bs, rfl, hs, q⟩ := h
  obtain ⟨its, rv, hl, hz⟩ := I.list hs
  rw [Vals.ref1 r]
  obtain rfl := vals_B rv
  refine SrtO.sorted_ord swo_B hl.isList (by rw [← rv.length]; exact hz) (fun h2 h₁ a' _ _ => bools_sortable h2) fun out h1 h2 => ?_
  have hb : out = (out.map tb).map Value.bool := back_B fun u hu => by
    obtain ⟨b, _, e⟩ := List.mem_map.mp (h2.perm.mem_iff.mp hu)
    exact ⟨b, e.symm⟩
  have hp : (out.map tb).Perm bs := by
    have z := h2.perm.map tb
    rwa [tb_map] at z
  have ho : (out.map tb).Pairwise (fun x y => x = true → y = true) := by
    rw [List.pairwise_map]
    refine List.Pairwise.imp_of_mem (fun {x y} hx hy z e => ?_) h1
    obtain ⟨p, _, ep⟩ := List.mem_map.mp (h2.perm.mem_iff.mp hx)
    obtain ⟨c, _, ec⟩ := List.mem_map.mp (h2.perm.mem_iff.mp hy)
    subst ep ec
    have z' : ¬ b2 (.bool c) < b2 (.bool p) := of_decide_eq_false (p := b2 (.bool c) < b2 (.bool p)) z
    obtain rfl : p = true := e
    cases c with
    | true => rfl
    | false => exact absurd (by decide) z'
  obtain ⟨ep, he'⟩ := PyProof.Rows.sortedAll_at s.heap (bs.map Value.bool) out.toArray
  have hlen : (bv (out.map tb)).length ≤ sizeLine := by
    rw [List.length_map, hp.length_eq]
    rwa [List.length_map] at hz
  exact ⟨.ref _, upd H (s.heap.objs.size + 1) (.lst (bv (out.map tb))), I.laid (t' := s.toks) (fun _ _ => PyProof.Rows.sortedAll_old) (Nat.le_succ _) ⟨hlen, out, ep, by have z := to_vals (out.map tb); rwa [← hb] at z, he'⟩, rfl, q _ _ hp ho (I.hok.fresh (Nat.le_succ _))⟩
end Hn

/-! Gap -/
/-! windows with gaps -/
namespace Hn
open PySem L2
def Desc (bs : List Bool) : Prop := bs.Pairwise fun x y => y = true → x = true
theorem desc_form : ∀ {bs : List Bool}, Desc bs → bs = List.replicate (bs.count true) true ++ List.replicate (bs.count false) false
  | [], _ => rfl
  | true :: r, h => by
    have ih := desc_form (List.pairwise_cons.mp h).2
    rw [List.count_cons_self, List.count_cons_of_ne (by decide), List.replicate_succ, List.cons_append, ← ih]
  | false :: r, h => by
    obtain ⟨h1, h2⟩ := List.pairwise_cons.mp h
    have z : r.count true = 0 := List.count_eq_zero.mpr fun hm => absurd (h1 true hm rfl) (by decide)
    have ih := desc_form h2
    rw [z] at ih
    rw [List.count_cons_self, List.count_cons_of_ne (by decide), z, List.replicate_succ]
    show false :: r = false :: List.replicate (List.count false r) false
    exact congrArg (false :: ·) ih
theorem desc_eq {bs cs : List Bool} (h1 : Desc bs) (h2 : Desc cs) (p : bs.Perm cs) : bs = cs := by
  rw [desc_form h1, desc_form h2, p.count_eq, p.count_eq]
/-- sorted, the other way about -/
theorem back_iff {bs cs : List Bool} (p : cs.Perm bs) (h : cs.Pairwise fun x y => x = true → y = true) : bs = cs.reverse ↔ Desc bs := by
  have hr : Desc cs.reverse := List.pairwise_reverse.mpr (h.imp fun {x y} z => z)
  constructor
  · intro e
    rw [e]
    exact hr
  · intro d
    exact desc_eq d hr (p.symm.trans (List.reverse_perm cs).symm)
theorem eqvAll_B : ∀ a b : List Bool, PyData.eqvAll (a.map PyData.bool) (b.map PyData.bool) = decide (a = b)
  | [], [] => rfl
  | [], y :: r => rfl
  | x :: r, [] => rfl
  | x :: r, y :: t => by
    show (PyData.eqv (.bool x) (.bool y) && PyData.eqvAll (r.map PyData.bool) (t.map PyData.bool)) = decide (x :: r = y :: t)
    rw [eqvAll_B r t]
    have e : PyData.eqv (.bool x) (.bool y) = decide (x = y) := by cases x <;> cases y <;> rfl
    rw [e]
    by_cases h : x = y
    · subst h
      simp
    · simp [h]
theorem eqv_B (a b : List Bool) : PyData.eqv (dB a) (dB b) = decide (a = b) := eqvAll_B a b
/-- who serves the hour h, by how long ago -/
def servesB (ns : List Int) (h : Int) : List Bool := (List.range ns.length).map fun b : Nat => decide (Clk.S ns (h - b) > (b : Int))
theorem serves_desc {ns : List Int} (v : Clk.Valid ns) (h : Int) : Desc (servesB ns h) := by
  unfold Desc servesB
  rw [List.pairwise_map]
  refine List.Pairwise.imp_of_mem (fun {a b} ha hb hlt e => ?_) List.pairwise_lt_range
  have h1 := List.mem_range.mp ha
  have h2 := List.mem_range.mp hb
  have z1 := Clk.wd_iff v h h1
  have z2 := Clk.wd_iff v h h2
  have e' := of_decide_eq_true e
  exact decide_eq_true (by omega)
theorem desc_at {ns : List Int} {h : Int} (d : Desc (servesB ns h)) {a : Nat} (ha : a + 1 < ns.length) (e : Clk.S ns (h - ((a + 1 : Nat) : Int)) > ((a + 1 : Nat) : Int)) : Clk.S ns (h - a) > (a : Int) := by
  unfold Desc servesB at d
  rw [List.pairwise_map, List.pairwise_iff_getElem] at d
  have z := d a (a + 1) (by rw [List.length_range]; omega) (by rw [List.length_range]; omega) (Nat.lt_succ_self a)
  rw [List.getElem_range, List.getElem_range] at z
  exact of_decide_eq_true (z (decide_eq_true e))
theorem valid_of_desc {ns : List Int} (pos : 0 < ns.length) (top : ns.length ≤ 48) (fit : ∀ x ∈ ns, 1 ≤ x ∧ x ≤ ns.length) (d : ∀ h : Nat, h < ns.length → Desc (servesB ns h)) : Clk.Valid ns := by
  refine Clk.Valid.of pos top (fun i h => fit _ (List.getElem_mem h)) fun i hi => ?_
  refine Decidable.by_contra fun no => ?_
  obtain ⟨k1, e1⟩ := Clk.S_at pos ((i : Int) + 1)
  obtain ⟨k0, e0⟩ := Clk.S_at pos (i : Int)
  have f1 := fit _ (List.getElem_mem k1)
  have f0 := fit _ (List.getElem_mem k0)
  rw [← e1] at f1
  rw [← e0] at f0
  obtain ⟨s, hs⟩ := Int.eq_ofNat_of_zero_le (show 0 ≤ Clk.S ns ((i : Int) + 1) by omega)
  have n0 : (ns.length : Int) ≠ 0 := by omega
  have r0 := Int.emod_nonneg ((i : Int) + 1 + s) n0
  have r1 := Int.emod_lt_of_pos ((i : Int) + 1 + s) (show (0 : Int) < ns.length by omega)
  obtain ⟨h, hh⟩ := Int.eq_ofNat_of_zero_le r0
  have back : ∀ x : Int, Clk.S ns ((h : Int) - x) = Clk.S ns ((i : Int) + 1 + s - x) := fun x => Clk.S_mod (by
    rw [← hh, Int.emod_sub_emod])
  have z := desc_at (d h (by omega)) (a := s) (by omega) (by
    rw [back, show (i : Int) + 1 + s - ((s + 1 : Nat) : Int) = i by omega]
    omega)
  rw [back, show (i : Int) + 1 + s - s = (i : Int) + 1 by omega] at z
  omega
end Hn

/-! Rows -/
/-! rows of rows -/
namespace Hn
open PySem L2
def rowsNext (k : Nat) (rs : List (List Int)) : List (List Int) := rs.flatMap fun r => (List.range k).map fun s : Nat => r ++ [1 + (s : Int)]
def rowsOf (k : Nat) : Nat → List (List Int)
  | 0 => [[]]
  | m + 1 => rowsNext k (rowsOf k m)
theorem rowsNext_len (k : Nat) (rs : List (List Int)) : (rowsNext k rs).length = rs.length * k := by
  unfold rowsNext
  induction rs with
  | nil => simp
  | cons r t ih =>
    rw [List.flatMap_cons, List.length_append, ih, List.length_map, List.length_range, List.length_cons, Nat.succ_mul]
    omega
theorem rowsOf_len (k : Nat) : ∀ m, (rowsOf k m).length = k ^ m
  | 0 => rfl
  | m + 1 => by
    show (rowsNext k (rowsOf k m)).length = _
    rw [rowsNext_len, rowsOf_len k m, Nat.pow_succ]
theorem rowsOf_mem (k : Nat) : ∀ (m : Nat) (r : List Int), r ∈ rowsOf k m → r.length = m ∧ ∀ x ∈ r, 1 ≤ x ∧ x ≤ k
  | 0, r, h => by
    obtain rfl : r = [] := by simpa [rowsOf] using h
    exact ⟨rfl, fun x hx => absurd hx (List.not_mem_nil)⟩
  | m + 1, r, h => by
    obtain ⟨r', h1, h2⟩ := List.mem_flatMap.mp (show r ∈ rowsNext k (rowsOf k m) from h)
    obtain ⟨s, h3, rfl⟩ := List.mem_map.mp h2
    obtain ⟨l, f⟩ := rowsOf_mem k m r' h1
    have hs := List.mem_range.mp h3
    refine ⟨by rw [List.length_append, l]; rfl, fun x hx => ?_⟩
    rcases List.mem_append.mp hx with z | z
    · exact f x z
    · obtain rfl := List.mem_singleton.mp z
      exact ⟨by omega, by omega⟩
theorem rowsNext_take (k : Nat) (rs : List (List Int)) {j : Nat} (h : j < rs.length) : rowsNext k (rs.take (j + 1)) = rowsNext k (rs.take j) ++ (List.range k).map fun s : Nat => rs[j] ++ [1 + (s : Int)] := by
  unfold rowsNext
  rw [take_next h, List.flatMap_append]
  simp
/-- the rows rs at as, none of them at L -/
inductive RA (L : Addr) (H : Hp) : List Addr → List (List Int) → Prop
  | nil : RA L H [] []
  | cons {a : Addr} {as : List Addr} {r : List Int} {rs : List (List Int)} : a ≠ L → H a = some (.lst (iv r)) → RA L H as rs → RA L H (a :: as) (r :: rs)
theorem RA.imp {L M : Addr} {H H' : Hp} {as : List Addr} {rs : List (List Int)} (x : RA L H as rs) (h : ∀ a o, a ≠ L → H a = some o → a ≠ M ∧ H' a = some o) : RA M H' as rs := by
  induction x with
  | nil => exact .nil
  | cons n e _ ih =>
    obtain ⟨n', e'⟩ := h _ _ n e
    exact .cons n' e' ih
theorem RA.append {L : Addr} {H : Hp} {as bs : List Addr} {rs ts : List (List Int)} (x : RA L H as rs) (y : RA L H bs ts) : RA L H (as ++ bs) (rs ++ ts) := by
  induction x with
  | nil => exact y
  | cons n e _ ih => exact .cons n e ih
theorem RA.len {L : Addr} {H : Hp} {as : List Addr} {rs : List (List Int)} (x : RA L H as rs) : as.length = rs.length := by
  induction x with
  | nil => rfl
  | cons _ _ _ ih => rw [List.length_cons, List.length_cons, ih]
theorem RA.at_ {L : Addr} {H : Hp} {as : List Addr} {rs : List (List Int)} (x : RA L H as rs) : ∀ (i : Nat) (h : i < as.length) (h2 : i < rs.length), as[i] ≠ L ∧ H as[i] = some (.lst (iv rs[i])) := by
  induction x with
  | nil => exact fun i h => absurd h (Nat.not_lt_zero i)
  | cons n e _ ih =>
    intro i h h2
    cases i with
    | zero => exact ⟨n, e⟩
    | succ i => exact ih i (Nat.lt_of_succ_lt_succ h) (Nat.lt_of_succ_lt_succ h2)
theorem RA.of {L : Addr} {H : Hp} : ∀ {as : List Addr} {rs : List (List Int)}, as.length = rs.length → (∀ i (h : i < as.length) (h2 : i < rs.length), as[i] ≠ L ∧ H as[i] = some (.lst (iv rs[i]))) → RA L H as rs
  | [], [], _, _ => .nil
  | a :: as, r :: rs, hl, h => .cons (h 0 (Nat.zero_lt_succ _) (Nat.zero_lt_succ _)).1 (h 0 (Nat.zero_lt_succ _) (Nat.zero_lt_succ _)).2 (RA.of (Nat.succ.inj hl) fun i h1 h2 => h (i + 1) (Nat.succ_lt_succ h1) (Nat.succ_lt_succ h2))
  | [], r :: rs, hl, _ => nomatch hl
  | a :: as, [], hl, _ => nomatch hl
theorem units65 {k : Nat} {A : PySem.Around} (hr : Room k A) : A.units + 65 < PySem.cLine := by
  have := hr.un
  omega
theorem K_notInD {X : Cx} {K : PySem.W.Frag} (hu : X.A.units + 65 < PySem.cLine) (h : X.K = K) : OpR X (compareOp .NotIn) (rNotInD K) := by
  subst h
  exact op_notInD hu
theorem K_ptup {X : Cx} {K : PySem.W.Frag} {pos : PySem.Pos} {es : List PySem.Expr} {k : Nat} {t : TGs} {n : Nat} (hK : X.K = K) (hc : X.calm = true) (h : PGs X es t)
    (hn : (PySem.assignEach es X.env).length = n := by rfl) (hst : (PySem.assignEach es X.env).findIdx? (·.1) = none := by rfl) : PG X (.Tuple es k pos) (gTup K n t) := by
  subst hK
  exact pg_tup hc h hn hst
end Hn

/-! Ends -/
/-! the ends of stays; all rows are listed -/
namespace Hn
open PySem L2
/-- when those leave who begin at each hour, and who begins first on the next day -/
def endsOf (ns : List Int) : List Int := Clk.row (ns.length + 1) fun x => x + Clk.S ns x
theorem ends_up {ns : List Int} (v : Clk.Valid ns) (i : Int) : ∀ d : Nat, i + Clk.S ns i ≤ i + d + Clk.S ns (i + d)
  | 0 => by
    rw [show i + ((0 : Nat) : Int) = i by omega]
    exact Int.le_refl _
  | d + 1 => by
    have h := ends_up v i d
    have n := v.near (i + d)
    rw [show i + ((d + 1 : Nat) : Int) = i + d + 1 by omega]
    omega
theorem ends_pair {ns : List Int} (v : Clk.Valid ns) : (endsOf ns).Pairwise (· ≤ ·) := by
  unfold endsOf Clk.row
  rw [List.pairwise_map]
  refine List.pairwise_lt_range.imp fun {i j} h => ?_
  have z := ends_up v (i : Int) (j - i)
  rw [show (i : Int) + ((j - i : Nat) : Int) = j by omega] at z
  exact z
theorem valid_of_ends {ns : List Int} (pos : 0 < ns.length) (top : ns.length ≤ 48) (fit : ∀ x ∈ ns, 1 ≤ x ∧ x ≤ ns.length) (h : (endsOf ns).Pairwise (· ≤ ·)) : Clk.Valid ns := by
  refine Clk.Valid.of pos top (fun i h => fit _ (List.getElem_mem h)) fun i hi => ?_
  unfold endsOf Clk.row at h
  rw [List.pairwise_map, List.pairwise_iff_getElem] at h
  have z := h i (i + 1) (by rw [List.length_range]; omega) (by rw [List.length_range]; omega) (Nat.lt_succ_self i)
  rw [List.getElem_range, List.getElem_range] at z
  rw [show ((i + 1 : Nat) : Int) = (i : Int) + 1 by omega] at z
  have z' : (i : Int) + Clk.S ns i ≤ (i : Int) + 1 + Clk.S ns ((i : Int) + 1) := z
  omega
/-- the ends as the text makes them -/
theorem ends_text {ns : List Int} (pos : 0 < ns.length) : Clk.row ns.length (fun x => x + Clk.S ns x) ++ [(ns.length : Int) + Clk.S ns 0] = endsOf ns := by
  unfold endsOf
  have e : Clk.S ns (ns.length : Int) = Clk.S ns 0 := Clk.S_mod (by rw [Int.emod_self, Int.zero_emod])
  unfold Clk.row
  rw [List.range_succ, List.map_append, ← e]
  rfl
/-- sorted is the row itself just where it rises -/
theorem up_eq : ∀ {a b : List Int}, a.Pairwise (· ≤ ·) → b.Pairwise (· ≤ ·) → a.Perm b → a = b
  | [], b, _, _, p => (List.nil_perm.mp p).symm
  | x :: r, [], _, _, p => absurd p.length_eq (by simp)
  | x :: r, y :: t, ha, hb, p => by
    obtain ⟨h1, h2⟩ := List.pairwise_cons.mp ha
    obtain ⟨g1, g2⟩ := List.pairwise_cons.mp hb
    have e : x = y := by
      have m1 : x ∈ y :: t := p.mem_iff.mp List.mem_cons_self
      have m2 : y ∈ x :: r := p.mem_iff.mpr List.mem_cons_self
      rcases List.mem_cons.mp m1 with z | z
      · exact z
      · rcases List.mem_cons.mp m2 with w | w
        · exact w.symm
        · have := g1 x z
          have := h1 y w
          omega
    subst e
    rw [up_eq h2 g2 ((List.perm_cons x).mp p)]
theorem sorted_iff {a b : List Int} (p : b.Perm a) (hb : b.Pairwise (· ≤ ·)) : a = b ↔ a.Pairwise (· ≤ ·) := ⟨fun e => e ▸ hb, fun h => up_eq h hb p.symm⟩
/-- each row of so many stays is listed -/
theorem rowsOf_all (k : Nat) : ∀ (m : Nat) (r : List Int), r.length = m → (∀ x ∈ r, 1 ≤ x ∧ x ≤ k) → r ∈ rowsOf k m
  | 0, r, hl, _ => by
    rw [List.length_eq_zero_iff.mp hl]
    exact List.mem_singleton.mpr rfl
  | m + 1, r, hl, hf => by
    have ne : r ≠ [] := fun z => by rw [z] at hl; cases hl
    have e := List.dropLast_concat_getLast ne
    have hx := hf _ (List.getLast_mem ne)
    obtain ⟨s, hs⟩ := Int.eq_ofNat_of_zero_le (show 0 ≤ r.getLast ne - 1 by omega)
    refine List.mem_flatMap.mpr ⟨r.dropLast, rowsOf_all k m _ (by rw [List.length_dropLast, hl]; rfl) fun x h => hf x ((List.dropLast_sublist r).subset h), List.mem_map.mpr ⟨s, List.mem_range.mpr (by omega), ?_⟩⟩
    rw [show 1 + (s : Int) = r.getLast ne by omega]
    exact e
theorem wipe_two (σ : L2.St) (i j : Nat) (hij : i ≠ j) (x y : V) : wipe (((wipe σ [i, j]).set i (some x)).set j (some y)) [i, j] = wipe σ [i, j] := by
  show (((((σ.set j none).set i none).set i (some x)).set j (some y)).set j none).set i none = (σ.set j none).set i none
  rw [List.set_set, List.set_comm none none hij.symm, List.set_set, List.set_set, List.set_comm none none hij, List.set_set]
/-- a comprehension over enumerate: elements that change nothing -/
theorem lc_enumL {K : PySem.W.Frag} {a : Addr} {xs : List V} {te : TE} {p r : Nat} {σ : L2.St} {H1 : Hp} {D : Addr} {Qd : Hp → Prop} (f : Nat → V) (hpr : p ≠ r) (hS : SqL K H1 a xs) (nD : H1 D = none) (hz : xs.length ≤ 10000)
    (he : ∀ i (hi : i < xs.length) (H : Hp) (R : VK), Same H1 H → (∀ H4, Same H H4 → R (f i) H4) → te (((wipe σ [p, r]).set p (some (.int (i : Nat)))).set r (some xs[i])) H R)
    (hd : ∀ H, Same H1 H → H D = some (.lst ((List.range xs.length).map f)) → Qd H) : LcG (Ite K a) (gTup K 2 (gCons (gName p) (gCons (gName r) gNil))) tYes te [p, r] σ H1 D Qd := by
  refine ⟨fun i m H => m = xs.length - i ∧ i ≤ xs.length ∧ Same H1 H ∧ H D = some (.lst ((List.range i).map f)), ⟨_, rfl, Nat.zero_le _, same_new nD, upd_same⟩, ?_⟩
  rintro i m H ⟨rfl, hi, sm, hD⟩
  have q := sm.seq hS
  by_cases hlt : i < xs.length
  · refine .inr ⟨⟨xs, xs[i], q, List.getElem?_eq_getElem hlt⟩, fun H' => Same H1 H' ∧ H' D = some (.lst ((List.range (i + 1)).map f)), fun H' p' => ⟨xs.length - (i + 1), by omega, rfl, hlt, p'⟩, ?_⟩
    rintro x H' ⟨T, y, rfl, nT, rfl, hy⟩
    have e := hy xs q
    rw [List.getElem?_eq_getElem hlt] at e
    cases e
    have s2 := sm.trans (same_new (o := .tup [.int (i : Nat), xs[i]]) nT)
    refine ⟨T, _, rfl, .inl (.inl upd_same), rfl, _, _, rfl, _, _, rfl, rfl, wipe_two _ _ _ hpr _ _, ?_⟩
    refine he i hlt _ _ s2 fun H4 s4 => ?_
    obtain ⟨q1, q2, q3⟩ := same_turn (f := f) nD s2 (same_new nT _ _ hD) s4
    exact ⟨_, q1, by rw [List.length_map, List.length_range]; exact small_line (by omega), q2, q3⟩
  · obtain rfl : i = xs.length := by omega
    exact .inl ⟨⟨xs, q, Nat.le_refl _⟩, hd H sm hD⟩
/-- clocks of the rows vs at cs -/
inductive CA (K : PySem.W.Frag) (C : Addr) (H : Hp) : List Addr → List (List Int) → Prop
  | nil : CA K C H [] []
  | cons {c : Addr} {cs : List Addr} {v : List Int} {vs : List (List Int)} : ClkAt K C H c v → CA K C H cs vs → CA K C H (c :: cs) (v :: vs)
theorem CA.imp {K : PySem.W.Frag} {C : Addr} {H H' : Hp} {cs : List Addr} {vs : List (List Int)} (x : CA K C H cs vs) (h : ∀ c v, ClkAt K C H c v → ClkAt K C H' c v) : CA K C H' cs vs := by
  induction x with
  | nil => exact .nil
  | cons a _ ih => exact .cons (h _ _ a) ih
theorem CA.snoc {K : PySem.W.Frag} {C : Addr} {H : Hp} {cs : List Addr} {vs : List (List Int)} (x : CA K C H cs vs) {c : Addr} {v : List Int} (a : ClkAt K C H c v) : CA K C H (cs ++ [c]) (vs ++ [v]) := by
  induction x with
  | nil => exact .cons a .nil
  | cons b _ ih => exact .cons b ih
theorem CA.len {K : PySem.W.Frag} {C : Addr} {H : Hp} {cs : List Addr} {vs : List (List Int)} (x : CA K C H cs vs) : cs.length = vs.length := by
  induction x with
  | nil => rfl
  | cons _ _ ih => rw [List.length_cons, List.length_cons, ih]
theorem CA.at_ {K : PySem.W.Frag} {C : Addr} {H : Hp} {cs : List Addr} {vs : List (List Int)} (x : CA K C H cs vs) : ∀ (i : Nat) (h : i < cs.length) (h2 : i < vs.length), ClkAt K C H cs[i] vs[i] := by
  induction x with
  | nil => exact fun i h => absurd h (Nat.not_lt_zero i)
  | cons a _ ih =>
    intro i h h2
    cases i with
    | zero => exact a
    | succ i => exact ih i (Nat.lt_of_succ_lt_succ h) (Nat.lt_of_succ_lt_succ h2)
open Classical in
/-- the rows that are stays of a clock -/
noncomputable def valids (rs : List (List Int)) : List (List Int) := rs.filter fun r => decide (Clk.Valid r)
theorem valids_in {rs : List (List Int)} {j : Nat} (h : j < rs.length) (v : Clk.Valid rs[j]) : valids (rs.take (j + 1)) = valids (rs.take j) ++ [rs[j]] := by
  unfold valids
  rw [take_next h, List.filter_append, List.filter_cons_of_pos (by simpa using v)]
  rfl
theorem valids_out {rs : List (List Int)} {j : Nat} (h : j < rs.length) (v : ¬ Clk.Valid rs[j]) : valids (rs.take (j + 1)) = valids (rs.take j) := by
  unfold valids
  rw [take_next h, List.filter_append, List.filter_cons_of_neg (by simpa using v)]
  exact List.append_nil _
theorem valids_mem {rs : List (List Int)} {r : List Int} : r ∈ valids rs ↔ r ∈ rs ∧ Clk.Valid r := by
  unfold valids
  rw [List.mem_filter]
  simp
end Hn

/-! OpOwn -/
/-! operators by own methods: o + p of one class, o * n, n * o -/
namespace Hn
open PySem PySem.Spec L2
open PyProof.Rows hiding St
/-- o op p of two instances of the class at C, that hands back an object -/
def rBinOwn (C : Addr) (sp : Sp) (E : XK) : R2 := fun x y H Q => ∃ a b dx dy fs gs, x = .ref a ∧ y = .ref b ∧ H a = some (.ins C dx fs) ∧ H b = some (.ins C dy gs) ∧ sp [.ref a, .ref b] H (fun v H' => ∃ p : Addr, v = .ref p ∧ Q (.ref p) H') E
/-- o op n, n a whole number -/
def rBinInt (C : Addr) (sp : Sp) (E : XK) : R2 := fun x y H Q => ∃ a dx fs n, x = .ref a ∧ y = .int n ∧ H a = some (.ins C dx fs) ∧ sp [.ref a, .int n] H (fun v H' => ∃ p : Addr, v = .ref p ∧ Q (.ref p) H') E
def rIntBin (C : Addr) (sp : Sp) (E : XK) : R2 := fun x y H Q => ∃ a dx fs n, x = .int n ∧ y = .ref a ∧ H a = some (.ins C dx fs) ∧ sp [.ref a, .int n] H (fun v H' => ∃ p : Addr, v = .ref p ∧ Q (.ref p) H') E
section
variable {X : Cx} {CX : CXT} {k : Nat} {C f : Addr} {fd : FuncData} {ps : List Str} {sp : Sp} {E : XK} {op : Operator} {m : Str}
theorem op_binOwn (hm : Meth X.K C m f) (em : m = PySem.dunder op.info.2) (sf : PySem.W.selfFirst X.K C = true) (F : FnOk X.prog X.w X.K X.mg X.base CX k f fd ps sp) (hr : Room k X.A) (hb : Binds X.K fd ps []) (hx : Passes CX X E) :
    OpR X (binaryOp op) (rBinOwn C sp E) := by
  intro pins s σ H x y v u Q I rx ry q
  obtain ⟨a, b, dx, dy, fs, gs, rfl, rfl, ha, hb', q⟩ := q
  cases rx
  cases ry
  obtain ⟨mA, J, _⟩ := ins_get I.hok ha
  obtain ⟨mB, J', _⟩ := ins_get I.hok hb'
  obtain ⟨od, J, _⟩ := J.look
  obtain ⟨od', J', _⟩ := J'.look
  obtain ⟨m', hF⟩ := I.fr
  subst em
  refine PySem.W.binop_K hF I.ok.mod.kin J J'.type sf hm.at_ hm.fn ?_
  have r2 : Vals [V.ref a, V.ref b] [Value.ref a, Value.ref b] := .cons rfl (.cons rfl .nil)
  refine wpAny_mono (run_fn (dvs := []) F hr hb .nil hx I r2 q) (fun r s' z => ?_) fun _ _ e => e
  obtain ⟨v, H', I', rv, p, rfl, q'⟩ := z
  cases rv
  exact ⟨.ref p, H', I', rfl, q'⟩
theorem op_binInt {fo ro rc : Option Value} {mr : Str} (hm : Meth X.K C m f) (em : m = PySem.dunder op.info.2) (sf : PySem.W.selfFirst X.K C = true) (er : mr = dunderR op.info.2) (hR : PySem.W.findIn X.K (.ref C) mr = some rc) (hp : rc = none ∨ ∃ g : Addr, rc = some (.ref g))
    (h1 : PySem.W.findIn X.K (.type "int") m = some fo) (h2 : PySem.W.findIn X.K (.type "int") mr = some ro) (hsub : PySem.W.subIn X.K (.type "int") (.ref C) = some false)
    (F : FnOk X.prog X.w X.K X.mg X.base CX k f fd ps sp) (hr : Room k X.A) (hb : Binds X.K fd ps []) (hx : Passes CX X E) :
    OpR X (binaryOp op) (rBinInt C sp E) := by
  intro pins s σ H x y v u Q I rx ry q
  obtain ⟨a, dx, fs, n, rfl, rfl, ha, q⟩ := q
  cases rx
  obtain ⟨t, rfl⟩ := ry
  obtain ⟨mA, J, _⟩ := ins_get I.hok ha
  obtain ⟨od, J, _⟩ := J.look
  obtain ⟨m', hF⟩ := I.fr
  subst em er
  refine PySem.W.ksp_binT hF I.ok.mod.kin J rfl sf hm.at_ hm.fn hR hp h1 h2 hsub ?_
  have r2 : Vals [V.ref a, V.int n] [Value.ref a, Value.int n t] := .cons rfl (.cons ⟨_, rfl⟩ .nil)
  refine wpAny_mono (run_fn (dvs := []) F hr hb .nil hx I r2 q) (fun r s' z => ?_) fun _ _ e => e
  obtain ⟨v, H', I', rv, p, rfl, q'⟩ := z
  cases rv
  exact ⟨.ref p, H', I', rfl, q'⟩
end
theorem em_Add : Str.ofString "__add__" = PySem.dunder (Operator.info .Add).2 := by decide +kernel
theorem er_Add : Str.ofString "__radd__" = dunderR (Operator.info .Add).2 := by decide +kernel
theorem em_BitOr : Str.ofString "__or__" = PySem.dunder (Operator.info .BitOr).2 := by decide +kernel
theorem er_BitOr : Str.ofString "__ror__" = dunderR (Operator.info .BitOr).2 := by decide +kernel
theorem em_BitAnd : Str.ofString "__and__" = PySem.dunder (Operator.info .BitAnd).2 := by decide +kernel
theorem er_BitAnd : Str.ofString "__rand__" = dunderR (Operator.info .BitAnd).2 := by decide +kernel
theorem em_Mult : Str.ofString "__mul__" = PySem.dunder (Operator.info .Mult).2 := by decide +kernel
theorem er_Mult : Str.ofString "__rmul__" = dunderR (Operator.info .Mult).2 := by decide +kernel
theorem em_LShift : Str.ofString "__lshift__" = PySem.dunder (Operator.info .LShift).2 := by decide +kernel
theorem er_LShift : Str.ofString "__rlshift__" = dunderR (Operator.info .LShift).2 := by decide +kernel
theorem em_RShift : Str.ofString "__rshift__" = PySem.dunder (Operator.info .RShift).2 := by decide +kernel
theorem er_RShift : Str.ofString "__rrshift__" = dunderR (Operator.info .RShift).2 := by decide +kernel
theorem int_mul_own (a : Int) (t : Tok) (l C dx : Addr) :
    Meets (Builtin.«int.__mul__» ⟨[.int a t, .ref l], []⟩) (fun _ R s => s.heap.get? l = some (PySem.W.instObj C dx) ∧ R (.ok (.ret Value.notImplemented)) s) :=
  .of_wp fun prog w A R s h => by
    obtain ⟨hp, g, d, tk, os⟩ := s
    obtain ⟨hl, h⟩ := h
    unfold PySem.W.instObj at hl
    wp_walk
    exact ⟨_, rfl, h⟩
theorem decl_call {prog : Program} {w : World} {A : Around} {E : Value → Shared → Prop} {s : Shared} {x C dx : Addr} {n : Int} {t : Tok} {Q : Option Value → Shared → Prop} (hx : s.heap.get? x = some (PySem.W.instObj C dx)) (q : Q none s) : wpAny (model prog w) A (call (.builtin "int.__mul__") [.int n t, .ref x]) (fun v s' => v = .notImplemented ∧ Q none s') E s := by
  exact call_meets PySem.F.slot_int_mul (typeIs_int s n t) PySem.F.entry_int_mul (PySem.F.args_int_mul_2 _ _) (int_mul_own n t x C dx) ⟨hx, rfl, q⟩
theorem decl_mul {prog : Program} {w : World} {A : Around} {E : Value → Shared → Prop} {s : Shared} {x C dx : Addr} {n : Int} {t : Tok} {Q : Option Value → Shared → Prop}  (hx : s.heap.get? x = some (PySem.W.instObj C dx)) (q : Q none s) : wpAny (model prog w) A (tryMethod (.int n t) (PySem.dunder "mul") (.ref x)) Q E s :=
  wpAny_tryMethod_declines (T := "int") (name := PySem.dunder "mul") (id := "int.__mul__") (typeIs_int s n t) PySem.F.slot_int_mul (decl_call (Q := Q) hx q)
section
open PySem.W in
theorem rmul_K {prog : Program} {w : World} {A : Around} {E : Value → Shared → Prop} {s : Shared} {K : Frag} {x C L f f0 : Addr} {h₀ : Heap} {m : Str → Option Value} {dx : Addr} {od : Option Obj} {n : Int} {t : Tok} {Q : Value → Shared → Prop}
    (F : Fr h₀ L s.heap m) (X₀ : K.In h₀) (I : InstAt s.heap x (instObj C dx) C od) (hc : selfFirst K C = true) (hs : findIn K (.ref C) (PySem.dunder "mul") = some (some (.ref f0)))
    (hR : findIn K (.ref C) (dunderR "mul") = some (some (.ref f))) (hf : isFn K (.ref f) = true) (hsub : subIn K (.ref C) (.type "int") = some false)
    (h : wpAny (model prog w) A (call (.ref f) [.ref x, .int n t]) (PySem.W.CmpBack Q) E s) : wpAny (model prog w) A (binaryOp .Mult (.int n t) (.ref x)) Q E s := by
  have X := X₀.keeps F.keep
  obtain ⟨cd, rest, hcd, hm⟩ := ksp_first hc
  have one := ksp_try X I hR hf h
  have hx := I.at_
  have L1 : Looks (model prog w) s.heap (typeOf (.ref x)) (.ref C) := I.type
  have L3 : Looks (model prog w) s.heap (fillsNumberSlot (.ref C) "mul") true := fills_K X hcd hm hs
  have L5 : Looks (model prog w) s.heap (isSubtype (.ref C) (.type "int")) false := looks_subIn X hsub
  have hne : (Value.type "int" == Value.ref C) = false := Bool.eq_false_iff.mpr fun q => by cases beq_iff_eq.mp q
  unfold binaryOp
  refine wpAny_holding (wpAny_bind ?_)
  show wpAny (model prog w) A (binaryOp1 "mul" (.int n t) (.ref x)) _ E s
  unfold binaryOp1
  refine wpAny_bind (wpAny_typeOf (typeIs_int s n t) (wpAny_bind (L1.here (wpAny_bind (wpAny_of_eq PySem.F.fills_int_mul ?_)))))
  simp only [hne, Bool.false_eq_true, if_false]
  refine wpAny_bind (L3.here ?_)
  simp only [Bool.and_self, if_true]
  refine wpAny_bind (L5.here ?_)
  have hpy : numberSlotInPython (.type "int") "mul" = pure false := rfl
  simp only [Bool.false_eq_true, if_false, pure_bind, Bool.not_false, Bool.and_self, if_true, hpy]
  refine wpAny_bind (decl_mul hx ?_)
  refine wpAny_bind (wpAny_mono one (fun r s' hr => ?_) fun _ _ e => e)
  obtain ⟨v, rfl, hq⟩ := hr
  exact wpAny_bind (wpAny_rule (wpAny_pure (wpAny_pure hq)))
end
section
variable {X : Cx} {CX : CXT} {k : Nat} {C f f0 : Addr} {fd : FuncData} {ps : List Str} {sp : Sp} {E : XK}
theorem op_intMul (hm : Meth X.K C "__rmul__" f) (h0 : Meth X.K C "__mul__" f0) (sf : PySem.W.selfFirst X.K C = true) (hsub : PySem.W.subIn X.K (.ref C) (.type "int") = some false)
    (F : FnOk X.prog X.w X.K X.mg X.base CX k f fd ps sp) (hr : Room k X.A) (hb : Binds X.K fd ps []) (hx : Passes CX X E) :
    OpR X (binaryOp .Mult) (rIntBin C sp E) := by
  intro pins s σ H x y v u Q I rx ry q
  obtain ⟨a, dx, fs, n, rfl, rfl, ha, q⟩ := q
  cases ry
  obtain ⟨t, rfl⟩ := rx
  obtain ⟨mA, J, _⟩ := ins_get I.hok ha
  obtain ⟨od, J, _⟩ := J.look
  obtain ⟨m', hF⟩ := I.fr
  refine rmul_K hF I.ok.mod.kin J sf h0.at_ hm.at_ hm.fn hsub ?_
  have r2 : Vals [V.ref a, V.int n] [Value.ref a, Value.int n t] := .cons rfl (.cons ⟨_, rfl⟩ .nil)
  refine wpAny_mono (run_fn (dvs := []) F hr hb .nil hx I r2 q) (fun r s' z => ?_) fun _ _ e => e
  obtain ⟨v, H', I', rv, p, rfl, q'⟩ := z
  cases rv
  exact ⟨.ref p, H', I', rfl, q'⟩
end
end Hn

/-! RevT -/
/-! t[::-1] of a tuple -/
namespace Hn
open PySem PySem.Spec L2
open PyProof.Rows hiding St
section
variable {prog : Program} {w : World} {A : Around} {E : Value → Shared → Prop} {s : Shared}
theorem sliceApplied_back {sl : Addr} {vl vu vs : Value} {n : Nat} {Q : Int × Int × Nat → Shared → Prop} (hs : s.heap.IsSliceOf sl vl vu vs) (pl : IsPart vl none) (pu : IsPart vu none) (ps : IsPart vs (some (-1)))
    (h : Q ((n : Int) - 1, -1, n) s) : wpAny (model prog w) A (Builtin.Slice.sliceApplied (.ref sl) (pure (n : Int))) Q E s := by
  obtain ⟨os, hos, hcs, hds⟩ := id hs
  unfold Builtin.Slice.sliceApplied Builtin.Slice.sliceFields
  refine wpAny_bind (wpAny_bind (wpAny_field hos hds (x := vl) rfl (wpAny_bind (wpAny_field hos hds (x := vu) rfl (wpAny_bind (wpAny_field hos hds (x := vs) rfl (wpAny_pure ?_)))))))
  refine wpAny_bind (HT.slicePart_ ps ?_)
  show wpAny _ _ (if ((-1 : Int) == 0) = true then _ else _) _ _ s
  rw [if_neg (by decide)]
  refine wpAny_bind (HT.slicePart_ pl (wpAny_bind (HT.slicePart_ pu (wpAny_bind (wpAny_pure ?_)))))
  show wpAny _ _ (pure ((n : Int) - 1, (-1 : Int), Builtin.Slice.slicePlaces ((n : Int) - 1) (-1) (-1))) _ _ s
  have e : Builtin.Slice.slicePlaces ((n : Int) - 1) (-1) (-1) = n := by
    unfold Builtin.Slice.slicePlaces
    have h1 : ¬ ((-1 : Int) > 0) := by decide
    simp only [h1, if_false]
    by_cases h : (n : Int) - 1 > -1
    · simp only [h, if_true]
      have : ((n : Int) - 1 - -1 - 1) / (- -1) = (n : Int) - 1 := by
        rw [show (- -1 : Int) = 1 by decide, Int.ediv_one]
        omega
      rw [this]
      omega
    · simp only [h, if_false]
      omega
  rw [e]
  exact wpAny_pure h
theorem pick_back (xs : Array Value) : ((List.range xs.size).filterMap fun (m : Nat) => xs[(((xs.size : Nat) : Int) - 1 + (m : Int) * -1).toNat]?).toArray = xs.toList.reverse.toArray := by
  have e : (List.range xs.size).filterMap (fun (m : Nat) => xs[(((xs.size : Nat) : Int) - 1 + (m : Int) * -1).toNat]?) = ((List.range xs.size).map fun k => xs.size - 1 - k).filterMap (xs[·]?) := by
    rw [List.filterMap_map]
    have key : ∀ l : List Nat, (∀ m ∈ l, m < xs.size) → l.filterMap (fun (m : Nat) => xs[(((xs.size : Nat) : Int) - 1 + (m : Int) * -1).toNat]?) = l.filterMap ((fun x => xs[x]?) ∘ fun k => xs.size - 1 - k) := by
      intro l
      induction l with
      | nil => intro _; rfl
      | cons a r ih =>
        intro h
        have ha := h a (List.mem_cons_self ..)
        have e1 : (((xs.size : Nat) : Int) - 1 + (a : Int) * -1).toNat = xs.size - 1 - a := by omega
        rw [List.filterMap_cons, List.filterMap_cons, e1, ih fun m hm => h m (List.mem_cons_of_mem _ hm)]
        rfl
    exact key _ fun m hm => List.mem_range.mp hm
  rw [e, PySem.W.krv_range, List.filterMap_reverse, PySem.W.krv_all]
theorem getItem_tuple_back {t sl : Addr} {items : Array Value} {vl vu vs : Value} {Q : Value → Shared → Prop} (ht : IsTup s.heap t items) (hs : s.heap.IsSliceOf sl vl vu vs) (pl : IsPart vl none) (pu : IsPart vu none) (ps : IsPart vs (some (-1)))
    (h : Q (.ref s.heap.objs.size) { s with heap := s.heap.push { cls := .type "tuple", data := .seq items.toList.reverse.toArray } })
    (hsz : items.size ≤ sizeLine) : wpAny (model prog w) A (getItem (.ref t) (.ref sl)) Q E s := by
  have htake : sizeOk (.seq items.toList.reverse.toArray) := by
    show items.toList.reverse.toArray.size ≤ sizeLine
    rw [List.size_toArray, List.length_reverse, Array.length_toList]
    omega
  obtain ⟨os, hos, hcs, hds⟩ := id hs
  have hTs : s.TypeIs (.ref sl) "slice" := ⟨os, hos, hcs⟩
  unfold getItem
  try with_reducible refine wpAny_holding ?_
  first | refine wpAny_bind (wpAny_pure ?_) | skip
  refine wpAny_bind (wpAny_sequenceKey ht.typeIs (by decide) ?_)
  refine wpAny_bind (wpAny_callSpecial?_slot (name := Str.ofString "__getitem__") ht.typeIs PyProof.Rows.slot_tuple_getitem
    (wpAny_call_entry PyProof.Rows.slot_tuple_getitem ht.typeIs entry_tuple_getitem ?_ (args_tuple_getitem _ _)))
  show wpAny _ _ (Builtin.Tuple.tupleItemsOf (.ref t) >>= _) _ _ s
  refine wpAny_bind (tupleItemsOf_ ht ?_)
  refine wpAny_bind (wpAny_typeOf hTs ?_)
  rw [if_pos (by decide)]
  refine wpAny_bind (sliceApplied_back hs pl pu ps ?_)
  have hno : ¬ ((((items.size : Nat) : Int) - 1 == 0 && (-1 : Int) == 1 && items.size == items.size) = true) := by
    simp
  show wpAny _ _ (if (((items.size : Nat) : Int) - 1 == 0 && (-1 : Int) == 1 && items.size == items.size) = true then _ else _) _ _ s
  rw [if_neg hno, pick_back]
  first
    | exact wpAny_bind (m := Builtin.Tuple.tupleExact _) (wpAny_newObj_type (wpAny_pure ⟨_, rfl, wpAny_pure h⟩) htake)
    | exact wpAny_bind (m := Builtin.Tuple.tupleExact _) (wpAny_newObj_type (wpAny_bind (wpAny_pure (wpAny_pure ⟨_, rfl, wpAny_pure h⟩))) htake)
    | exact wpAny_bind (wpAny_bind (m := Builtin.Tuple.tupleExact _) (wpAny_newObj_type (wpAny_pure (wpAny_pure ⟨_, rfl, wpAny_pure h⟩)) htake))
    | exact wpAny_bind (wpAny_bind (m := Builtin.Tuple.tupleExact _) (wpAny_newObj_type (wpAny_pure ⟨_, rfl, wpAny_pure h⟩) htake))
end
def tRevT (K : PySem.W.Frag) (te : TE) : TE := fun σ H Q => te σ H fun x H1 => ∃ a xs, x = .ref a ∧ SqT K H1 a xs ∧ ∀ p, H1 p = none → Q (.ref p) (upd H1 p (.tup xs.reverse))
theorem K_revT {X : Cx} {K : PySem.W.Frag} {e : Expr} {te : TE} {k : Nat} {p1 p2 p3 pos : Pos} (hK : X.K = K) (he : PE X e te) : PE X (.Subscript e (.Slice none none (some (.UnaryOp .USub (.Constant (.int 1) k p1) p2)) p3) pos) (tRevT K te) := by
  subst hK
  refine ⟨fun pins s σ H Q I h => ?_⟩
  refine Subscript_ (thn (he.run pins s σ H _ I h) fun v s1 ⟨x, H1, I1, r1, q1⟩ => ?_)
  obtain ⟨a, xs, ex, hx, q⟩ := q1
  subst ex
  cases r1
  have hst : PO X (some (.UnaryOp .USub (.Constant (.int 1) k p1) p2)) (tPart (tUn (rU fun i => .int (-i)) (tC (.int 1)))) := po_some (pe_un un_neg pe_int)
  refine wpAny_Slice (thn (po_none.run pins s1 σ H1 (fun o H2 => o = none ∧ H2 = H1) I1 ⟨rfl, rfl⟩) fun vl s2 ⟨l, H2, I2, pl, el, e2⟩ => ?_)
  subst el e2
  refine thn (po_none.run pins s2 σ H2 (fun o H3 => o = none ∧ H3 = H2) I2 ⟨rfl, rfl⟩) fun vu s3 ⟨u, H3, I3, pu, eu, e3⟩ => ?_
  subst eu e3
  refine thn (hst.run pins s3 σ H3 (fun o H4 => o = some (-1) ∧ H4 = H3) I3 ⟨1, rfl, -1, rfl, rfl, rfl⟩) fun vs s4 ⟨o, H4, I4, ps, eo, e4⟩ => ?_
  subst eo e4
  have I5 : Inv X pins σ H4 { s4 with heap := s4.heap.push { cls := .type "slice", data := .fields #[vl, vu, vs] } } := I4.kept (t' := s4.toks) fun b ob q => Heap.get?_push_of_some _ q
  obtain ⟨its, r, ht, hz⟩ := I5.tuple hx
  have hlen := r.length
  show wpAny (model X.prog X.w) X.A (subscriptTail e (.Slice none none (some (.UnaryOp .USub (.Constant (.int 1) k p1) p2)) p3) (.ref a) (.ref s4.heap.objs.size)) (EP X pins σ Q) X.xe { s4 with heap := s4.heap.push { cls := .type "slice", data := .fields #[vl, vu, vs] } }
  refine tail_any (ops := [.ref a, .ref s4.heap.objs.size]) ht.typeIs (PyProof.Rows.slot_tuple_getitem.lookup) ?_ (by with_unfolding_all rfl)
  refine getItem_tuple_back ht (Heap.IsSliceOf.new _ vl vu vs) pl pu ps ?_ (by rw [List.size_toArray]; omega)
  refine ⟨.ref _, _, I5.laid (t' := s4.toks) (o := .tup xs.reverse) (fun b ob q => Heap.get?_push_of_some _ q) (Nat.le_refl _) ?_, rfl, q _ (I5.hok.fresh (Nat.le_refl _))⟩
  exact ⟨by rw [List.length_reverse]; exact hz, _, r.reverse, IsTup.new _ _⟩
end Hn

/-! RowO -/
/-! objects that hold a row of numbers: needs, plans; zip of tuples, sum of a tuple -/
namespace Hn
open PySem PySem.Spec L2
open PyProof.Rows hiding St
/-- sum of a tuple of ints -/
def rSumT (K : PySem.W.Frag) : List V → Hp → VK → Prop := fun vs H Q => ∃ (a : Addr) (ns : List Int), vs = [V.ref a] ∧ SqT K H a (iv ns) ∧ Q (.int ns.sum) H
theorem K_sumT {X : Cx} {K : PySem.W.Frag} (hc : X.calm = true) (h : X.K = K) : CallR X (.builtin "sum") (rSumT K) := by
  subst h
  intro pins s σ H vs us Q I r h
  obtain ⟨a, ns, rfl, hs, q⟩ := h
  obtain ⟨its, rv, hl, _⟩ := I.tuple hs
  rw [Vals.ref1 r]
  have hi := rv.ints
  obtain ⟨xs, hx⟩ := hi.allInts.items
  have hn : numsOf its.toArray.toList = ns := by rw [show its.toArray.toList = its from rfl, hi.numsOf]
  have ht : s.heap.IsTuple a its.toArray := hl
  rw [hx] at ht hn
  rw [nums_intItems] at hn
  refine PySem.W.ktm_sumG (I.ok.hd hc) ht fun h' tk t' hk => ⟨.int _, H, I.kept hk, ⟨_, rfl⟩, ?_⟩
  rw [preSum_eq, List.take_of_length_le (by simp), hn]
  exact q
theorem K_zipA {X : Cx} {K : PySem.W.Frag} {e e2 : Expr} {ta : TA} {p pos tpos : Pos} {elts : List Expr} {kk : Nat} (h : X.K = K) (hg : Gl X "zip") (hm : X.mg "zip" = none) (ha : PA X [e, e2] ta)
    (hs : starEach [e, e2] X.env = (false, eval e X.env) :: starEach [e2] X.env := by rfl) (hpl : (backTo pos (starEach [e2] X.env)).any (·.1) = false := by rfl) :
    PI X (.Tuple elts kk tpos) (.Call (.Name "zip" p) [e, e2] [] pos) (RZ.iZipA K ta) := by
  subst h
  exact RZ.pi_zipA hg hm ha hs hpl
/-- a comprehension over zip of two tuples: elements that change nothing -/
theorem lc_zipT {K : PySem.W.Frag} {a b : Addr} {xs ys : List V} {te : TE} {p r : Nat} {σ : L2.St} {H1 : Hp} {D : Addr} {Qd : Hp → Prop} (f : Nat → V) (hpr : p ≠ r) (hl : xs.length = ys.length) (hS : SqT K H1 a xs) (hS2 : SqT K H1 b ys) (nD : H1 D = none) (hz : xs.length ≤ 10000)
    (he : ∀ i (hi : i < xs.length) (hi2 : i < ys.length) (H : Hp) (R : VK), Same H1 H → (∀ H4, Same H H4 → R (f i) H4) → te (((wipe σ [p, r]).set p (some xs[i])).set r (some ys[i])) H R)
    (hd : ∀ H, Same H1 H → H D = some (.lst ((List.range xs.length).map f)) → Qd H) : LcG (RZ.ItzT K a b) (gTup K 2 (gCons (gName p) (gCons (gName r) gNil))) tYes te [p, r] σ H1 D Qd := by
  refine ⟨fun i m H => m = xs.length - i ∧ i ≤ xs.length ∧ Same H1 H ∧ H D = some (.lst ((List.range i).map f)), ⟨_, rfl, Nat.zero_le _, same_new nD, upd_same⟩, ?_⟩
  rintro i m H ⟨rfl, hi, sm, hD⟩
  have q := Same.set sm hS
  have q2 := Same.set sm hS2
  by_cases hlt : i < xs.length
  · have hlt2 : i < ys.length := by omega
    refine .inr ⟨⟨xs, ys, xs[i], ys[i], q, q2, List.getElem?_eq_getElem hlt, List.getElem?_eq_getElem hlt2⟩, fun H' => Same H1 H' ∧ H' D = some (.lst ((List.range (i + 1)).map f)), fun H' p' => ⟨xs.length - (i + 1), by omega, rfl, hlt, p'⟩, ?_⟩
    rintro x H' ⟨T, x1, y1, rfl, nT, rfl, hx, hy⟩
    have e := hx xs q
    rw [List.getElem?_eq_getElem hlt] at e
    cases e
    have e := hy ys q2
    rw [List.getElem?_eq_getElem hlt2] at e
    cases e
    have s2 := sm.trans (same_new (o := .tup [xs[i], ys[i]]) nT)
    refine ⟨T, _, rfl, .inl (.inl upd_same), rfl, _, _, rfl, _, _, rfl, rfl, wipe_two _ _ _ hpr _ _, ?_⟩
    refine he i hlt hlt2 _ _ s2 fun H4 s4 => ?_
    obtain ⟨q1, q2, q3⟩ := same_turn (f := f) nD s2 (same_new nT _ _ hD) s4
    exact ⟨_, q1, by rw [List.length_map, List.length_range]; exact small_line (by omega), q2, q3⟩
  · obtain rfl : i = xs.length := by omega
    exact .inl ⟨⟨xs, ys, q, q2, .inl (Nat.le_refl _)⟩, hd H sm hD⟩
/-- THE ROW ns of an object at p, in its field f -/
structure RowAt (K : PySem.W.Frag) (C : Addr) (f : Str) (H : Hp) (p : Addr) (ns : List Int) : Prop where
  pos : 0 < ns.length
  top : ns.length ≤ 48
  low : ∀ x ∈ ns, 0 ≤ x
  ex : ∃ dx t : Addr, H p = some (.ins C dx [(f, .ref t)]) ∧ SqT K H t (iv ns)
section
variable {K : PySem.W.Frag} {C b : Addr} {f : Str} {H H' : Hp} {p : Addr} {ns : List Int}
theorem RowAt.same (x : RowAt K C f H p ns) (e : Same H H') : RowAt K C f H' p ns := by
  obtain ⟨dx, t, h1, h2⟩ := x.ex
  exact ⟨x.pos, x.top, x.low, dx, t, e _ _ h1, Same.set e h2⟩
theorem RowAt.but (x : RowAt K C f H p ns) (g : ∃ xs, H b = some (.lst xs)) (e : But b H H') : RowAt K C f H' p ns := by
  obtain ⟨dx, t, h1, h2⟩ := x.ex
  obtain ⟨xs, hb⟩ := g
  refine ⟨x.pos, x.top, x.low, dx, t, e _ _ (ne_of h1 hb fun z => nomatch z) h1, ?_⟩
  rcases h2 with (h | ⟨o, h⟩) | h
  · exact .inl (.inl (e _ _ (ne_of h hb fun z => nomatch z) h))
  · exact .inl (.inr ⟨o, e _ _ (ne_of h hb fun z => nomatch z) h⟩)
  · exact .inr h
theorem RowAt.drew (x : RowAt K C f H p ns) (g : Bag H b) (e : Drew b H H') : RowAt K C f H' p ns := x.but g.lst e.but
end
/-- making such an object of a row -/
def spRowInit (K : PySem.W.Frag) (C : Addr) (f : Str) : Sp := fun vs H Q _ => ∃ (p dx a : Addr) (ns : List Int), vs = [.ref p, .ref a] ∧ H p = some (.ins C dx []) ∧ Ints K H a ns ∧ 0 < ns.length ∧ ns.length ≤ 48 ∧ (∀ x ∈ ns, 0 ≤ x) ∧
  ∀ H' : Hp, (∀ b o, b ≠ p → H b = some o → H' b = some o) → RowAt K C f H' p ns → Q .non H'
def spRowLen (K : PySem.W.Frag) (C : Addr) (f : Str) : Sp := fun vs H Q _ => ∃ (p : Addr) (ns : List Int), vs = [.ref p] ∧ RowAt K C f H p ns ∧ Q (.int ns.length) H
def spRowSum (K : PySem.W.Frag) (C : Addr) (f : Str) : Sp := fun vs H Q _ => ∃ (p : Addr) (ns : List Int), vs = [.ref p] ∧ RowAt K C f H p ns ∧ Q (.int ns.sum) H
def spRowIter (K : PySem.W.Frag) (C : Addr) (f : Str) : Sp := fun vs H Q _ => ∃ (p dx t : Addr) (xs : List V), vs = [.ref p] ∧ H p = some (.ins C dx [(f, .ref t)]) ∧ SqT K H t xs ∧ ∀ it, H it = none → Q (.ref it) (upd H it (TiO t it 0))
def spRowGet (K : PySem.W.Frag) (C : Addr) (f : Str) : Sp := fun vs H Q _ => ∃ (p : Addr) (ns : List Int) (i : Int), vs = [.ref p, .int i] ∧ RowAt K C f H p ns ∧ 0 ≤ i ∧ i < ns.length ∧ Q (.int (Clk.S ns i)) H
def spRowEq (K : PySem.W.Frag) (C : Addr) (f : Str) : Sp := fun vs H Q _ => ∃ (p r : Addr) (ns ms : List Int), vs = [.ref p, .ref r] ∧ RowAt K C f H p ns ∧ RowAt K C f H r ms ∧ Q (.bl (decide (ns = ms))) H
def mxI (x y : Int) : Int := if y > x then y else x
def mnI (x y : Int) : Int := if y < x then y else x
theorem mxI_eq (x y : Int) : mxI x y = max x y := by unfold mxI; split <;> omega
theorem mnI_eq (x y : Int) : mnI x y = min x y := by unfold mnI; split <;> omega
/-- two rows of one length, to a third one -/
def spRowBin (K : PySem.W.Frag) (C : Addr) (f : Str) (op : Int → Int → Int) : Sp := fun vs H Q _ => ∃ (p q : Addr) (ns ms : List Int), vs = [.ref p, .ref q] ∧ RowAt K C f H p ns ∧ RowAt K C f H q ms ∧ ns.length = ms.length ∧
  ∀ r H', H r = none → Same H H' → RowAt K C f H' r (List.zipWith op ns ms) → Q (.ref r) H'
def spRowTurn (K : PySem.W.Frag) (C : Addr) (f : Str) (sg : Int → Int) : Sp := fun vs H Q _ => ∃ (p : Addr) (ns : List Int) (k : Int), vs = [.ref p, .int k] ∧ RowAt K C f H p ns ∧
  ∀ r H', H r = none → Same H H' → RowAt K C f H' r (Clk.trn ns (sg k)) → Q (.ref r) H'
theorem zipW_range (op : Int → Int → Int) {ns ms : List Int} (h : ns.length = ms.length) : (List.range (iv ns).length).map (fun i => V.int (op (ns.getD i 0) (ms.getD i 0))) = iv (List.zipWith op ns ms) := by
  apply List.ext_getElem
  · rw [List.length_map, List.length_range, iv_len, iv_len, List.length_zipWith]
    omega
  · intro i h1 h2
    rw [List.length_map, List.length_range, iv_len] at h1
    rw [List.getElem_map, List.getElem_range, List.getElem_map, List.getElem_zipWith, List.getD_eq_getElem?_getD, List.getElem?_eq_getElem h1, List.getD_eq_getElem?_getD, List.getElem?_eq_getElem (by omega)]
    rfl
theorem zip_low {op : Int → Int → Int} (ho : ∀ x y, 0 ≤ x → 0 ≤ y → 0 ≤ op x y) {ns ms : List Int} (h1 : ∀ x ∈ ns, 0 ≤ x) (h2 : ∀ x ∈ ms, 0 ≤ x) : ∀ x ∈ List.zipWith op ns ms, 0 ≤ x := fun x hx => by
  obtain ⟨i, hi, rfl⟩ := List.getElem_of_mem hx
  rw [List.getElem_zipWith]
  exact ho _ _ (h1 _ (List.getElem_mem _)) (h2 _ (List.getElem_mem _))
theorem zip_len {op : Int → Int → Int} {ns ms : List Int} (h : ns.length = ms.length) : (List.zipWith op ns ms).length = ns.length := by
  rw [List.length_zipWith]
  omega
theorem trn_mem {ns : List Int} {k x : Int} (p : 0 < ns.length) (h : x ∈ Clk.trn ns k) : x ∈ ns := by
  obtain ⟨i, hi, rfl⟩ := Clk.mem_row.mp h
  obtain ⟨h, e⟩ := Clk.S_at p ((i : Int) + k)
  rw [e]
  exact List.getElem_mem _
/-- whether no number of the one is greater than that of the other -/
def withinB (ns ms : List Int) : Bool := (List.zipWith (fun x y => decide (x ≤ y)) ns ms).all id
theorem zipB_range {ns ms : List Int} (h : ns.length = ms.length) : (List.range (iv ns).length).map (fun i => V.bl (decide (ns.getD i 0 ≤ ms.getD i 0))) = bv (List.zipWith (fun x y => decide (x ≤ y)) ns ms) := by
  apply List.ext_getElem
  · rw [List.length_map, List.length_range, iv_len, bv, List.length_map, List.length_zipWith]
    omega
  · intro i h1 h2
    rw [List.length_map, List.length_range, iv_len] at h1
    rw [List.getElem_map, List.getElem_range, List.getElem_map, List.getElem_zipWith, List.getD_eq_getElem?_getD, List.getElem?_eq_getElem h1, List.getD_eq_getElem?_getD, List.getElem?_eq_getElem (by omega)]
    rfl
theorem withinB_iff {ns ms : List Int} (h : ns.length = ms.length) : withinB ns ms = true ↔ ∀ i (h1 : i < ns.length) (h2 : i < ms.length), ns[i] ≤ ms[i] := by
  unfold withinB
  rw [List.all_eq_true]
  constructor
  · intro z i h1 h2
    have := z (decide (ns[i] ≤ ms[i])) (by
      have e : (List.zipWith (fun x y => decide (x ≤ y)) ns ms)[i]'(by rw [List.length_zipWith]; omega) = decide (ns[i] ≤ ms[i]) := List.getElem_zipWith ..
      rw [← e]
      exact List.getElem_mem _)
    exact of_decide_eq_true this
  · intro z b hb
    obtain ⟨i, hi, rfl⟩ := List.getElem_of_mem hb
    rw [List.length_zipWith] at hi
    rw [List.getElem_zipWith]
    exact decide_eq_true (z i (by omega) (by omega))
def spRowWithin (K : PySem.W.Frag) (C : Addr) (f : Str) : Sp := fun vs H Q _ => ∃ (p q : Addr) (ns ms : List Int), vs = [.ref p, .ref q] ∧ RowAt K C f H p ns ∧ RowAt K C f H q ms ∧ ns.length = ms.length ∧ ∀ H', Same H H' → Q (.bl (withinB ns ms)) H'
def spRowMul (K : PySem.W.Frag) (C : Addr) (f : Str) : Sp := fun vs H Q _ => ∃ (p : Addr) (ns : List Int) (k : Int), vs = [.ref p, .int k] ∧ RowAt K C f H p ns ∧ 0 ≤ k ∧ k < 2 ^ 900 ∧ (∀ x ∈ ns, x < 2 ^ 900) ∧ ∀ r H', H r = none → Same H H' → RowAt K C f H' r (ns.map (· * k)) → Q (.ref r) H'
def spRowMir (K : PySem.W.Frag) (C : Addr) (f : Str) : Sp := fun vs H Q _ => ∃ (p : Addr) (ns : List Int), vs = [.ref p] ∧ RowAt K C f H p ns ∧ ∀ r H', H r = none → Same H H' → RowAt K C f H' r ns.reverse → Q (.ref r) H'
theorem iv_at {ns : List Int} {i : Nat} (h : i < (iv ns).length) : (iv ns)[i] = V.int (ns.getD i 0) := getD_iv h
end Hn

/-! EvR -/
/-! rows of objects, evaluated: what an expression of such objects comes to, by the hour -/
namespace Hn
open PySem PySem.Spec L2 Evl
/-- an if that returns, not taken -/
theorem q_skip {σ : L2.St} {H : Hp} {t : TT} {D : Ends} {tu tz : TS} (h : EvT t σ H false) (k : ∀ H1, Ex H H1 → tz D σ H1) : tSeq (tIfS t tu tNext) tz D σ H :=
  s_if (D := { D with nx := tz D }) h (fun z => nomatch z) fun _ H1 e => k H1 e
theorem et_f {te : TE} {σ : L2.St} {H : Hp} {b : Bool} (h : Ev te σ H (.bl b)) (e : b = false) : EvT (tTest te) σ H false := by subst e; exact et_test h
theorem et_or2 {σ : L2.St} {H : Hp} {t u : TT} (h1 : EvT t σ H false) (h2 : EvT u σ H false) : EvT (tOr t u) σ H false := et_or (a := false) (b := false) h1 fun _ => h2
/-- an object that holds the row of g comes out -/
def EvR (K : PySem.W.Frag) (C : Addr) (f : Str) (n : Nat) (te : TE) (σ : L2.St) (H : Hp) (g : Int → Int) : Prop :=
  ∀ H1, Ex H H1 → ∀ Q : VK, (∀ p H2, Ex H1 H2 → RowAt K C f H2 p (Clk.row n g) → Q (.ref p) H2) → te σ H1 Q
section
variable {K : PySem.W.Frag} {C : Addr} {f : Str} {n : Nat} {σ : L2.St} {H H' : Hp} {ta tb te : TE} {g g1 g2 : Int → Int}
theorem EvR.mono (e : Ex H H') (h : EvR K C f n te σ H g) : EvR K C f n te σ H' g := fun H1 a Q q => h H1 (e.trans a) Q q
theorem er_var {i : Nat} {p : Addr} (h : σ[i]? = some (some (.ref p))) (hR : RowAt K C f H p (Clk.row n g)) : EvR K C f n (tVar i) σ H g := fun H1 e Q q => ⟨_, h, q p H1 (Ex.refl H1) (hR.same e)⟩
theorem row_zip (op : Int → Int → Int) (n : Nat) (g1 g2 : Int → Int) : List.zipWith op (Clk.row n g1) (Clk.row n g2) = Clk.row n fun x => op (g1 x) (g2 x) := by
  apply List.ext_getElem
  · rw [List.length_zipWith, Clk.row_len, Clk.row_len, Clk.row_len]
    omega
  · intro i h1 h2
    rw [Clk.row_len] at h2
    have a := Clk.row_get (f := g1) h2
    have b := Clk.row_get (f := g2) h2
    have c := Clk.row_get (f := fun x => op (g1 x) (g2 x)) h2
    rw [List.getElem?_eq_getElem (by rw [Clk.row_len]; exact h2)] at a b c
    rw [List.getElem_zipWith, Option.some.inj a, Option.some.inj b, Option.some.inj c]
theorem er_bin {op : Int → Int → Int} {E : XK} (ha : EvR K C f n ta σ H g1) (hb : EvR K C f n tb σ H g2) : EvR K C f n (tOp (rBinOwn C (spRowBin K C f op) E) ta tb) σ H (fun x => op (g1 x) (g2 x)) := fun H1 e Q q =>
  ha H1 e _ fun p H2 e2 hP => hb H2 (e.trans e2) _ fun r H3 e3 hR => by
    have hP' := hP.same e3
    obtain ⟨dx, t, h1, _⟩ := hP'.ex
    obtain ⟨dy, u, h2, _⟩ := hR.ex
    refine ⟨p, r, dx, dy, _, _, rfl, rfl, h1, h2, p, r, _, _, rfl, hP', hR, by rw [Clk.row_len, Clk.row_len], fun z H4 nz e4 hZ => ⟨z, rfl, q z H4 ((e2.trans e3).trans e4) ?_⟩⟩
    rw [row_zip] at hZ
    exact hZ
theorem row_mul (n : Nat) (g : Int → Int) (k : Int) : (Clk.row n g).map (· * k) = Clk.row n fun x => g x * k := by
  unfold Clk.row
  rw [List.map_map]
  rfl
theorem row_lt {n : Nat} {g : Int → Int} {m : Int} (h : ∀ i : Nat, i < n → g i < m) : ∀ x ∈ Clk.row n g, x < m := fun x hx => by
  obtain ⟨i, hi, rfl⟩ := Clk.mem_row.mp hx
  exact h i hi
theorem er_mul {E : XK} {k : Int} (ha : EvR K C f n ta σ H g) (hb : Ev tb σ H (.int k)) (k0 : 0 ≤ k) (kt : k < 2 ^ 900) (hg : ∀ i : Nat, i < n → g i < 2 ^ 900) : EvR K C f n (tOp (rBinInt C (spRowMul K C f) E) ta tb) σ H (fun x => g x * k) := fun H1 e Q q =>
  ha H1 e _ fun p H2 e2 hP => hb H2 (e.trans e2) _ fun H3 e3 => by
    have hP' := hP.same e3
    obtain ⟨dx, t, h1, _⟩ := hP'.ex
    refine ⟨p, dx, _, k, rfl, rfl, h1, p, _, k, rfl, hP', k0, kt, row_lt hg, fun z H4 nz e4 hZ => ⟨z, rfl, q z H4 ((e2.trans e3).trans e4) ?_⟩⟩
    rw [row_mul] at hZ
    exact hZ
theorem er_rmul {E : XK} {k : Int} (ha : Ev ta σ H (.int k)) (hb : EvR K C f n tb σ H g) (k0 : 0 ≤ k) (kt : k < 2 ^ 900) (hg : ∀ i : Nat, i < n → g i < 2 ^ 900) : EvR K C f n (tOp (rIntBin C (spRowMul K C f) E) ta tb) σ H (fun x => g x * k) := fun H1 e Q q =>
  ha H1 e _ fun H2 e2 => hb H2 (e.trans e2) _ fun p H3 e3 hP => by
    obtain ⟨dx, t, h1, _⟩ := hP.ex
    refine ⟨p, dx, _, k, rfl, rfl, h1, p, _, k, rfl, hP, k0, kt, row_lt hg, fun z H4 nz e4 hZ => ⟨z, rfl, q z H4 ((e2.trans e3).trans e4) ?_⟩⟩
    rw [row_mul] at hZ
    exact hZ
theorem row_trn (hn : 0 < n) (g : Int → Int) (k : Int) : Clk.trn (Clk.row n g) k = Clk.row n fun x => g ((x + k) % (n : Int)) := by
  unfold Clk.trn
  rw [Clk.row_len]
  exact Clk.row_congr fun i hi => Clk.S_row hn _
theorem row_pos (h : RowAt K C f H p (Clk.row n g)) : 0 < n := by
  have := h.pos
  rwa [Clk.row_len] at this
theorem er_turn {E : XK} {sg : Int → Int} {k : Int} (ha : EvR K C f n ta σ H g) (hb : Ev tb σ H (.int k)) : EvR K C f n (tOp (rBinInt C (spRowTurn K C f sg) E) ta tb) σ H (fun x => g ((x + sg k) % (n : Int))) := fun H1 e Q q =>
  ha H1 e _ fun p H2 e2 hP => hb H2 (e.trans e2) _ fun H3 e3 => by
    have hP' := hP.same e3
    obtain ⟨dx, t, h1, _⟩ := hP'.ex
    refine ⟨p, dx, _, k, rfl, rfl, h1, p, _, k, rfl, hP', fun z H4 nz e4 hZ => ⟨z, rfl, q z H4 ((e2.trans e3).trans e4) ?_⟩⟩
    rw [row_trn (row_pos hP)] at hZ
    exact hZ
theorem er_mir {E : XK} {m : Str} (ha : EvR K C f n ta σ H g) (hm : m ≠ f) : EvR K C f n (tMeth C m (spRowMir K C f) [] E ta tNil) σ H (fun x => g ((n : Int) - 1 - x)) := fun H1 e Q q =>
  ha H1 e _ fun p H2 e2 hP => by
    obtain ⟨dx, t, h1, _⟩ := hP.ex
    refine ⟨p, dx, _, rfl, h1, ?_, p, _, rfl, hP, fun z H4 nz e4 hZ => q z H4 (e2.trans e4) ?_⟩
    · rw [List.lookup_cons]
      have : (m == f) = false := beq_eq_false_iff_ne.mpr hm
      rw [this]
      rfl
    · rw [Clk.row_reverse] at hZ
      exact hZ
theorem ev_cmpR {E : XK} {neg : Bool} (ha : EvR K C f n ta σ H g1) (hb : EvR K C f n tb σ H g2) : Ev (tOp (rCmpOwn C (spRowEq K C f) E neg) ta tb) σ H (.bl (if neg then !decide (Clk.row n g1 = Clk.row n g2) else decide (Clk.row n g1 = Clk.row n g2))) := fun H1 e Q q =>
  ha H1 e _ fun p H2 e2 hP => hb H2 (e.trans e2) _ fun r H3 e3 hR => by
    have hP' := hP.same e3
    obtain ⟨dx, t, h1, _⟩ := hP'.ex
    obtain ⟨dy, u, h2, _⟩ := hR.ex
    exact ⟨p, r, dx, dy, _, _, rfl, rfl, h1, h2, p, r, _, _, rfl, hP', hR, _, rfl, q H3 (e2.trans e3)⟩
/-- a != b: not so -/
theorem et_same {E : XK} (ha : EvR K C f n ta σ H g1) (hb : EvR K C f n tb σ H g2) (h : ∀ i : Nat, i < n → g1 i = g2 i) : EvT (tTest (tOp (rCmpOwn C (spRowEq K C f) E true) ta tb)) σ H false :=
  et_f (ev_cmpR ha hb) (by rw [Clk.row_congr h, decide_eq_true rfl]; rfl)
theorem ev_eqR {E : XK} (ha : EvR K C f n ta σ H g1) (hb : EvR K C f n tb σ H g2) : Ev (tOp (rCmpOwn C (spRowEq K C f) E false) ta tb) σ H (.bl (decide (Clk.row n g1 = Clk.row n g2))) := ev_cmpR ha hb
theorem ev_within {E : XK} {m : Str} (ha : EvR K C f n ta σ H g1) (hb : EvR K C f n tb σ H g2) (hm : m ≠ f) : Ev (tMeth C m (spRowWithin K C f) [] E ta (tCons tb tNil)) σ H (.bl (withinB (Clk.row n g1) (Clk.row n g2))) := fun H1 e Q q =>
  ha H1 e _ fun p H2 e2 hP => by
    obtain ⟨dx, t, h1, _⟩ := hP.ex
    refine ⟨p, dx, _, rfl, h1, ?_, hb H2 (e.trans e2) _ fun r H3 e3 hR => ⟨p, r, _, _, rfl, hP.same e3, hR, by rw [Clk.row_len, Clk.row_len], fun H4 e4 => q H4 ((e2.trans e3).trans e4)⟩⟩
    rw [List.lookup_cons]
    have : (m == f) = false := beq_eq_false_iff_ne.mpr hm
    rw [this]
    rfl
theorem ev_sumR {E : XK} (ha : EvR K C f n ta σ H g) : Ev (tProp C (spRowSum K C f) [] E ta) σ H (.int (Clk.Sum n g)) := fun H1 e Q q =>
  ha H1 e _ fun p H2 e2 hP => by
    obtain ⟨dx, t, h1, _⟩ := hP.ex
    refine ⟨p, dx, _, rfl, h1, p, _, rfl, hP, ?_⟩
    rw [Clk.sum_row]
    exact q H2 e2
theorem ev_lenR {E : XK} (ha : EvR K C f n ta σ H g) : Ev (tCB (rLenOwn C (spRowLen K C f) E) (tCons ta tNil)) σ H (.int (n : Nat)) := fun H1 e Q q =>
  ha H1 e _ fun p H2 e2 hP => by
    obtain ⟨dx, t, h1, _⟩ := hP.ex
    have tp := hP.top
    refine ⟨p, dx, _, rfl, h1, p, _, rfl, hP, _, rfl, Int.natCast_nonneg _, ?_, ?_⟩
    · omega
    · rw [Clk.row_len]
      exact q H2 e2
theorem withinB_row (n : Nat) (g1 g2 : Int → Int) : withinB (Clk.row n g1) (Clk.row n g2) = true ↔ ∀ i : Nat, i < n → g1 i ≤ g2 i := by
  rw [withinB_iff (by rw [Clk.row_len, Clk.row_len])]
  have get : ∀ (g : Int → Int) (i : Nat) (h : i < (Clk.row n g).length), (Clk.row n g)[i] = g i := fun g i h => by
    have h' : i < n := by rwa [Clk.row_len] at h
    have a := Clk.row_get (f := g) h'
    rw [List.getElem?_eq_getElem h] at a
    exact Option.some.inj a
  constructor
  · intro z i hi
    have := z i (by rw [Clk.row_len]; exact hi) (by rw [Clk.row_len]; exact hi)
    rwa [get, get] at this
  · intro z i h1 h2
    rw [get, get]
    exact z i (by rwa [Clk.row_len] at h1)
theorem row_inj {n : Nat} {g1 g2 : Int → Int} : Clk.row n g1 = Clk.row n g2 ↔ ∀ i : Nat, i < n → g1 i = g2 i := by
  constructor
  · intro z i hi
    have a := Clk.row_get (f := g1) hi
    rw [z, Clk.row_get hi] at a
    exact (Option.some.inj a).symm
  · exact fun h => Clk.row_congr h
end
end Hn

/-! Clk5 -/
namespace Clk
theorem S_set {ns : List Int} {h : Nat} (hh : h < ns.length) (x y : Int) : S (ns.set h x) y = if y % (ns.length : Int) = (h : Int) then x else S ns y := by
  have hp : 0 < ns.length := by omega
  have h0 := Int.emod_nonneg y (show (ns.length : Int) ≠ 0 by omega)
  have h1 := Int.emod_lt_of_pos y (show (0 : Int) < ns.length by omega)
  unfold S
  rw [List.length_set, List.getD_eq_getElem?_getD, List.getElem?_set, List.getD_eq_getElem?_getD]
  by_cases e : y % (ns.length : Int) = (h : Int)
  · have e2 : h = (y % (ns.length : Int)).toNat := by omega
    rw [if_pos e, if_pos e2, if_pos (by omega)]
    rfl
  · have e2 : ¬ h = (y % (ns.length : Int)).toNat := by omega
    rw [if_neg e, if_neg e2]
/-- one stay put up or down: a clock still, if the hour and the one ahead of it allow it -/
theorem valid_set {ns : List Int} (v : Valid ns) {h : Nat} (hh : h < ns.length) {x : Int} (x1 : 1 ≤ x) (xn : x ≤ ns.length) (a : x ≤ S ns ((h : Int) + 1) + 1 ∨ ns.length = 1) (b : S ns ((h : Int) - 1) ≤ x + 1 ∨ ns.length = 1) : Valid (ns.set h x) := by
  refine Valid.of (by rw [List.length_set]; exact v.pos) (by rw [List.length_set]; exact v.top) (fun i hi => ?_) fun i hi => ?_
  · rw [List.length_set] at hi ⊢
    rw [List.getElem_set]
    split
    · exact ⟨x1, xn⟩
    · exact v.mem (List.getElem_mem _)
  · rw [List.length_set] at hi
    rw [S_set hh, S_set hh]
    have m1 : (i : Int) % (ns.length : Int) = i := Int.emod_eq_of_lt (by omega) (by omega)
    rw [m1]
    by_cases e1 : (i : Int) = (h : Int)
    · rw [if_pos e1]
      by_cases e2 : ((i : Int) + 1) % (ns.length : Int) = (h : Int)
      · rw [if_pos e2]
        omega
      · rw [if_neg e2, e1]
        rcases a with a | a
        · exact a
        · exfalso
          apply e2
          rw [a]
          omega
    · rw [if_neg e1]
      by_cases e2 : ((i : Int) + 1) % (ns.length : Int) = (h : Int)
      · rw [if_pos e2]
        have e3 : S ns ((h : Int) - 1) = S ns i := S_mod (by rw [← e2, Int.sub_emod, Int.emod_emod, ← Int.sub_emod, show (i : Int) + 1 - 1 = i by omega])
        rcases b with b | b
        · rw [e3] at b
          exact b
        · omega
      · rw [if_neg e2]
        exact v.near i
theorem walk_off {n : Nat} (hn : 0 < n) {f : Int → Int} (per : ∀ x, f (x + n) = f x) {P : Int → Prop} (step : ∀ x, P x → P (x + 1) ∧ f (x + 1) = f x - 1) : ∀ x, ¬ P x := by
  intro x hx
  have key : ∀ k : Nat, P (x + k) ∧ f (x + k) = f x - k := by
    intro k
    induction k with
    | zero => exact ⟨by simpa using hx, by simp⟩
    | succ k ih =>
      obtain ⟨a, b⟩ := ih
      obtain ⟨c, d⟩ := step _ a
      rw [show x + ((k + 1 : Nat) : Int) = x + k + 1 by omega]
      exact ⟨c, by rw [d, b]; omega⟩
  have := (key n).2
  rw [per] at this
  omega
theorem walk_back {n : Nat} (hn : 0 < n) {f : Int → Int} (per : ∀ x, f (x + n) = f x) {P : Int → Prop} (step : ∀ x, P x → P (x - 1) ∧ f (x - 1) = f x + 1) : ∀ x, ¬ P x := by
  intro x hx
  have key : ∀ k : Nat, P (x - k) ∧ f (x - k) = f x + k := by
    intro k
    induction k with
    | zero => exact ⟨by simpa using hx, by simp⟩
    | succ k ih =>
      obtain ⟨a, b⟩ := ih
      obtain ⟨c, d⟩ := step _ a
      rw [show x - ((k + 1 : Nat) : Int) = x - k - 1 by omega]
      exact ⟨c, by rw [d, b]; omega⟩
  have h := (key n).2
  have p := per (x - n)
  rw [show x - (n : Int) + n = x by omega] at p
  rw [← p] at h
  omega
theorem S_add_len {ns : List Int} (x : Int) : S ns (x + ns.length) = S ns x := S_mod (Int.add_emod_right _ _)
/-- the stay at an hour, one nearer to what is aimed at -/
def nearer (s a : Int) : Int := s + if s > a then -1 else 1
theorem mod_nat {ns : List Int} (p : 0 < ns.length) (x : Int) : ∃ h : Nat, h < ns.length ∧ (h : Int) = x % (ns.length : Int) := by
  have h0 := Int.emod_nonneg x (show (ns.length : Int) ≠ 0 by omega)
  have h1 := Int.emod_lt_of_pos x (show (0 : Int) < ns.length by omega)
  exact ⟨(x % (ns.length : Int)).toNat, by omega, by omega⟩
/-- no stay can be put up nearer: it is there -/
theorem stuck_up {ms as : List Int} (v : Valid ms) (w : Valid as) (hl : ms.length = as.length) (le : ∀ x, S ms x ≤ S as x) (no : ∀ h : Nat, h < ms.length → S ms h ≠ S as h → ¬ Valid (ms.set h (nearer (S ms h) (S as h)))) : ∀ x, S ms x = S as x := by
  intro x
  by_cases e : S ms x = S as x
  · exact e
  · exfalso
    refine walk_off (n := ms.length) v.pos (f := S ms) (fun x => S_add_len x) (P := fun x => S ms x < S as x) (fun y hy => ?_) x (by have := le x; omega)
    obtain ⟨h, hh, he⟩ := mod_nat v.pos y
    have e1 : S ms h = S ms y := S_mod (by rw [he, Int.emod_emod])
    have e2 : S as h = S as y := S_mod (by rw [← hl, he, Int.emod_emod])
    have e3 : S ms ((h : Int) + 1) = S ms (y + 1) := S_mod (by rw [he, Int.emod_add_emod])
    have e4 : S ms ((h : Int) - 1) = S ms (y - 1) := S_mod (by rw [he, Int.emod_sub_emod])
    have nv := no h hh (by rw [e1, e2]; omega)
    have hi := w.hi y
    have lo := v.lo y
    have n1 := v.near y
    have n2 := v.near (y - 1)
    have n3 := w.near y
    have l3 := le (y + 1)
    rw [show y - 1 + 1 = y by omega] at n2
    have nn : nearer (S ms h) (S as h) = S ms y + 1 := by
      rw [e1, e2]
      unfold nearer
      rw [if_neg (by omega)]
    rw [nn] at nv
    have eq : S ms y = S ms (y + 1) + 1 := by
      by_cases q : S ms y + 1 ≤ S ms (y + 1) + 1
      · exact absurd (valid_set v hh (by omega) (by rw [hl]; omega) (.inl (by rw [e3]; exact q)) (.inl (by rw [e4]; omega))) nv
      · omega
    exact ⟨by omega, by omega⟩
theorem stuck_down {ms as : List Int} (v : Valid ms) (w : Valid as) (hl : ms.length = as.length) (le : ∀ x, S as x ≤ S ms x) (no : ∀ h : Nat, h < ms.length → S ms h ≠ S as h → ¬ Valid (ms.set h (nearer (S ms h) (S as h)))) : ∀ x, S ms x = S as x := by
  intro x
  by_cases e : S ms x = S as x
  · exact e
  · exfalso
    refine walk_back (n := ms.length) v.pos (f := S ms) (fun x => S_add_len x) (P := fun x => S as x < S ms x) (fun y hy => ?_) x (by have := le x; omega)
    obtain ⟨h, hh, he⟩ := mod_nat v.pos y
    have e1 : S ms h = S ms y := S_mod (by rw [he, Int.emod_emod])
    have e2 : S as h = S as y := S_mod (by rw [← hl, he, Int.emod_emod])
    have e3 : S ms ((h : Int) + 1) = S ms (y + 1) := S_mod (by rw [he, Int.emod_add_emod])
    have e4 : S ms ((h : Int) - 1) = S ms (y - 1) := S_mod (by rw [he, Int.emod_sub_emod])
    have nv := no h hh (by rw [e1, e2]; omega)
    have hi := v.hi y
    have lo := w.lo y
    have n1 := v.near y
    have n2 := v.near (y - 1)
    have n3 := w.near (y - 1)
    have l3 := le (y - 1)
    rw [show y - 1 + 1 = y by omega] at n2 n3
    have nn : nearer (S ms h) (S as h) = S ms y - 1 := by
      rw [e1, e2]
      unfold nearer
      rw [if_pos (by omega)]
      omega
    rw [nn] at nv
    have eq : S ms (y - 1) = S ms y + 1 := by
      by_cases q : S ms (y - 1) ≤ S ms y - 1 + 1
      · exact absurd (valid_set v hh (by omega) (by omega) (.inl (by rw [e3]; omega)) (.inl (by rw [e4]; omega))) nv
      · omega
    exact ⟨by omega, by omega⟩
/-- how far off -/
def far (as ms : List Int) : Int := Sum as.length fun x => ((S as x - S ms x).natAbs : Int)
theorem Sum_nonneg : ∀ {n : Nat} {f : Int → Int}, (∀ i : Nat, i < n → 0 ≤ f i) → 0 ≤ Sum n f
  | 0, _, _ => Int.le_refl 0
  | n + 1, f, h => by
    have a := Sum_nonneg (n := n) (f := f) fun i hi => h i (by omega)
    have b := h n (by omega)
    show 0 ≤ Sum n f + f n
    omega
theorem Sum_le : ∀ {n : Nat} {f : Int → Int} {m : Int}, (∀ i : Nat, i < n → f i ≤ m) → Sum n f ≤ n * m
  | 0, _, _, _ => by simp [Sum]
  | n + 1, f, m, h => by
    have a := Sum_le (n := n) (f := f) (m := m) fun i hi => h i (by omega)
    have b := h n (by omega)
    show Sum n f + f n ≤ ((n + 1 : Nat) : Int) * m
    rw [show ((n + 1 : Nat) : Int) = n + 1 by omega, Int.add_mul]
    omega
theorem Sum_less : ∀ {n : Nat} {f g : Int → Int} {j : Nat}, j < n → (∀ i : Nat, i < n → i ≠ j → f i = g i) → f j = g j - 1 → Sum n f = Sum n g - 1
  | n + 1, f, g, j, hj, h, e => by
    show Sum n f + f n = Sum n g + g n - 1
    by_cases q : j = n
    · subst q
      rw [Sum_congr (f := f) (g := g) fun i hi => h i (by omega) (by omega)]
      omega
    · rw [Sum_less (n := n) (f := f) (g := g) (j := j) (by omega) (fun i hi ne => h i (by omega) ne) e, h n (by omega) (by omega)]
      omega
theorem far_nearer {ms as : List Int} (hl : ms.length = as.length) {h : Nat} (hh : h < ms.length) (ne : S ms h ≠ S as h) : far as (ms.set h (nearer (S ms h) (S as h))) = far as ms - 1 := by
  unfold far
  refine Sum_less (j := h) (by omega) (fun i hi n => ?_) ?_
  · have m1 : (i : Int) % (ms.length : Int) = i := Int.emod_eq_of_lt (by omega) (by omega)
    show ((S as i - S (ms.set h _) i).natAbs : Int) = ((S as i - S ms i).natAbs : Int)
    rw [S_set hh, m1, if_neg (by omega)]
  · have m1 : (h : Int) % (ms.length : Int) = h := Int.emod_eq_of_lt (by omega) (by omega)
    show ((S as h - S (ms.set h _) h).natAbs : Int) = ((S as h - S ms h).natAbs : Int) - 1
    rw [S_set hh, m1, if_pos rfl]
    unfold nearer
    split <;> omega
theorem far_top {ms as : List Int} (v : Valid ms) (w : Valid as) (hl : ms.length = as.length) : far as ms ≤ (as.length : Int) * as.length := by
  refine Sum_le fun i hi => ?_
  have a := v.lo i
  have b := v.hi i
  have c := w.lo i
  have d := w.hi i
  omega
theorem far_nonneg (ms as : List Int) : 0 ≤ far as ms := Sum_nonneg fun i _ => by omega
/-- all on one side -/
def Side (as ms : List Int) : Prop := (∀ x, S ms x ≤ S as x) ∨ ∀ x, S as x ≤ S ms x
theorem side_nearer {ms as : List Int} (hl : ms.length = as.length) (s : Side as ms) {h : Nat} (hh : h < ms.length) (ne : S ms h ≠ S as h) : Side as (ms.set h (nearer (S ms h) (S as h))) := by
  rcases s with s | s
  · refine .inl fun x => ?_
    rw [S_set hh]
    split
    · rename_i e
      have e2 : S as x = S as h := S_mod (by rw [← hl, e, Int.emod_eq_of_lt (by omega) (by omega)])
      have := s h
      rw [e2]
      unfold nearer
      split <;> omega
    · exact s x
  · refine .inr fun x => ?_
    rw [S_set hh]
    split
    · rename_i e
      have e2 : S as x = S as h := S_mod (by rw [← hl, e, Int.emod_eq_of_lt (by omega) (by omega)])
      have := s h
      rw [e2]
      unfold nearer
      split <;> omega
    · exact s x
theorem eq_of_S {ms as : List Int} (hl : ms.length = as.length) (h : ∀ x, S ms x = S as x) : ms = as := by
  rw [row_eq (ns := ms), row_eq (ns := as), hl]
  exact row_congr fun i _ => h i
theorem stuck {ms as : List Int} (v : Valid ms) (w : Valid as) (hl : ms.length = as.length) (s : Side as ms) (no : ∀ h : Nat, h < ms.length → S ms h ≠ S as h → ¬ Valid (ms.set h (nearer (S ms h) (S as h)))) : ms = as :=
  eq_of_S hl (s.elim (fun le => stuck_up v w hl le no) fun le => stuck_down v w hl le no)
theorem nearer_fit {s a n : Int} (s1 : 1 ≤ s) (sn : s ≤ n) (a1 : 1 ≤ a) (an : a ≤ n) (ne : s ≠ a) : 1 ≤ nearer s a ∧ nearer s a ≤ n := by
  unfold nearer
  split <;> omega
/-- the greater of two clocks' stays is a clock -/
theorem valid_max {as bs : List Int} (v : Valid as) (w : Valid bs) (hl : as.length = bs.length) : Valid (row as.length fun x => max (S as x) (S bs x)) := by
  have hp := v.pos
  have sx : ∀ x, S (row as.length fun x => max (S as x) (S bs x)) x = max (S as x) (S bs x) := fun x => by
    rw [S_row hp]
    rw [S_mod (ns := as) (x := x % (as.length : Int)) (y := x) (Int.emod_emod _ _), S_mod (ns := bs) (x := x % (as.length : Int)) (y := x) (by rw [← hl, Int.emod_emod])]
  constructor
  · rw [row_len]
    exact hp
  · rw [row_len]
    exact v.top
  · intro x
    rw [sx]
    have := v.lo x
    omega
  · intro x
    rw [sx, row_len]
    have := v.hi x
    have := w.hi x
    omega
  · intro x
    rw [sx, sx]
    have := v.near x
    have := w.near x
    omega
end Clk
namespace Clk
theorem S_max {as bs : List Int} (p : 0 < as.length) (hl : as.length = bs.length) (x : Int) : S (row as.length fun x => max (S as x) (S bs x)) x = max (S as x) (S bs x) := by
  rw [S_row p]
  rw [S_mod (ns := as) (x := x % (as.length : Int)) (y := x) (Int.emod_emod _ _), S_mod (ns := bs) (x := x % (as.length : Int)) (y := x) (by rw [← hl, Int.emod_emod])]
theorem served_le {as bs : List Int} (v : Valid as) (w : Valid bs) (hl : as.length = bs.length) (le : ∀ x, S as x ≤ S bs x) {b h : Int} (m : h ∈ served as b) : h ∈ served bs b := by
  have hp := v.pos
  obtain ⟨i, hi, e⟩ := mem_row.mp m
  have h0 : 0 ≤ h := by rw [← e]; exact Int.emod_nonneg _ (by omega)
  have h1 : h < as.length := by rw [← e]; exact Int.emod_lt_of_pos _ (by omega)
  have a := (mem_served v h0 h1).mp m
  refine (mem_served w h0 (by omega)).mpr ?_
  rw [← hl]
  have := le b
  omega
end Clk

/-! EnumO -/
namespace Hn
open PySem PySem.Spec L2
open PyProof.Rows hiding St
set_option maxHeartbeats 1000000 in
theorem enum_newO {prog : Program} {w : World} {A A2 : Around} {a : Addr} {s : Shared} {R : Result → Shared → Prop} {P : Value → Shared → Prop}
    (hI : wpAny (model prog w) A (pyIter (.ref a)) P (fun _ _ => False) s)
    (h : ∀ it s1, P it s1 → R (.ok (.ret (.ref s1.heap.objs.size))) { s1 with heap := s1.heap.push { cls := .type "enumerate", data := .fields #[.none, .bool false, it, rawInt 0, .none, .none] } }) :
    wpAny (model prog w) A (Builtin.«enumerate.__new__» ⟨[.type "enumerate", .ref a], []⟩) (fun fin s' => match fin with | .done f => R (.ok f) s' | .again c' => c'.quiet = true ∧ codeAny (model prog w) A2 c' R s') (fun e s' => R (.error e) s') s := by
  have hsE := sub_enumerate
  obtain ⟨hp, g, d, tk, os⟩ := s
  unfold Builtin.«enumerate.__new__»
  have fin : ∀ it s1, P it s1 → wpAny (model prog w) A (Builtin.SmallTypes.newRecord (Value.type "enumerate") (Builtin.SmallTypes.ownedTupleFields ++ [it, rawInt 0, Value.none, Value.none]) >>= fun x => ret x) (fun fin s' => match fin with | .done f => R (.ok f) s' | .again c' => c'.quiet = true ∧ codeAny (model prog w) A2 c' R s') (fun e s' => R (.error e) s') s1 := fun it s1 p => by
    have q := h it s1 p
    obtain ⟨hp, g, d, tk, os⟩ := s1
    wp_walk
    exact q
  have it {E : Value → Shared → Prop} {Q : Value → Shared → Prop} (q : ∀ v s1, P v s1 → Q v s1) : wpAny (model prog w) A (pyIter (.ref a)) Q E ⟨hp, g, d, tk, os⟩ := wpAny_mono hI q fun _ _ z => z.elim
  wp_walk using it
  refine wpAny_stack_any fun _ => wpAny_pure ?_
  split
  · rename_i c _ _ _ _ _
    cases (c == Value.type "enumerate")
    · wp_walk using it
      exact fun v s1 p => fin v s1 p
    · wp_walk using it
      exact fun v s1 p => fin v s1 p
  · wp_walk using it
    exact fun v s1 p => fin v s1 p

/-- an iterator over a tuple that has ended -/
def IterDone (h : Heap) (it : Addr) : Prop := ∃ o y, h.get? it = some o ∧ o.cls = Value.type "tuple_iterator" ∧ o.data = Data.fields #[Value.none, y]
theorem IterDone.typeIs {s : Shared} {it : Addr} (h : IterDone s.heap it) : s.TypeIs (.ref it) "tuple_iterator" := let ⟨o, _, ho, hc, _⟩ := h; ⟨o, ho, hc⟩
section
variable {prog : Program} {w : World} {A : Around} {E : Value → Shared → Prop} {s : Shared} {it t : Addr} {i : Nat} {items : Array Value}
theorem nextOf_ends {Q : Value → Shared → Prop} (hh : A.handled = none) (hit : s.heap.IsTupleIter it t i) (ht : s.heap.IsTuple t items) (hx : items[i]? = none)
    (hE : ∀ h' e, Heap.ExtBut it s.heap h' → IterDone h' it → (∃ o, h'.get? e = some o ∧ o.cls = .type "StopIteration") → E (.ref e) { s with heap := h' }) : wpAny (model prog w) A (Builtin.SmallTypes.nextOf (.ref it)) Q E s := by
  obtain ⟨o, ho, hc, hd⟩ := id hit
  obtain ⟨ol, hol, _, nl, hdl⟩ := ht
  unfold Builtin.SmallTypes.nextOf
  refine wpAny_bind (wpAny_callSpecial?_slot (name := Str.ofString "__next__") hit.typeIs PySem.F.slot_tuple_iterator_next
    (wpAny_call_entry PySem.F.slot_tuple_iterator_next hit.typeIs PySem.F.entry_tuple_iterator_next ?_ (PySem.F.args_tuple_iterator_next_1 _)))
  show wpAny _ _ (field (.ref it) 0 >>= _) _ _ s
  refine wpAny_bind (wpAny_field ho hd (x := .ref t) rfl ?_)
  show wpAny _ _ (if (Value.ref t == Value.none) = true then _ else _) _ _ s
  rw [if_neg (show ¬ ((Value.ref t == Value.none) = true) from Bool.false_ne_true)]
  show wpAny _ _ (field (.ref it) 1 >>= _) _ _ s
  refine wpAny_bind (wpAny_field ho hd (x := .int i 0) rfl ?_)
  show wpAny _ _ (seqItems? (.ref t) >>= _) _ _ s
  refine wpAny_bind (wpAny_seqItems hol hdl ?_)
  simp only [Int.toNat_natCast, hx]
  refine wpAny_bind (wpAny_rule (wpAny_bind (wpAny_setField ho hd (by simp) ?_)))
  show wpAny _ _ (newExc (.type "StopIteration") [] >>= _) _ _ _
  refine wpAny_bind ?_
  simp only [newExc, newTuple]
  refine wpAny_bind (wpAny_newObj_type ?_ (by size_fits))
  refine wpAny_bind (m := firstArgMember _ _) (wpAny_of_eq (a := Value.none) (by first | rfl | (simp only [firstArgMember]; rfl)) ?_)
  refine wpAny_newObj_type ?_ (by size_fits)
  simp only [raiseNew]
  refine wpAny_bind (wpAny_handled ?_)
  rw [show A.in1.handled = none from hh]
  refine wpAny_bind (wpAny_pure (wpAny_throw ?_))
  refine hE _ _ (((Heap.SameBut.update ..).extBut.push _).push _) ⟨_, .int i 0, Heap.get?_push_of_some _ (Heap.get?_push_of_some _ (Heap.get?_update_self _ ho ?_)), (Obj.cls_mapFields ..).trans hc, ?_⟩ ⟨_, Heap.get?_push_size _ rfl, rfl⟩
  · exact Obj.isFreed_of_fields (Obj.data_mapFields hd _)
  · rw [Obj.data_mapFields hd]; simp
theorem nextOf_ended {Q : Value → Shared → Prop} (hh : A.handled = none) (hit : IterDone s.heap it)
    (hE : ∀ h' e, Heap.ExtBut it s.heap h' → IterDone h' it → (∃ o, h'.get? e = some o ∧ o.cls = .type "StopIteration") → E (.ref e) { s with heap := h' }) : wpAny (model prog w) A (Builtin.SmallTypes.nextOf (.ref it)) Q E s := by
  obtain ⟨o, y, ho, hc, hd⟩ := id hit
  unfold Builtin.SmallTypes.nextOf
  refine wpAny_bind (wpAny_callSpecial?_slot (name := Str.ofString "__next__") hit.typeIs PySem.F.slot_tuple_iterator_next
    (wpAny_call_entry PySem.F.slot_tuple_iterator_next hit.typeIs PySem.F.entry_tuple_iterator_next ?_ (PySem.F.args_tuple_iterator_next_1 _)))
  show wpAny _ _ (field (.ref it) 0 >>= _) _ _ s
  refine wpAny_bind (wpAny_field ho hd (x := Value.none) rfl ?_)
  show wpAny _ _ (if (Value.none == Value.none) = true then _ else _) _ _ s
  rw [if_pos (show ((Value.none == Value.none) = true) from rfl)]
  refine wpAny_bind (wpAny_rule (wpAny_bind ?_))
  show wpAny _ _ (newExc (.type "StopIteration") [] >>= _) _ _ _
  refine wpAny_bind ?_
  simp only [newExc, newTuple]
  refine wpAny_bind (wpAny_newObj_type ?_ (by size_fits))
  refine wpAny_bind (m := firstArgMember _ _) (wpAny_of_eq (a := Value.none) (by first | rfl | (simp only [firstArgMember]; rfl)) ?_)
  refine wpAny_newObj_type ?_ (by size_fits)
  simp only [raiseNew]
  refine wpAny_bind (wpAny_handled ?_)
  rw [show A.in1.handled = none from hh]
  refine wpAny_bind (wpAny_pure (wpAny_throw ?_))
  refine hE _ _ (((Heap.SameBut.refl it s.heap).extBut.push _).push _) ⟨o, y, Heap.get?_push_of_some _ (Heap.get?_push_of_some _ ho), hc, hd⟩ ⟨_, Heap.get?_push_size _ rfl, rfl⟩
end
/-- at it an iterator over the tuple at t, of n items, the next place is i; it may have ended behind the last one -/
def TiX (t it : Addr) (n i : Nat) : HO := .ext fun h => h.IsTupleIter it t i ∨ (n ≤ i ∧ IterDone h it)
theorem tiX_ok {P : Program} {w : World} {H : Hp} {h : Heap} {t it : Addr} {n i : Nat} (e : h.IsTupleIter it t i ∨ (n ≤ i ∧ IterDone h it)) : ObjOk P w H h it (TiX t it n i) :=
  ⟨e, by
    rcases e with ⟨o, ho, _⟩ | ⟨_, o, _, ho, _⟩
    · exact ⟨o, ho⟩
    · exact ⟨o, ho⟩, fun _ _ q k => by
    rcases q with ⟨o, ho, r⟩ | ⟨z, o, y, ho, r⟩
    · exact .inl ⟨o, k _ ho, r⟩
    · exact .inr ⟨z, o, y, k _ ho, r⟩⟩
/-- the tuple at t by the iterator at it, which stands in the heap: each item in a new pair -/
def ItEO (K : PySem.W.Frag) (t it : Addr) (n : Nat) : It :=
  ⟨fun i H => ∃ (xs : List V) (x : V), SqT K H t xs ∧ xs[i]? = some x ∧ xs.length = n ∧ H it = some (TiX t it n i),
   fun i H v H' => ∃ T x, v = .ref T ∧ H T = none ∧ H' = upd (upd H it (TiX t it n (i + 1))) T (.tup [.int (i : Nat), x]) ∧ ∀ xs, SqT K H t xs → xs[i]? = some x,
   fun i H => ∃ xs : List V, SqT K H t xs ∧ xs.length ≤ i ∧ xs.length = n ∧ H it = some (TiX t it n i)⟩
theorem upd_id {H : Hp} {a : Addr} {o : HO} (h : H a = some o) : upd H a o = H := by
  funext b
  by_cases hb : b = a
  · rw [hb, upd_same, h]
  · rw [upd_ne hb]
theorem enumO_end {prog : Program} {w : World} {A : Around} {E : Value → Shared → Prop} {s : Shared} {e it t : Addr} {i : Nat} {c : Int} {items : Array Value} {old : Value} {Q : Option Value → Shared → Prop} (hh : A.handled = none)
    (he : IsEnum s.heap e it c old) (hit : s.heap.IsTupleIter it t i ∨ IterDone s.heap it) (hl : s.heap.IsTuple t items) (hx : items[i]? = none) (hQ : ∀ h', Heap.ExtBut it s.heap h' → IterDone h' it → Q none { s with heap := h' }) : wpAny (model prog w) A (pyNext (.ref e)) Q E s := by
  have ty : s.TypeIs (.ref e) "enumerate" := ⟨_, he, rfl⟩
  have hh1 : A.in1.handled = none := hh
  unfold pyNext
  refine wpAny_bind (wpAny_attempt (wpAny_callSpecial?_slot (name := Str.ofString "__next__") ty F.slot_enumerate_next (wpAny_call_entry F.slot_enumerate_next ty F.entry_enumerate_next ?_ (F.args_enumerate_next_1 _))))
  show wpAny _ _ (field (.ref e) 2 >>= _) _ _ s
  refine wpAny_bind (wpAny_field he rfl (x := .ref it) rfl (wpAny_bind ?_))
  have go : ∀ (h' : Heap) (x : Addr), Heap.ExtBut it s.heap h' → IterDone h' it → (∃ o, h'.get? x = some o ∧ o.cls = Value.type "StopIteration") → wpAny (model prog w) A (isInstance (.ref x) (.type "StopIteration") >>= fun b => if b = true then pure none else throw (Value.ref x)) Q E { s with heap := h' } := fun h' x he' hd hx' => by
    obtain ⟨o, ho, hc⟩ := hx'
    exact wpAny_bind (wpAny_isInstance (T := "StopIteration") (b := true) ⟨o, ho, hc⟩ isSubtype_stop (wpAny_pure (hQ _ he' hd)))
  rcases hit with hit | hit
  · exact nextOf_ends hh1 hit hl hx go
  · exact nextOf_ended hh1 hit go
theorem turn_enumO {P : Program} {w : World} {K : PySem.W.Frag} {elts : List Expr} {kk : Nat} {tpos : Pos} (t e it : Addr) (n : Nat) :
    Turn P w K (.Tuple elts kk tpos) (ItEO K t it n) [e] e (fun i h => ∃ old, IsEnum h e it ((i : Nat) : Int) old) where
  mem := by simp
  obj := fun i h st b hb => by
    obtain ⟨old, he⟩ := st
    obtain rfl : b = e := by simpa using hb
    exact ⟨_, he, fun v q => nomatch q⟩
  keep := fun i h h' st k => by
    obtain ⟨old, he⟩ := st
    exact ⟨old, k e (by simp) _ he⟩
  item := by
    intro X hP hw hK hc i pins s σ H E I hf st hg
    subst hP hw hK
    obtain ⟨old, he⟩ := st
    obtain ⟨xs, x, hq, hx, hn, hI⟩ := hg
    obtain ⟨its, rv, p, hz⟩ := I.tuple hq
    obtain ⟨u, hu, ru⟩ := rv.get hx
    have hl := rv.length
    have hin : i < xs.length := (List.getElem?_eq_some_iff.mp hx).1
    have hit : s.heap.IsTupleIter it t i := by
      rcases (I.hok it _ hI).1 with h | h
      · exact h
      · exact absurd h.1 (by omega)
    have hne : e ≠ it := by
      rintro rfl
      have q := (hf e (by simp)).1
      rw [hI] at q
      cases q
    have le : e < s.heap.objs.size := Heap.lt_size he
    have li : it < s.heap.objs.size := by
      obtain ⟨_, q, _⟩ := hit
      exact Heap.lt_size q
    have hae : t ≠ e := by
      rintro rfl
      obtain ⟨o, h1, h2, _⟩ := p
      rw [show s.heap.get? t = some _ from he] at h1
      cases h1
      have h3 : Value.type "enumerate" = Value.type "tuple" := h2
      exact absurd h3 (by decide)
    have hai : t ≠ it := by
      rintro rfl
      obtain ⟨o, h1, h2, _⟩ := p
      obtain ⟨o', h3, h4, _⟩ := hit
      rw [h3] at h1
      cases h1
      rw [h4] at h2
      have h5 : Value.type "tuple_iterator" = Value.type "tuple" := h2
      exact absurd h5 (by decide)
    have D := Draws.tuple (prog := X.prog) (w := X.w) (A := X.A.in1) (I.ok.hd hc) it t hai its.toArray
    refine wpAny_pyNext_enum_itemC D he ⟨hit, p⟩ (i := i) (by simp; omega) hne (by simp [hne, Ne.symm hae]) fun y h' tk hy ho hs hT hsz hk => ?_
    have ey : y = u := by
      have hy' : its[i]? = some y := by simpa using hy
      rw [hu] at hy'
      exact (Option.some.inj hy').symm
    subst ey
    refine ⟨_, rfl, wpAny_letOwnedTupleGo_enum (s := { s with heap := h', toks := tk + 1 }) ho fun h'' he' sb => ?_⟩
    have hT2 : h''.get? s.heap.objs.size = some { cls := .type "tuple", data := .seq #[.int i tk, y] } := (sb.2 _ (Nat.ne_of_gt le)).trans hT
    have hit2 : h''.IsTupleIter it t (i + 1) := hs.1.at fun o q => (sb.2 it (Ne.symm hne)).trans q
    obtain ⟨o2, g2, c2, d2⟩ := id hit2
    obtain ⟨o1, g1, _, _⟩ := id hit
    have z2 : (s.heap.update it fun _ => o2).get? it = some o2 := Heap.get?_update_self _ g1 (Obj.isFreed_of_fields d2)
    have SB : Heap.SameBut it s.heap (s.heap.update it fun _ => o2) := Heap.SameBut.update ..
    have I0 : Inv X pins σ (upd H it (TiX t it n (i + 1))) { s with heap := s.heap.update it fun _ => o2 } :=
      I.write (x := it) (e := it) (t' := s.toks) (by rw [hI]; exact trivial) (.inl rfl) (fun b u nb q => SB.extBut b u nb q) ⟨_, z2⟩ (tiX_ok (.inl ⟨o2, z2, c2, d2⟩))
    have new : ObjOk X.prog X.w (upd (upd H it (TiX t it n (i + 1))) s.heap.objs.size (.tup [.int (i : Nat), x])) h'' s.heap.objs.size (.tup [.int (i : Nat), x]) :=
      ⟨by show 2 ≤ sizeLine; decide, [.int i tk, y], .cons ⟨_, rfl⟩ (.cons ru .nil), ⟨_, hT2, rfl, _, rfl⟩⟩
    have fe : FpOk X pins (upd H it (TiX t it n (i + 1))) e := by
      obtain ⟨f0, f1, f2, f3, f4, f5⟩ := hf e (by simp)
      exact ⟨by rw [upd_ne hne]; exact f0, f1, f2, f3, f4, f5⟩
    have I1 : Inv X pins σ (upd (upd H it (TiX t it n (i + 1))) s.heap.objs.size (.tup [.int (i : Nat), x])) { s with heap := h'', toks := tk + 1 } :=
      I0.turnedNew (ch := [e]) (fun b ob hb q => by
        have hbe : b ≠ e := fun z => hb (by simp [z])
        by_cases hbi : b = it
        · subst hbi
          rw [show (s.heap.update b fun _ => o2).get? b = some o2 from z2] at q
          cases q
          exact g2
        · exact (sb.2 b hbe).trans (hk b ob hbe hbi ((SB.2 b hbi).symm.trans q))) (fun b hb => by
        obtain rfl : b = e := by simpa using hb
        exact fe) (by show (s.heap.update it fun _ => o2).objs.size ≤ s.heap.objs.size; exact Nat.le_of_eq (Heap.size_update ..)) new
    refine ⟨.ref s.heap.objs.size, _, I1, rfl, ⟨_, x, rfl, I.hok.fresh (Nat.le_refl _), rfl, fun ys hy => by rw [I.tuple_inj hy hq]; exact hx⟩, ⟨y, ?_⟩, fun b hb => ?_⟩
    · rw [show ((i + 1 : Nat) : Int) = (i : Int) + 1 by omega]
      exact he'
    · obtain rfl : b = e := by simpa using hb
      rw [upd_ne (Nat.ne_of_lt le)]
      exact fe.1
  done := by
    intro X hP hw hK hc i pins s σ H E I hf st hg
    subst hP hw hK
    obtain ⟨old, he⟩ := st
    obtain ⟨xs, hq, hx, hn, hI⟩ := hg
    obtain ⟨its, rv, p, hz⟩ := I.tuple hq
    have hl := rv.length
    refine enumO_end (I.ok.hd hc) he (t := t) (i := i) ((I.hok it _ hI).1.imp id fun z => z.2) p (by simp; omega) fun h' eb hd => ⟨rfl, ?_⟩
    have q := I.write (x := it) (e := it) (o := TiX t it n i) (t' := s.toks) (by rw [hI]; exact trivial) (.inl rfl) (fun b u nb e => eb b u nb e) (let ⟨o, _, ho, _⟩ := hd; ⟨o, ho⟩) (tiX_ok (.inr ⟨by omega, hd⟩))
    rw [upd_id hI] at q
    exact q
  self := fun A i s Q E st h => let ⟨_, he⟩ := st; wpAny_pyIter_enum he h
/-- enumerate(o), o with an own __iter__ that hands back a tuple's iterator -/
def iEnO (K : PySem.W.Frag) (C : Addr) (spI : Sp) (ta : TA) : TI := fun σ H R => ta σ H fun vs H1 => ∃ a E, vs = [.ref a] ∧ (∃ dx fs, H1 a = some (.ins C dx fs)) ∧
  spI [.ref a] H1 (fun v H2 => ∃ it t xs, v = .ref it ∧ H2 it = some (TiO t it 0) ∧ SqT K H2 t xs ∧ R (ItEO K t it xs.length) (upd H2 it (TiX t it xs.length 0))) E
theorem pi_enumO {X : Cx} {K : PySem.W.Frag} {C fi : Addr} {n : Nat} {fdI : FuncData} {psI : List Str} {spI : Sp} {e : Expr} {ta : TA} {p pos tpos : Pos} {elts : List Expr} {kk : Nat} (hK : X.K = K) (hg : Gl X "enumerate") (hm : X.mg "enumerate" = none) (ha : PA X [e] ta)
    (hi : Meth X.K C "__iter__" fi) (FI : FnOk X.prog X.w X.K X.mg X.base CX0 n fi fdI psI spI) (bI : Binds X.K fdI psI []) (hr : Room (n + 4) X.A) (hs : starEach [e] X.env = [(false, eval e X.env)] := by rfl) :
    PI X (.Tuple elts kk tpos) (.Call (.Name "enumerate" p) [e] [] pos) (iEnO K C spI ta) := by
  subst hK
  refine ⟨fun pins s σ H R I h => Call_ (ld_blt I hg hm boot_enumerate (PyProof.Rows.callWith_type1 (thn (ha.run pos pins s σ H _ I h) fun us s1 ⟨vs, H1, I1, r1, a, EI, ex, ⟨dx, fs, hA⟩, hsp⟩ => ?_) hs rfl))⟩
  subst ex
  cases r1 with
  | cons r rr =>
    cases rr
    cases r
    obtain ⟨mA, J, _⟩ := ins_get I1.hok hA
    obtain ⟨od, J, _⟩ := J.look
    obtain ⟨m0, hF⟩ := I1.fr
    have hl : ([V.ref a] : List V).length = psI.length := FI.len _ _ _ _ hsp
    have r2 : Vals [V.ref a] [Value.ref a] := .cons rfl .nil
    have sb : Sub X (n + 4) X.A := ⟨hr, rfl⟩
    have sb2 : Sub X n X.A.in1.in1 := ((Sub.in1 (Sub.in1 (sb.mono (by omega) : Sub X (n + 2) X.A))))
    let P : Value → Shared → Prop := fun v s' => ∃ (it t : Addr) (xs : List V) (H2 : Hp), v = .ref it ∧ Inv X pins σ H2 s' ∧ H2 it = some (TiO t it 0) ∧ SqT X.K H2 t xs ∧ R (ItEO X.K t it xs.length) (upd H2 it (TiX t it xs.length 0))
    have hP : wpAny (model X.prog X.w) X.A.in1.in1 (pyIter (.ref a)) P (fun _ _ => False) s1 := by
      refine PySem.W.owit_iter hF I1.ok.mod.kin J hi.at_ hi.fn ?_
      refine wpAny_call (codeAny_mono (FI.run X.A.in1.in1 X.stack s1 H1 ⟨[.ref a], []⟩ [.ref a] [.ref a] _ EI sb2.room (sub_env0 sb2 I1) (by
        have z := bI s1 [.ref a] I1.kIn (by simpa using hl)
        simpa using z) r2 hsp) fun r s' hq' => ?_)
      cases r with
      | error er => exact False.elim (pass0 (X := X.nox) pins σ H1 s1 er s' (I1.wish _) hq')
      | ok f =>
        cases f with
        | next => exact False.elim hq'
        | brk => exact False.elim hq'
        | cont => exact False.elim hq'
        | ret u =>
          obtain ⟨v, H2, I2, rv, it, t, zs, ev, hit, ht, hR⟩ := I1.after hq'
          subst ev
          cases rv
          unfold PySem.W.OwitIt
          exact wpAny_specialOf (tiO_get I2 hit).typeIs PySem.F.slot_tuple_iterator_next.lookup ⟨it, t, zs, H2, rfl, I2, hit, ht, hR⟩
    refine callType_codes (Q₁ := fun obj s₁ => ∃ (s0 : Shared) (it : Addr), P (.ref it) s0 ∧ obj = .ref s0.heap.objs.size ∧ s₁ = { s0 with heap := s0.heap.push { cls := .type "enumerate", data := .fields #[.none, .bool false, .ref it, rawInt 0, .none, .none] } }) PySem.F.called_enumerate (PySem.F.typeCall_enumerate_1 _) PySem.F.entry_object_init ?_ ?_
    · refine codeAny_of_tree ?_
      show wpAny _ X.A.in1.in1 (do checkBuiltinCall "enumerate.__new__" ⟨[.type "enumerate", .ref a], []⟩; again (.builtin "enumerate.__new__" ⟨[.type "enumerate", .ref a], []⟩)) _ _ s1
      refine wpAny_bind (wpAny_of_eq (PySem.F.newCall_enumerate_1 _) (wpAny_pure ⟨plainId_quiet (by decide +kernel) _, codeAny_builtin PySem.F.entry_enumerate_new ?_⟩))
      rw [Around.under_plainId (by decide +kernel) _]
      refine enum_newO hP fun v s0 p => ?_
      obtain ⟨it, p'⟩ := id p
      obtain ⟨t, xs, H2, ev, q⟩ := p'
      subst ev
      exact ⟨s0, it, p, rfl, rfl⟩
    · rintro obj s₂ ⟨s0, it, ⟨it', t, xs, H2, ev, I2, h1, h2, h3⟩, rfl, rfl⟩
      cases ev
      have en : IsEnum (s0.heap.push { cls := .type "enumerate", data := .fields #[.none, .bool false, .ref it, rawInt 0, .none, .none] }) s0.heap.objs.size it 0 .none := Heap.get?_push_size _ rfl
      have ty : ({ s0 with heap := s0.heap.push { cls := .type "enumerate", data := .fields #[.none, .bool false, .ref it, rawInt 0, .none, .none] } } : Shared).TypeIs (.ref s0.heap.objs.size) "enumerate" := ⟨_, en, rfl⟩
      have I3 : Inv X pins σ H2 { s0 with heap := s0.heap.push { cls := .type "enumerate", data := .fields #[.none, .bool false, .ref it, rawInt 0, .none, .none] } } := I2.kept (t' := s0.toks) fun b u q => Heap.get?_push_of_some _ q
      have hit := tiO_get I3 h1
      have I4 : Inv X pins σ (upd H2 it (TiX t it xs.length 0)) { s0 with heap := s0.heap.push { cls := .type "enumerate", data := .fields #[.none, .bool false, .ref it, rawInt 0, .none, .none] } } :=
        I3.write (x := it) (e := it) (t' := s0.toks) (by rw [h1]; exact trivial) (.inl rfl) (fun b u _ q => q) (let ⟨o, ho, _⟩ := hit; ⟨o, ho⟩) (tiX_ok (.inl hit))
      refine ⟨ty, PySem.F.args_object_init_2 _ _, object_init_meets PySem.F.called_enumerate.init.lookup PySem.F.called_enumerate.made (by decide) X.prog X.w X.A.in1 _ _ ⟨ty, rfl, ?_⟩⟩
      refine wpAny_pyIter_enum en ?_
      have fp := I2.fpOk (Nat.le_refl _) (I2.hok.fresh (Nat.le_refl _))
      have ne : s0.heap.objs.size ≠ it := by
        rintro rfl
        have q := fp.1
        rw [h1] at q
        cases q
      refine ⟨s0.heap.objs.size, [s0.heap.objs.size], _, _, _, rfl, I4, turn_enumO t s0.heap.objs.size it xs.length, ⟨.none, en⟩, fun b hb => ?_, h3⟩
      obtain rfl : b = s0.heap.objs.size := by simpa using hb
      obtain ⟨f0, f1, f2, f3, f4, f5⟩ := fp
      exact ⟨by rw [upd_ne ne]; exact f0, f1, f2, f3, f4, f5⟩
end Hn

/-! There -/
/-! who is there: the begins m at the hours of a window, of the stays ns -/
namespace Clk
def th (ns : List Int) (m : Int → Int) (x : Int) : Int := Sum ns.length fun b => m (x - b) * ind (b < S ns (x - b))
theorem Sum_zero_tail (f : Int → Int) (w : Nat) : ∀ n : Nat, w ≤ n → (∀ b : Nat, w ≤ b → b < n → f b = 0) → Sum n f = Sum w f
  | 0, h, _ => by rw [Nat.le_zero.mp h]
  | n + 1, h, z => by
    by_cases e : w = n + 1
    · rw [e]
    · have q := Sum_zero_tail f w n (by omega) fun b h1 h2 => z b h1 (by omega)
      show Sum n f + f (n : Int) = Sum w f
      rw [q, z n (by omega) (by omega), Int.add_zero]
theorem sum_window {ns : List Int} (v : Valid ns) {m : Int → Int} (pm : ∀ x, m (x % (ns.length : Int)) = m x) (x : Int) : ((serving ns x).map m).sum = th ns m x := by
  have e : (serving ns x).map m = ((row (wd ns x) fun k => m (x - k))).reverse := by
    rw [← serving_rev, List.map_reverse, row_map]
    congr 1
    exact row_congr fun i _ => pm _
  rw [e, List.sum_reverse, sum_row]
  unfold th
  rw [Sum_zero_tail _ (wd ns x) ns.length (wd_le ns x) fun b h1 h2 => ?_]
  · refine Sum_congr fun b hb => ?_
    have z := (wd_iff v x (Nat.lt_of_lt_of_le hb (wd_le ns x))).mpr hb
    unfold ind
    rw [if_pos z, Int.mul_one]
  · have z : ¬ ((b : Int) < S ns (x - b)) := fun y => absurd ((wd_iff v x h2).mp y) (by omega)
    unfold ind
    rw [if_neg z, Int.mul_zero]
theorem th_add (ns : List Int) (f g : Int → Int) (x : Int) : th ns (fun y => f y + g y) x = th ns f x + th ns g x := by
  unfold th
  rw [← Sum_add]
  exact Sum_congr fun b _ => Int.add_mul ..
theorem th_congr {ns : List Int} {f g : Int → Int} (h : ∀ y, f y = g y) (x : Int) : th ns f x = th ns g x := by
  rw [show f = g from funext h]
theorem th_per {ns : List Int} {m : Int → Int} (pm : ∀ x, m (x % (ns.length : Int)) = m x) (x : Int) : th ns m (x % (ns.length : Int)) = th ns m x := by
  unfold th
  refine Sum_congr fun b _ => ?_
  have e : (x % (ns.length : Int) - (b : Int)) % (ns.length : Int) = (x - b) % (ns.length : Int) := by rw [Int.sub_emod, Int.emod_emod, ← Int.sub_emod]
  rw [S_mod e, ← pm (x % (ns.length : Int) - b), e, pm]
theorem th_trn {ns : List Int} (hp : 0 < ns.length) (m : Int → Int) (k x : Int) : th (trn ns k) (fun y => m (y + k)) x = th ns m (x + k) := by
  unfold th
  rw [trn_len]
  refine Sum_congr fun b _ => ?_
  show m (x - b + k) * ind ((b : Int) < S (trn ns k) (x - b)) = _
  rw [S_trn hp, show x - (b : Int) + k = x + k - b by omega]
theorem th_nonneg {ns : List Int} {m : Int → Int} (h : ∀ y, 0 ≤ m y) (x : Int) : 0 ≤ th ns m x := by
  unfold th
  generalize ns.length = n
  have z : ∀ b : Int, 0 ≤ m (x - b) * ind (b < S ns (x - b)) := fun b => by
    unfold ind
    split
    · have := h (x - b); omega
    · omega
  have z' : ∀ b : Int, 0 ≤ (fun b : Int => m (x - b) * ind (b < S ns (x - b))) b := z
  generalize (fun b : Int => m (x - b) * ind (b < S ns (x - b))) = f at z'
  induction n with
  | zero => exact Int.le_refl _
  | succ n ih => exact Int.add_nonneg ih (z' _)
end Clk
namespace Hn
open PySem L2
theorem range_pick (l : List Int) (g : Int → Int) : (List.range l.length).map (fun k => V.int (g (l.getD k 0))) = iv (l.map g) := by
  apply List.ext_getElem
  · simp [iv]
  · intro i h1 h2
    have h3 : i < l.length := by simpa using h1
    simp [iv, h3]
def spThere (K : PySem.W.Frag) (CP CC : Addr) : Sp := fun vs H Q _ => ∃ (p c : Addr) (ms ns : List Int), vs = [.ref p, .ref c] ∧ RowAt K CP "_begins" H p ms ∧ ClkAt K CC H c ns ∧ ms.length = ns.length ∧
  ∀ l H', H l = none → Same H H' → H' l = some (.lst (iv (Clk.row ns.length (Clk.th ns (Clk.S ms))))) → Q (.ref l) H'
end Hn
namespace Hn
open PySem L2
/-- a comprehension with a condition over enumerate of an own iterable -/
theorem lc_enumOF {K : PySem.W.Frag} {t it : Addr} {xs : List V} {n : Nat} {tt : TT} {te : TE} {p r : Nat} {σ : L2.St} {H1 : Hp} {D : Addr} {Qd : Hp → Prop} (f : Nat → V) (c : Nat → Bool) (hpr : p ≠ r) (hS : SqT K H1 t xs) (hn : xs.length = n)
    (hI : H1 it = some (TiX t it n 0)) (nD : H1 D = none) (hz : xs.length ≤ 10000)
    (ht : ∀ i (hi : i < xs.length) (H : Hp) (R : Bool → Hp → Prop), But it H1 H → R (c i) H → tt (((wipe σ [p, r]).set p (some (.int (i : Nat)))).set r (some xs[i])) H R)
    (he : ∀ i (hi : i < xs.length) (H : Hp) (R : VK), c i = true → But it H1 H → (∀ H4, Same H H4 → R (f i) H4) → te (((wipe σ [p, r]).set p (some (.int (i : Nat)))).set r (some xs[i])) H R)
    (hd : ∀ H, But it H1 H → H D = some (.lst (((List.range xs.length).filter c).map f)) → Qd H) : LcG (ItEO K t it n) (gTup K 2 (gCons (gName p) (gCons (gName r) gNil))) tt te [p, r] σ H1 D Qd := by
  have nDi : D ≠ it := fun z => by rw [z, hI] at nD; cases nD
  have tn : ∀ {H : Hp}, But it H1 H → SqT K H t xs := fun {H} sm => by
    rcases hS with (h | ⟨o, h⟩) | h
    · exact .inl (.inl (sm _ _ (ne_of h hI fun z => nomatch z) h))
    · exact .inl (.inr ⟨o, sm _ _ (ne_of h hI fun z => nomatch z) h⟩)
    · exact .inr h
  refine ⟨fun i m H => m = xs.length - i ∧ i ≤ xs.length ∧ But it H1 H ∧ H D = some (.lst (((List.range i).filter c).map f)) ∧ H it = some (TiX t it n i), ⟨_, rfl, Nat.zero_le _, But.of (same_new nD), upd_same, by rw [upd_ne nDi.symm]; exact hI⟩, ?_⟩
  rintro i m H ⟨rfl, hi, sm, hD, hIi⟩
  have q := tn sm
  have hlen : (((List.range i).filter c).map f).length ≤ i := by
    rw [List.length_map]
    exact Nat.le_trans (List.length_filter_le _ _) (by rw [List.length_range]; exact Nat.le_refl _)
  by_cases hlt : i < xs.length
  · refine .inr ⟨⟨xs, xs[i], q, List.getElem?_eq_getElem hlt, hn, hIi⟩, fun H' => But it H1 H' ∧ H' D = some (.lst (((List.range (i + 1)).filter c).map f)) ∧ H' it = some (TiX t it n (i + 1)), fun H' p' => ⟨xs.length - (i + 1), by omega, rfl, hlt, p'⟩, ?_⟩
    rintro x H' ⟨T, y, rfl, nT, rfl, hy⟩
    have e := hy xs q
    rw [List.getElem?_eq_getElem hlt] at e
    cases e
    have nTi : T ≠ it := fun z => by rw [z, hIi] at nT; cases nT
    have nTD : T ≠ D := fun z => by rw [z, hD] at nT; cases nT
    have s2 : But it H1 (upd (upd H it (TiX t it n (i + 1))) T (.tup [.int (i : Nat), xs[i]])) := fun b o nb h => by
      have h2 := sm b o nb h
      rw [upd_ne (ne_of_none h2 nT), upd_ne nb]
      exact h2
    have d2 : upd (upd H it (TiX t it n (i + 1))) T (.tup [.int (i : Nat), xs[i]]) D = some (.lst (((List.range i).filter c).map f)) := by rw [upd_ne nTD.symm, upd_ne nDi]; exact hD
    have i2 : upd (upd H it (TiX t it n (i + 1))) T (.tup [.int (i : Nat), xs[i]]) it = some (TiX t it n (i + 1)) := by rw [upd_ne nTi.symm]; exact upd_same
    refine ⟨T, _, rfl, .inl (.inl upd_same), rfl, _, _, rfl, _, _, rfl, rfl, wipe_two _ _ _ hpr _ _, ?_⟩
    generalize upd (upd H it (TiX t it n (i + 1))) T (.tup [.int (i : Nat), xs[i]]) = H5 at s2 d2 i2 ⊢
    refine ht i hlt _ _ s2 ?_
    cases ec : c i with
    | false =>
      refine iteF ⟨s2, ?_, i2⟩
      rw [List.range_succ, List.filter_append, List.filter_cons_of_neg (by rw [ec]; exact Bool.false_ne_true)]
      simpa using d2
    | true =>
      refine iteT (he i hlt H5 _ ec s2 fun H4 s4 => ⟨_, s4 _ _ d2, small_line (by omega), fun b o nb h => ?_, ?_, ?_⟩)
      · rw [upd_ne (ne_of_none h nD)]
        exact s4 _ _ (s2 _ _ nb h)
      · rw [upd_same, List.range_succ, List.filter_append, List.filter_cons_of_pos (by rw [ec])]
        simp
      · rw [upd_ne nDi.symm]
        exact s4 _ _ i2
  · obtain rfl : i = xs.length := by omega
    exact .inl ⟨⟨xs, q, Nat.le_refl _, hn, hIi⟩, hd H sm hD⟩
end Hn
namespace Clk
/-- the ascending hours of which c holds -/
def pick (n : Nat) (c : Int → Bool) : List Int := ((List.range n).filter fun i : Nat => c (i : Int)).map fun i : Nat => (i : Int)
theorem mem_pick {n : Nat} {c : Int → Bool} {i : Nat} (h : i < n) : (i : Int) ∈ pick n c ↔ c i = true := by
  unfold pick
  rw [List.mem_map]
  constructor
  · rintro ⟨j, hj, e⟩
    rw [List.mem_filter] at hj
    obtain rfl : j = i := by omega
    exact hj.2
  · exact fun q => ⟨i, List.mem_filter.mpr ⟨List.mem_range.mpr h, q⟩, rfl⟩
theorem pick_len (n : Nat) (c : Int → Bool) : (pick n c).length ≤ n := by
  unfold pick
  rw [List.length_map]
  exact Nat.le_trans (List.length_filter_le _ _) (by rw [List.length_range]; exact Nat.le_refl _)
theorem pick_nil {n : Nat} {c : Int → Bool} : pick n c = [] ↔ ∀ i : Nat, i < n → c i = false := by
  unfold pick
  rw [List.map_eq_nil_iff, List.filter_eq_nil_iff]
  constructor
  · exact fun q i hi => by
      have z := q i (List.mem_range.mpr hi)
      simpa using z
  · exact fun q i hi => by
      rw [q i (List.mem_range.mp hi)]
      exact Bool.false_ne_true
end Clk
namespace Hn
open PySem L2
theorem pick_iv (n : Nat) (c : Int → Bool) : ((List.range n).filter fun i : Nat => c (i : Int)).map (fun i : Nat => V.int (i : Int)) = iv (Clk.pick n c) := by
  unfold iv Clk.pick
  rw [List.map_map]
  rfl
/-- who is lacking -/
def lk (ns ms ds : List Int) : List Int := Clk.pick ns.length fun x => decide (Clk.th ns (Clk.S ms) x < Clk.S ds x)
def spLacking (K : PySem.W.Frag) (CP CC CN : Addr) : Sp := fun vs H Q _ => ∃ (p c d : Addr) (ms ns ds : List Int), vs = [.ref p, .ref c, .ref d] ∧ RowAt K CP "_begins" H p ms ∧ ClkAt K CC H c ns ∧ RowAt K CN "_row" H d ds ∧ ms.length = ns.length ∧ ds.length = ns.length ∧
  ∀ l H', H l = none → Same H H' → H' l = some (.lst (iv (lk ns ms ds))) → Q (.ref l) H'
end Hn

/-! EvP -/
/-! plans and clocks, evaluated: who is there, who is lacking -/
namespace Hn
open PySem PySem.Spec L2 Evl
/-- the same on each day -/
abbrev per (n : Nat) (g : Int → Int) : Int → Int := fun y => g (y % (n : Int))
theorem S_per {n : Nat} (hn : 0 < n) (g : Int → Int) : Clk.S (Clk.row n g) = per n g := funext fun x => Clk.S_row hn x
theorem per_per (n : Nat) (g : Int → Int) (x : Int) : per n g (x % (n : Int)) = per n g x := by
  show g (x % (n : Int) % (n : Int)) = g (x % (n : Int))
  rw [Int.emod_emod]
/-- a clock comes out -/
def EvC (K : PySem.W.Frag) (CC : Addr) (te : TE) (σ : L2.St) (H : Hp) (ns : List Int) : Prop :=
  ∀ H1, Ex H H1 → ∀ Q : VK, (∀ c H2, Ex H1 H2 → ClkAt K CC H2 c ns → Q (.ref c) H2) → te σ H1 Q
def lackP (ns : List Int) (g a : Int → Int) : List Int := Clk.pick ns.length fun x => decide (Clk.th ns (per ns.length g) x < per ns.length a x)
def spEnough (K : PySem.W.Frag) (CP CC CN : Addr) : Sp := fun vs H Q _ => ∃ (p c d : Addr) (ms ns ds : List Int), vs = [.ref p, .ref c, .ref d] ∧ RowAt K CP "_begins" H p ms ∧ ClkAt K CC H c ns ∧ RowAt K CN "_row" H d ds ∧ ms.length = ns.length ∧ ds.length = ns.length ∧
  ∀ H', Same H H' → Q (.bl (decide (lk ns ms ds = []))) H'
section
variable {K : PySem.W.Frag} {CP CC CN : Addr} {n : Nat} {σ : L2.St} {H H' : Hp} {ta tb tc te : TE} {f g g1 g2 a : Int → Int} {ns : List Int}
theorem ec_var {i : Nat} {c : Addr} (h : σ[i]? = some (some (.ref c))) (hC : ClkAt K CC H c ns) : EvC K CC (tVar i) σ H ns := fun H1 e Q q => ⟨_, h, q c H1 (Ex.refl H1) (hC.same e)⟩
theorem lk_row {ns : List Int} (hn : 0 < ns.length) (g a : Int → Int) : lk ns (Clk.row ns.length g) (Clk.row ns.length a) = lackP ns g a := by
  unfold lk lackP
  rw [S_per hn, S_per hn]
theorem look_other {m f : Str} {v : V} (hm : m ≠ f) : List.lookup m [(f, v)] = none := by
  rw [List.lookup_cons, show (m == f) = false from beq_eq_false_iff_ne.mpr hm]
  rfl
theorem el_there {E : XK} (ha : EvR K CP "_begins" ns.length ta σ H g) (hb : EvC K CC tb σ H ns) : EvL (tMeth CP "there" (spThere K CP CC) [] E ta (tCons tb tNil)) σ H (iv (Clk.row ns.length (Clk.th ns (per ns.length g)))) := fun H1 e Q q =>
  ha H1 e _ fun p H2 e2 hP => by
    obtain ⟨dx, t, h1, _⟩ := hP.ex
    refine ⟨p, dx, _, rfl, h1, look_other (by decide +kernel), hb H2 (e.trans e2) _ fun c H3 e3 hC => ⟨p, c, _, ns, rfl, hP.same e3, hC, by rw [Clk.row_len], fun l H4 nl e4 hl => q l H4 ?_ ((e2.trans e3).trans e4) ?_⟩⟩
    · exact fresh_back (e2.trans e3) nl
    · rw [S_per (row_pos hP)] at hl
      exact hl
theorem el_lack {E : XK} (ha : EvR K CP "_begins" ns.length ta σ H g) (hb : EvC K CC tb σ H ns) (hc : EvR K CN "_row" ns.length tc σ H a) :
    EvL (tMeth CP "lacking" (spLacking K CP CC CN) [] E ta (tCons tb (tCons tc tNil))) σ H (iv (lackP ns g a)) := fun H1 e Q q =>
  ha H1 e _ fun p H2 e2 hP => by
    obtain ⟨dx, t, h1, _⟩ := hP.ex
    refine ⟨p, dx, _, rfl, h1, look_other (by decide +kernel), hb H2 (e.trans e2) _ fun c H3 e3 hC => hc H3 ((e.trans e2).trans e3) _ fun d H4 e4 hD => ⟨p, c, d, _, ns, _, rfl, (hP.same e3).same e4, hC.same e4, hD, by rw [Clk.row_len], by rw [Clk.row_len], fun l H5 nl e5 hl => q l H5 ?_ (((e2.trans e3).trans e4).trans e5) ?_⟩⟩
    · exact fresh_back ((e2.trans e3).trans e4) nl
    · rw [lk_row (row_pos hP)] at hl
      exact hl
theorem ev_enough {E : XK} (ha : EvR K CP "_begins" ns.length ta σ H g) (hb : EvC K CC tb σ H ns) (hc : EvR K CN "_row" ns.length tc σ H a) :
    Ev (tMeth CP "is_enough" (spEnough K CP CC CN) [] E ta (tCons tb (tCons tc tNil))) σ H (.bl (decide (lackP ns g a = []))) := fun H1 e Q q =>
  ha H1 e _ fun p H2 e2 hP => by
    obtain ⟨dx, t, h1, _⟩ := hP.ex
    refine ⟨p, dx, _, rfl, h1, look_other (by decide +kernel), hb H2 (e.trans e2) _ fun c H3 e3 hC => hc H3 ((e.trans e2).trans e3) _ fun d H4 e4 hD => ⟨p, c, d, _, ns, _, rfl, (hP.same e3).same e4, hC.same e4, hD, by rw [Clk.row_len], by rw [Clk.row_len], fun H5 e5 => ?_⟩⟩
    rw [lk_row (row_pos hP)]
    exact q H5 (((e2.trans e3).trans e4).trans e5)
theorem ev_neI {xs ys : List Int} (ha : EvL ta σ H (iv xs)) (hb : EvL tb σ H (iv ys)) : Ev (tOp (rNeD K) ta tb) σ H (.bl (!decide (xs = ys))) :=
  ev_opLL ha hb fun p q H1 hp hq _ H2 e2 Q k => ⟨dI xs, dI ys, Dp.ints (SqL.of (e2 _ _ hp)), Dp.ints (SqL.of (e2 _ _ hq)), shaped_I _, shaped_I _, by rw [eqv_I]; exact k H2 (Ex.refl H2)⟩
theorem ev_eqI {xs ys : List Int} (ha : EvL ta σ H (iv xs)) (hb : EvL tb σ H (iv ys)) : Ev (tOp (rEqD K) ta tb) σ H (.bl (decide (xs = ys))) :=
  ev_opLL ha hb fun p q H1 hp hq _ H2 e2 Q k => ⟨dI xs, dI ys, Dp.ints (SqL.of (e2 _ _ hp)), Dp.ints (SqL.of (e2 _ _ hq)), shaped_I _, shaped_I _, by rw [eqv_I]; exact k H2 (Ex.refl H2)⟩
/-- l != l' : not so -/
theorem et_sameI {xs ys : List Int} (ha : EvL ta σ H (iv xs)) (hb : EvL tb σ H (iv ys)) (h : xs = ys) : EvT (tTest (tOp (rNeD K) ta tb)) σ H false :=
  et_f (ev_neI ha hb) (by rw [decide_eq_true h]; rfl)
theorem el_cat {p q : Addr} {xs ys : List V} (ha : Ev ta σ H (.ref p)) (hb : Ev tb σ H (.ref q)) (hp : H p = some (.lst xs)) (hq : H q = some (.lst ys)) (hz : xs.length + ys.length ≤ 10000) : EvL (tOp rCat ta tb) σ H (xs ++ ys) := fun H1 e Q k =>
  ha H1 e _ fun H2 e2 => hb H2 (e.trans e2) _ fun H3 e3 => ⟨p, q, xs, ys, rfl, rfl, ((e.trans e2).trans e3) _ _ hp, ((e.trans e2).trans e3) _ _ hq, small_line' hz, fun r nr => k r _ (fresh_back (e2.trans e3) nr) ((e2.trans e3).trans (Ex.new nr)) upd_same⟩
/-- a, b = l, l' : of two new lists -/
theorem q_par2L {D : Ends} {tz : TS} {i j : Nat} {xs ys : List V} (ha : EvL ta σ H xs) (hb : EvL tb σ H ys)
    (k : ∀ p q H1, Ex H H1 → H1 p = some (.lst xs) → H1 q = some (.lst ys) → tz D ((σ.set i (some (.ref p))).set j (some (.ref q))) H1) :
    tSeq (tAsg (tTup (tCons ta (tCons tb tNil))) (gTup K 2 (gCons (gName i) (gCons (gName j) gNil)))) tz D σ H :=
  ha H (Ex.refl H) _ fun p H1 _ e1 hp => hb H1 e1 _ fun q H2 _ e2 hq => ⟨by show 2 ≤ sizeLine; decide, fun t nt => ⟨t, _, rfl, .inl (.inl upd_same), rfl, _, _, rfl, _, _, rfl, rfl, k p q _ ((e1.trans e2).trans (Ex.new nt)) ((Ex.new nt) _ _ (e2 _ _ hp)) ((Ex.new nt) _ _ hq)⟩⟩
theorem given_row (n : Nat) (g : Int → Int) : given n (fun _ => true) (fun i => V.int (g (i : Int))) = iv (Clk.row n g) := by
  unfold given
  rw [List.filter_eq_self.mpr fun _ _ => rfl]
  unfold iv Clk.row
  rw [List.map_map]
  rfl
theorem el_rowI {j : Nat} {vs : List Nat} (g : Int → Int) (h : Ev tb σ H (.int (n : Nat))) (hn : n ≤ 40000) (hw : ∀ x, wipe ((wipe σ vs).set j (some x)) vs = wipe σ vs)
    (he : ∀ i : Nat, i < n → ∀ H1, Ex H H1 → Ev te ((wipe σ vs).set j (some (.int (i : Int)))) H1 (.int (g i))) : EvL (tLc (iRng1 (tCons tb tNil)) (gName j) tYes te vs) σ H (iv (Clk.row n g)) := by
  have q := el_lcR1 (t := tYes) (te := te) (j := j) (vs := vs) (fun _ => true) (fun i => V.int (g (i : Int))) (ea_cons h ea_nil) ⟨Int.natCast_nonneg n, by omega⟩ hw (fun i H1 e hi => fun H2 e2 Q k => k H2 (Ex.refl H2)) fun i H1 e hi _ => he i (by omega) H1 e
  rw [Int.toNat_natCast, given_row] at q
  exact q
theorem el_pickI {j : Nat} {vs : List Nat} {t : TT} (c : Int → Bool) (h : Ev tb σ H (.int (n : Nat))) (hn : n ≤ 40000) (hw : ∀ x, wipe ((wipe σ vs).set j (some x)) vs = wipe σ vs)
    (ht : ∀ i : Nat, i < n → ∀ H1, Ex H H1 → EvT t ((wipe σ vs).set j (some (.int (i : Int)))) H1 (c i))
    (he : ∀ i : Nat, i < n → ∀ H1, Ex H H1 → Ev te ((wipe σ vs).set j (some (.int (i : Int)))) H1 (.int i)) : EvL (tLc (iRng1 (tCons tb tNil)) (gName j) t te vs) σ H (iv (Clk.pick n c)) := by
  have q := el_lcR1 (t := t) (te := te) (j := j) (vs := vs) (fun i => c (i : Int)) (fun i => V.int (i : Int)) (ea_cons h ea_nil) ⟨Int.natCast_nonneg n, by omega⟩ hw (fun i H1 e hi => ht i (by omega) H1 e) fun i H1 e hi _ => he i (by omega) H1 e
  rw [Int.toNat_natCast, show given n (fun i => c (i : Int)) (fun i => V.int (i : Int)) = iv (Clk.pick n c) from pick_iv n c] at q
  exact q
theorem given_filter (l : List Int) (c : Int → Bool) : given l.length (fun i => c (l.getD i 0)) (fun i => V.int (l.getD i 0)) = iv (l.filter c) := by
  have e : l = (List.range l.length).map fun i => l.getD i 0 := by
    apply List.ext_getElem
    · simp
    · intro i h1 h2
      simp [h1]
  unfold given iv
  conv => rhs; rw [e, List.filter_map, List.map_map]
  rfl
theorem el_filtI {j : Nat} {vs : List Nat} {t : TT} {p : Addr} {l : List Int} (c : Int → Bool) (h : Ev tb σ H (.ref p)) (hp : SqL K H p (iv l)) (hz : l.length ≤ 40000) (hw : ∀ x, wipe ((wipe σ vs).set j (some x)) vs = wipe σ vs)
    (ht : ∀ x ∈ l, ∀ H1, Ex H H1 → EvT t ((wipe σ vs).set j (some (.int x))) H1 (c x))
    (he : ∀ x ∈ l, ∀ H1, Ex H H1 → Ev te ((wipe σ vs).set j (some (.int x))) H1 (.int x)) : EvL (tLc (iList K tb) (gName j) t te vs) σ H (iv (l.filter c)) := by
  have pick : ∀ {i : Nat} {x : V}, (iv l)[i]? = some x → x = .int (l.getD i 0) ∧ l.getD i 0 ∈ l := fun {i x} hx => by
    obtain ⟨hi, e⟩ := List.getElem?_eq_some_iff.mp hx
    have hi' : i < l.length := by rwa [iv_len] at hi
    have z : l.getD i 0 = l[i] := by simp [hi']
    rw [z]
    refine ⟨?_, List.getElem_mem _⟩
    rw [← e]
    exact List.getElem_map ..
  have q := el_lcL (K := K) (t := t) (te := te) (j := j) (vs := vs) (xs := iv l) (fun i => c (l.getD i 0)) (fun i => V.int (l.getD i 0)) h hp (by rw [iv_len]; exact hz) hw (fun i x H1 e hx => by
    obtain ⟨rfl, m⟩ := pick hx
    exact ht _ m H1 e) (fun i x H1 e hx _ => by
    obtain ⟨rfl, m⟩ := pick hx
    exact he _ m H1 e)
  rw [iv_len, given_filter] at q
  exact q
theorem ev_inI {p : Addr} {l : List Int} {x : Int} (ha : Ev ta σ H (.int x)) (hb : Ev tb σ H (.ref p)) (h : SqL K H p (iv l)) : Ev (tOp (rIn K false) ta tb) σ H (.bl (decide (x ∈ l))) := by
  have q := ev_op ha hb (rv_isL (K := K) h rfl (flat_iv l))
  rw [inV_int] at q
  exact q
theorem ev_inLI {l : List Int} {x : Int} (ha : Ev ta σ H (.int x)) (hb : EvL tb σ H (iv l)) : Ev (tOp (rIn K false) ta tb) σ H (.bl (decide (x ∈ l))) := by
  have q := ev_opL ha hb fun p H1 hp _ => rv_isL (K := K) (SqL.of hp) rfl (flat_iv l)
  rw [inV_int] at q
  exact q
/-- C(l) of a list of a row -/
theorem er_make {C u : Addr} {fn : Str} {E : XK} (ha : Ev ta σ H (.ref u)) (hu : SqL K H u (iv (Clk.row n g))) (pos : 0 < n) (top : n ≤ 48) (low : ∀ i : Nat, i < n → 0 ≤ g i) : EvR K C fn n (tMake C (spRowInit K C fn) [] E (tCons ta tNil)) σ H g := fun H1 e Q q =>
  ha H1 e _ fun H2 e2 => fun x dx nx nd nex => ⟨x, dx, u, _, rfl, upd_same, made_ints nx nd (.inl (ex_l (e.trans e2) hu)), by rw [Clk.row_len]; exact pos, by rw [Clk.row_len]; exact top, fun y hy => by
    obtain ⟨i, hi, rfl⟩ := Clk.mem_row.mp hy
    exact low i hi, fun H' kb hC => ⟨rfl, q x H' (e2.trans (made_same nx nd kb)) hC⟩⟩
theorem ev_isT {b : Bool} (ha : Ev ta σ H (.bl b)) (h : b = true) : Ev (tOp (fun x y H Q => ∃ a b, x = V.bl a ∧ y = V.bl b ∧ Q (V.bl (decide (a = b))) H) ta (tC (V.bl true))) σ H (.bl true) := fun H1 e Q q =>
  ha H1 e _ fun H2 e2 => ⟨b, true, rfl, rfl, by rw [decide_eq_true h]; exact q H2 e2⟩
theorem sum_per {n : Nat} (hn : 0 < n) (f : Int → Int) (k : Int) : Clk.Sum n (fun x => f ((x + k) % (n : Int))) = Clk.Sum n f := by
  have pr : ∀ x : Int, (fun x : Int => f (x % (n : Int))) (x + n) = (fun x : Int => f (x % (n : Int))) x := fun x => by
    show f ((x + n) % (n : Int)) = f (x % (n : Int))
    rw [Int.add_emod_right]
  have h0 := Int.emod_nonneg (-k) (show (n : Int) ≠ 0 by omega)
  obtain ⟨b, hb⟩ := Int.eq_ofNat_of_zero_le h0
  have e := Clk.Sum_shift (n := n) (g := fun x : Int => f (x % (n : Int))) pr b
  have e2 : Clk.Sum n (fun x : Int => f ((x - (b : Int)) % (n : Int))) = Clk.Sum n (fun x : Int => f (x % (n : Int))) := e
  have e3 : ∀ x : Int, (x - (b : Int)) % (n : Int) = (x + k) % (n : Int) := fun x => by
    have hb' : (b : Int) = (-k) % (n : Int) := hb.symm
    rw [hb', Int.sub_emod, Int.emod_emod, ← Int.sub_emod, show x - -k = x + k by omega]
  rw [Clk.Sum_congr (g := fun x : Int => f ((x - (b : Int)) % (n : Int))) fun i _ => by rw [e3], e2]
  exact Clk.Sum_congr fun i hi => by rw [Int.emod_eq_of_lt (by omega) (by omega)]
theorem all_per {n : Nat} (hn : 0 < n) {P : Int → Prop} (hp : ∀ x : Int, P (x % (n : Int)) ↔ P x) : (∀ i : Nat, i < n → P (i : Int)) ↔ ∀ x : Int, P x := by
  refine ⟨fun h x => ?_, fun h i _ => h i⟩
  have z0 := Int.emod_nonneg x (show (n : Int) ≠ 0 by omega)
  have z1 := Int.emod_lt_of_pos x (show 0 < (n : Int) by omega)
  obtain ⟨k, hk⟩ := Int.eq_ofNat_of_zero_le z0
  refine (hp x).mp ?_
  rw [hk]
  exact h k (by omega)
/-- o.turned(k) -/
theorem er_turnM {C : Addr} {fn m : Str} {E : XK} {k : Int} (ha : EvR K C fn n ta σ H g) (hb : Ev tb σ H (.int k)) (hm : m ≠ fn) : EvR K C fn n (tMeth C m (spRowTurn K C fn fun k => k) [] E ta (tCons tb tNil)) σ H (fun x => g ((x + k) % (n : Int))) := fun H1 e Q q =>
  ha H1 e _ fun p H2 e2 hP => by
    obtain ⟨dx, t, h1, _⟩ := hP.ex
    refine ⟨p, dx, _, rfl, h1, look_other hm, hb H2 (e.trans e2) _ fun H3 e3 => ⟨p, _, k, rfl, hP.same e3, fun r H4 nr e4 hR => q r H4 ((e2.trans e3).trans e4) ?_⟩⟩
    rw [row_trn (row_pos hP)] at hR
    exact hR
/-- a, b = o, l -/
theorem q_parRL {D : Ends} {tz : TS} {C : Addr} {fn : Str} {i j : Nat} {ys : List V} (ha : EvR K C fn n ta σ H g) (hb : EvL tb σ H ys)
    (k : ∀ p q H1, Ex H H1 → RowAt K C fn H1 p (Clk.row n g) → H1 q = some (.lst ys) → tz D ((σ.set i (some (.ref p))).set j (some (.ref q))) H1) :
    tSeq (tPar i j (tCons ta (tCons tb tNil))) tz D σ H :=
  ha H (Ex.refl H) _ fun p H1 e1 hp => hb H1 e1 _ fun q H2 _ e2 hq => ⟨_, _, rfl, k p q _ (e1.trans e2) (hp.same e2) hq⟩
end
end Hn
namespace Clk
theorem pick_congr {n : Nat} {c d : Int → Bool} (h : ∀ i : Nat, i < n → c i = d i) : pick n c = pick n d := by
  unfold pick
  rw [List.filter_congr fun i hi => h i (List.mem_range.mp hi)]
theorem pick_filter (n : Nat) (c d : Int → Bool) : (pick n c).filter d = pick n fun x => c x && d x := by
  unfold pick
  rw [List.filter_map, List.filter_filter]
  congr 1
  refine List.filter_congr fun i _ => ?_
  exact Bool.and_comm ..
end Clk

/-! RepB -/
/-! how data are shown, with great ints -/
namespace Hn
open PySem PySem.Spec L2 Evl
open PyProof.Rows hiding St
theorem log2_small {i : Int} (h0 : 0 ≤ i) (h1 : i < 10 ^ 102) : i.natAbs.log2 < 1920 := by
  by_cases z : i.natAbs = 0
  · rw [z]
    decide
  · refine (Nat.log2_lt z).mpr (Nat.lt_of_lt_of_le (show i.natAbs < 10 ^ 102 by omega) ?_)
    decide
theorem Fine.big {i : Int} (h0 : 0 ≤ i) (h1 : i < 10 ^ 102) : Fine 0 102 (.int i) where
  lay := rfl
  show_ := decide_eq_true (log2_small h0 h1)
  nod := rfl
  dep := Nat.le_refl _
  len := toString_length_le h0 (by decide) h1
theorem fineB {ns : List Int} (h : ns.length ≤ 50) (hb : ∀ x ∈ ns, 0 ≤ x ∧ x < 10 ^ 102) : Fine 1 6000 (dI ns) := by
  have z := Fine.list (n := 0) (m := 102) (k := 50) (ds := ns.map PyData.int) (fun d hd => by
    obtain ⟨i, hi, rfl⟩ := List.mem_map.mp hd
    exact Fine.big (hb i hi).1 (hb i hi).2) (by rw [List.length_map]; exact h)
  exact ⟨z.lay, z.show_, z.nod, z.dep, Nat.le_trans z.len (by decide)⟩
theorem fineBL {rows : List (List Int)} (h : rows.length ≤ 50) (hb : ∀ r ∈ rows, r.length ≤ 50 ∧ ∀ x ∈ r, 0 ≤ x ∧ x < 10 ^ 102) : Fine 2 1000000 (dL rows) := by
  have z := Fine.list (n := 1) (m := 6000) (k := 50) (ds := rows.map dI) (fun d hd => by
    obtain ⟨r, hr, rfl⟩ := List.mem_map.mp hd
    exact fineB (hb r hr).1 (hb r hr).2) (by rw [List.length_map]; exact h)
  exact ⟨z.lay, z.show_, z.nod, z.dep, Nat.le_trans z.len (by decide)⟩
section
variable {K : PySem.W.Frag} {σ : L2.St} {H : Hp} {ta tb : TE} {d : PyData} {n m : Nat}
/-- repr of data -/
theorem ev_reprD {p : Addr} (ha : Ev ta σ H (.ref p)) (hp : ∀ H1, Ex H H1 → Dp K H1 (.ref p) d) (hf : Fine n m d) (hn : n ≤ 60) (hm : m ≤ 16777216) : Ev (tCB (rRepr K) (tCons ta tNil)) σ H (.str d.shown) := fun H1 e Q q =>
  ha H1 e _ fun H2 e2 => ⟨p, d, rfl, hp H2 (e.trans e2), hf.show_, hf.nod, by have := hf.dep; omega, by rw [sizeLine_eq]; exact Nat.le_trans hf.len hm, q H2 e2⟩
/-- repr of a list of ints -/
theorem ev_reprI {p : Addr} {ns : List Int} (ha : Ev ta σ H (.ref p)) (hp : SqL K H p (iv ns)) (h : ns.length ≤ 50) (hb : ∀ x ∈ ns, 0 ≤ x ∧ x < 10 ^ 102) : Ev (tCB (rRepr K) (tCons ta tNil)) σ H (.str (dI ns).shown) :=
  ev_reprD ha (fun H1 e => Dp.ints (ex_l e hp)) (fineB h hb) (by decide) (by decide)
theorem ev_reprLI {ns : List Int} (ha : EvL ta σ H (iv ns)) (h : ns.length ≤ 50) (hb : ∀ x ∈ ns, 0 ≤ x ∧ x < 10 ^ 102) : Ev (tCB (rRepr K) (tCons ta tNil)) σ H (.str (dI ns).shown) := fun H1 e Q q =>
  ha H1 e _ fun p H2 np e2 hp => ⟨p, dI ns, rfl, Dp.ints (sq_of hp), (fineB h hb).show_, (fineB h hb).nod, by have := (fineB h hb).dep; omega, by rw [sizeLine_eq]; exact Nat.le_trans (fineB h hb).len (by decide), q H2 e2⟩
/-- texts unlike: not so -/
theorem et_sameS {x y : Str} (ha : Ev ta σ H (.str x)) (hb : Ev tb σ H (.str y)) (h : x = y) : EvT (tTest (tOp rNe ta tb)) σ H false := by
  subst h
  exact et_f (b := !decide (V.str x = V.str x)) (ev_op ha hb fun H1 _ Q q => ⟨rfl, q H1 (Ex.refl H1)⟩) (by rw [decide_eq_true rfl]; rfl)
theorem et_sameN {x y : Int} (ha : Ev ta σ H (.int x)) (hb : Ev tb σ H (.int y)) (h : x = y) : EvT (tTest (tOp rNe ta tb)) σ H false := by
  subst h
  exact et_f (b := !decide (V.int x = V.int x)) (ev_op ha hb fun H1 _ Q q => ⟨rfl, q H1 (Ex.refl H1)⟩) (by rw [decide_eq_true rfl]; rfl)
end
section
variable {K : PySem.W.Frag} {C : Addr} {f : Str} {n : Nat} {σ : L2.St} {H : Hp} {ta tb : TE} {g : Int → Int}
/-- list(o) of an object that holds a row -/
theorem el_ownR {EI EL : XK} (ha : EvR K C f n ta σ H g) : EvL (tCB (rOwnList K C (spRowIter K C f) (spRowLen K C f) EI EL) (tCons ta tNil)) σ H (iv (Clk.row n g)) := fun H1 e Q k =>
  ha H1 e _ fun p H2 e2 hP => by
    obtain ⟨dx, t, h1, h2⟩ := hP.ex
    have top := hP.top
    refine ⟨p, rfl, ⟨dx, _, h1⟩, fun q nq => ⟨⟨dx, _, same_new nq _ _ h1⟩, p, dx, t, _, rfl, same_new nq _ _ h1, (same_new nq |> fun s => Same.set s h2), fun it nit => ?_⟩⟩
    have nq' : q ≠ it := fun z => by rw [z, upd_same] at nit; cases nit
    have s1 : Same H2 (upd (upd H2 q (.lst [])) it (TiO t it 0)) := (same_new nq).trans (same_new nit)
    have hP1 := hP.same s1
    refine ⟨it, t, _, rfl, upd_same, Same.set s1 h2, by rw [iv_len]; omega, ⟨dx, _, s1 _ _ h1⟩, by rw [upd_ne nq']; exact upd_same, p, _, rfl, hP1, _, rfl, by omega, by omega, upd_same, Same.set s1 h2, by rw [upd_ne nq']; exact upd_same, fun H3 kk hq => ?_⟩
    exact k q H3 (fresh_back e2 nq) (e2.trans fun b o hb => kk b o (ne_of_none hb nq) (ne_of_none (same_new nq b o hb) nit) (s1 b o hb)) hq
/-- [x] * n -/
theorem el_repI {s : Int} (ha : Ev ta σ H (.int s)) (hb : Ev tb σ H (.int (n : Nat))) (n1 : n ≤ 10000) : EvL (tOp rRep (tLst (tCons ta tNil)) tb) σ H (iv (Clk.row n fun _ => s)) := fun H1 e Q q =>
  el_lst (ea_cons ha ea_nil) (by show 1 ≤ 100000; decide) H1 e _ fun l H2 nl e2 hl => hb H2 (e.trans e2) _ fun H3 e3 => ⟨l, n, _, rfl, rfl, e3 _ _ hl, by omega, by omega, by
    rw [Int.toNat_natCast]
    exact small_line' (by simp; omega), fun p np => q p _ (fresh_back (e2.trans e3) np) ((e2.trans e3).trans (Ex.new np)) (by
      rw [upd_same, Int.toNat_natCast]
      have z : ∀ n : Nat, (List.replicate n [V.int s]).flatten = iv (List.replicate n s) := fun n => by
        unfold iv
        induction n with
        | zero => rfl
        | succ n ih =>
          rw [List.replicate_succ, List.replicate_succ, List.flatten_cons, List.map_cons, ih]
          rfl
      rw [z]
      unfold Clk.row
      rw [List.map_const', List.length_range])⟩
end
/-- a row with another number at place h -/
theorem cut_row {n : Nat} {g : Int → Int} {h : Nat} (hh : h < n) (y : Int) : cutV (iv (Clk.row n g)) none (some (h : Int)) ++ [V.int y] ++ cutV (iv (Clk.row n g)) (some ((h : Int) + 1)) none = iv (Clk.row n fun i => if i = (h : Int) then y else g i) := by
  have l : (iv (Clk.row n g)).length = n := by rw [iv_len, Clk.row_len]
  rw [cut_hi (by omega), show (h : Int) + 1 = ((h + 1 : Nat) : Int) by omega, cut_lo (by omega), List.append_assoc]
  show (iv (Clk.row n g)).take h ++ V.int y :: (iv (Clk.row n g)).drop (h + 1) = _
  have z : (iv (Clk.row n g)).set h (V.int y) = (iv (Clk.row n g)).take h ++ V.int y :: (iv (Clk.row n g)).drop (h + 1) := by
    rw [List.set_eq_take_append_cons_drop, if_pos (by omega)]
  rw [← z]
  apply List.ext_getElem
  · rw [List.length_set, iv_len, iv_len, Clk.row_len, Clk.row_len]
  · intro i h1 h2
    rw [List.length_set, l] at h1
    rw [List.getElem_set]
    have at_ : ∀ (f : Int → Int) (q : i < (iv (Clk.row n f)).length), (iv (Clk.row n f))[i] = V.int (f i) := fun f q => by
      unfold iv Clk.row
      simp
    by_cases e : h = i
    · subst e
      rw [if_pos rfl, at_, if_pos rfl]
    · rw [if_neg e, at_, at_, if_neg (by omega)]
end Hn

/-! Settle -/
/-! links that raise marks, round after round: what is reached, and what goes round when there is no end -/
namespace Hn.Stl
/-- a link asks that mark l reaches w more than mark f -/
structure Lk (α : Type) where
  f : Int
  l : Int
  w : Int
  nm : α
variable {α : Type}
/-- the links lead from a to b, one behind another -/
def Path : Int → List (Lk α) → Int → Prop
  | a, [], b => a = b
  | a, k :: ks, b => k.f = a ∧ Path k.l ks b
def wt (ks : List (Lk α)) : Int := (ks.map Lk.w).sum
theorem wt_cons (k : Lk α) (ks : List (Lk α)) : wt (k :: ks) = k.w + wt ks := by
  unfold wt
  rw [List.map_cons, List.sum_cons]
theorem wt_append (ks js : List (Lk α)) : wt (ks ++ js) = wt ks + wt js := by
  unfold wt
  rw [List.map_append, List.sum_append]
theorem Path.append : ∀ {ks js : List (Lk α)} {a b c : Int}, Path a ks b → Path b js c → Path a (ks ++ js) c
  | [], _, _, _, _, h, h2 => by
    obtain rfl : _ = _ := h
    exact h2
  | _ :: _, _, _, _, _, ⟨h, r⟩, h2 => ⟨h, r.append h2⟩
/-- what meets all links lets no path ask for more -/
theorem path_le {S : Int → Int} : ∀ {ks : List (Lk α)} {a b : Int}, Path a ks b → (∀ k ∈ ks, S k.f + k.w ≤ S k.l) → S a + wt ks ≤ S b
  | [], a, b, h, _ => by
    obtain rfl : a = b := h
    show S a + 0 ≤ S a
    omega
  | k :: ks, a, b, ⟨h, r⟩, g => by
    have z := path_le r fun x hx => g x (List.mem_cons_of_mem _ hx)
    have y := g k List.mem_cons_self
    rw [wt_cons]
    subst h
    omega
def upI {β : Type} (g : Int → β) (i : Int) (v : β) : Int → β := fun j => if j = i then v else g j
theorem upI_same {β : Type} {g : Int → β} {i : Int} {v : β} : upI g i v i = v := if_pos rfl
theorem upI_ne {β : Type} {g : Int → β} {i j : Int} {v : β} (h : j ≠ i) : upI g i v j = g j := if_neg h
/-- what the marks reach, by which link, and which mark was raised last -/
structure Sg (α : Type) where
  R : Int → Int
  T : Int → Option (Lk α)
  r : Option Int
def step (s : Sg α) (k : Lk α) : Sg α := if s.R k.l < s.R k.f + k.w then ⟨upI s.R k.l (s.R k.f + k.w), upI s.T k.l (some k), some k.l⟩ else s
theorem step_up {s : Sg α} {k : Lk α} (h : s.R k.l < s.R k.f + k.w) : step s k = ⟨upI s.R k.l (s.R k.f + k.w), upI s.T k.l (some k), some k.l⟩ := if_pos h
theorem step_no {s : Sg α} {k : Lk α} (h : ¬ s.R k.l < s.R k.f + k.w) : step s k = s := if_neg h
def go (ls : List (Lk α)) (s : Sg α) : Sg α := ls.foldl step { s with r := none }
/-- the state after so many rounds -/
def rnd (ls : List (Lk α)) (R0 : Int → Int) : Nat → Sg α
  | 0 => ⟨R0, fun _ => none, none⟩
  | k + 1 => go ls (rnd ls R0 k)
/-- from mark m back along what raised it, so many links, to mark m', which ask for W together -/
inductive Back (T : Int → Option (Lk α)) : Int → Nat → Int → Int → Prop
  | nil (m : Int) : Back T m 0 m 0
  | cons {m m' : Int} {j : Nat} {W : Int} {k : Lk α} (h : T m = some k) (r : Back T k.f j m' W) : Back T m (j + 1) m' (k.w + W)
theorem Back.trans {T : Int → Option (Lk α)} {m m1 m2 : Int} {i j : Nat} {V W : Int} (h : Back T m i m1 V) (r : Back T m1 j m2 W) : Back T m (i + j) m2 (V + W) := by
  induction h with
  | nil m =>
    rw [Nat.zero_add, Int.zero_add]
    exact r
  | cons h _ ih =>
    rw [Nat.add_right_comm, Int.add_assoc]
    exact .cons h (ih r)
/-- the first i links of it, and the rest -/
theorem Back.split {T : Int → Option (Lk α)} {m m2 : Int} {W : Int} : ∀ {i j : Nat}, Back T m (i + j) m2 W → ∃ m1 V V', Back T m i m1 V ∧ Back T m1 j m2 V' ∧ W = V + V' := by
  intro i
  induction i generalizing m W with
  | zero =>
    intro j h
    rw [Nat.zero_add] at h
    exact ⟨m, 0, W, .nil m, h, by omega⟩
  | succ i ih =>
    intro j h
    rw [Nat.add_right_comm] at h
    cases h with
    | cons e r =>
      obtain ⟨m1, V, V', a, b, c⟩ := ih r
      exact ⟨m1, _, V', .cons e a, b, by omega⟩
theorem Back.inj {T : Int → Option (Lk α)} {m m1 m2 : Int} {i : Nat} {V W : Int} (h : Back T m i m1 V) (r : Back T m i m2 W) : m1 = m2 ∧ V = W := by
  induction h generalizing m2 W with
  | nil m =>
    cases r
    exact ⟨rfl, rfl⟩
  | cons e _ ih =>
    cases r with
    | cons e2 r2 =>
      rw [e] at e2
      cases e2
      obtain ⟨a, b⟩ := ih r2
      exact ⟨a, by omega⟩
/-- a state in which what raised each mark still asks for as much, and what goes round asks for more than nothing -/
structure Ok (ls : List (Lk α)) (R0 : Int → Int) (s : Sg α) : Prop where
  link : ∀ m k, s.T m = some k → k ∈ ls ∧ k.l = m ∧ s.R m ≤ s.R k.f + k.w
  pos : ∀ m j W, 0 < j → Back s.T m j m W → 0 < W
  base : ∀ m, R0 m ≤ s.R m
  from_ : ∀ m, ∃ a ks, Path a ks m ∧ (∀ k ∈ ks, k ∈ ls) ∧ s.R m = R0 a + wt ks
theorem back_le {T : Int → Option (Lk α)} {R : Int → Int} (hl : ∀ m k, T m = some k → R m ≤ R k.f + k.w) {m m' : Int} {j : Nat} {W : Int} (h : Back T m j m' W) : R m ≤ R m' + W := by
  induction h with
  | nil m => omega
  | cons e _ ih =>
    have := hl _ _ e
    omega
/-- with another link at mark a: a row back that does not come to a is as it was -/
theorem back_other {T : Int → Option (Lk α)} {a : Int} {v : Option (Lk α)} {m m' : Int} {j : Nat} {W : Int} (h : Back (upI T a v) m j m' W) :
    Back T m j m' W ∨ ∃ i V, i < j ∧ Back T m i a V ∧ Back (upI T a v) m i a V ∧ ∃ V', Back (upI T a v) a (j - i) m' V' ∧ W = V + V' := by
  induction h with
  | nil m => exact .inl (.nil m)
  | @cons m m' j W k e r ih =>
    by_cases hm : m = a
    · subst hm
      exact .inr ⟨0, 0, by omega, .nil m, .nil m, _, .cons e r, by omega⟩
    · have e' := e
      rw [upI_ne hm] at e
      rcases ih with h | ⟨i, V, hi, h1, h1', V', h2, h3⟩
      · exact .inl (.cons e h)
      · exact .inr ⟨i + 1, _, by omega, .cons e h1, .cons e' h1', V', by rw [show j + 1 - (i + 1) = j - i by omega]; exact h2, by omega⟩
theorem ok_step {ls : List (Lk α)} {R0 : Int → Int} {s : Sg α} (h : Ok ls R0 s) {k : Lk α} (hk : k ∈ ls) : Ok ls R0 (step s k) := by
  by_cases up : s.R k.l < s.R k.f + k.w
  · rw [step_up up]
    have mono : ∀ m, s.R m ≤ upI s.R k.l (s.R k.f + k.w) m := fun m => by
      by_cases hm : m = k.l
      · subst hm
        rw [upI_same]
        omega
      · rw [upI_ne hm]
        omega
    -- from the new link back, till it comes to its mark again
    have key : ∀ j W, 0 < j → Back (upI s.T k.l (some k)) k.l j k.l W → 0 < W := by
      intro j
      induction j using Nat.strongRecOn with
      | ind j ih =>
        intro W hj hb
        obtain ⟨i, rfl⟩ : ∃ i, j = i + 1 := ⟨j - 1, by omega⟩
        cases hb with
        | @cons _ _ _ W k2 e r =>
          rw [upI_same] at e
          cases e
          have bound : ∀ {i V}, Back s.T k.f i k.l V → 0 < k.w + V := fun {i V} b => by
            have z := back_le (R := s.R) (fun m k hk => (h.link m k hk).2.2) b
            omega
          rcases back_other r with b | ⟨i1, V, hi1, b1, _, V', b2, rfl⟩
          · exact bound b
          · have y := bound b1
            have z := ih (i - i1) (by omega) V' (by omega) b2
            omega
    refine ⟨fun m k' e => ?_, fun m j W hj hb => ?_, fun m => Int.le_trans (h.base m) (mono m), fun m => ?_⟩
    · by_cases hm : m = k.l
      · subst hm
        replace e : upI s.T k.l (some k) k.l = some k' := e
        rw [upI_same] at e
        cases e
        refine ⟨hk, rfl, ?_⟩
        have z := mono k.f
        show upI s.R k.l (s.R k.f + k.w) k.l ≤ upI s.R k.l (s.R k.f + k.w) k.f + k.w
        rw [upI_same]
        omega
      · replace e : upI s.T k.l (some k) m = some k' := e
        rw [upI_ne hm] at e
        obtain ⟨a, b, c⟩ := h.link m k' e
        refine ⟨a, b, ?_⟩
        have z := mono k'.f
        show upI s.R k.l (s.R k.f + k.w) m ≤ upI s.R k.l (s.R k.f + k.w) k'.f + k'.w
        rw [upI_ne hm]
        omega
    · rcases back_other hb with b | ⟨i, V, hi, b1, b1', V', b2, rfl⟩
      · exact h.pos m j W hj b
      · -- begun at the mark of the new link instead
        have z := key _ _ (by omega) (b2.trans b1')
        omega
    · by_cases hm : m = k.l
      · subst hm
        obtain ⟨a, ks, p, q, e⟩ := h.from_ k.f
        refine ⟨a, ks ++ [k], p.append ⟨rfl, rfl⟩, fun x hx => ?_, ?_⟩
        · rcases List.mem_append.mp hx with hx | hx
          · exact q x hx
          · rw [List.mem_singleton.mp hx]
            exact hk
        · show upI s.R k.l (s.R k.f + k.w) k.l = _
          rw [upI_same, wt_append, e, wt_cons]
          show _ = R0 a + (wt ks + (k.w + 0))
          omega
      · obtain ⟨a, ks, p, q, e⟩ := h.from_ m
        refine ⟨a, ks, p, q, ?_⟩
        show upI s.R k.l (s.R k.f + k.w) m = _
        rw [upI_ne hm, e]
  · rw [step_no up]
    exact h
theorem ok_fold {ls : List (Lk α)} {R0 : Int → Int} : ∀ {ps : List (Lk α)} {s : Sg α}, Ok ls R0 s → (∀ k ∈ ps, k ∈ ls) → Ok ls R0 (ps.foldl step s)
  | [], _, h, _ => h
  | k :: ps, s, h, g => by
    rw [List.foldl_cons]
    exact ok_fold (ok_step h (g k List.mem_cons_self)) fun x hx => g x (List.mem_cons_of_mem _ hx)
theorem ok_rnd (ls : List (Lk α)) (R0 : Int → Int) : ∀ j, Ok ls R0 (rnd ls R0 j)
  | 0 => by
    refine ⟨fun _ _ e => (nomatch e), fun m j W hj hb => ?_, fun _ => Int.le_refl _, fun m => ⟨m, [], rfl, fun _ h => (nomatch h), ?_⟩⟩
    · cases hb with
      | nil => omega
      | cons e _ => cases e
    · show R0 m = R0 m + 0
      omega
  | j + 1 => ok_fold (s := { rnd ls R0 j with r := none }) (let h := ok_rnd ls R0 j; ⟨h.link, h.pos, h.base, h.from_⟩) fun _ h => h
/-- where nothing is raised, nothing has changed, and all links are met -/
theorem fold_none : ∀ {ps : List (Lk α)} {s : Sg α}, (ps.foldl step s).r = none → ps.foldl step s = s ∧ ∀ k ∈ ps, s.R k.f + k.w ≤ s.R k.l
  | [], s, _ => ⟨rfl, fun _ h => nomatch h⟩
  | k :: ps, s, h => by
    obtain ⟨e, g⟩ := fold_none (ps := ps) (s := step s k) h
    have hr : (step s k).r = none := by
      rw [← e]
      exact h
    by_cases up : s.R k.l < s.R k.f + k.w
    · rw [step_up up] at hr
      cases hr
    · rw [step_no up] at e g
      refine ⟨by rw [List.foldl_cons, step_no up]; exact e, fun x hx => ?_⟩
      rcases List.mem_cons.mp hx with rfl | hx
      · omega
      · exact g x hx
theorem go_none {ls : List (Lk α)} {s : Sg α} (h : (go ls s).r = none) : (go ls s).R = s.R ∧ ∀ k ∈ ls, s.R k.f + k.w ≤ s.R k.l := by
  obtain ⟨e, g⟩ := fold_none (s := { s with r := none }) h
  refine ⟨?_, g⟩
  show (ls.foldl step { s with r := none }).R = s.R
  rw [e]
/-- in round r + 1: N tells the round in which a mark was raised last -/
structure Tm (ls ps : List (Lk α)) (r : Nat) (s : Sg α) (N : Int → Nat) : Prop where
  some_ : ∀ m, 1 ≤ N m → ∃ k, s.T m = some k
  par : ∀ m k, s.T m = some k → N m ≤ N k.f + 1
  top : ∀ m, N m ≤ r + 1
  old : ∀ k ∈ ls, 1 ≤ r → s.R k.f + k.w ≤ s.R k.l ∨ r ≤ N k.f
  new : ∀ k ∈ ps, s.R k.f + k.w ≤ s.R k.l ∨ r + 1 ≤ N k.f
  last : ∀ m, s.r = some m → N m = r + 1
theorem tm_step {ls ps : List (Lk α)} {r : Nat} {s : Sg α} {N : Int → Nat} (h : Tm ls ps r s N) {k : Lk α} (hk : k ∈ ls) : ∃ N', Tm ls (ps ++ [k]) r (step s k) N' := by
  by_cases up : s.R k.l < s.R k.f + k.w
  · rw [step_up up]
    have grow : ∀ m, N m ≤ upI N k.l (r + 1) m := fun m => by
      by_cases hm : m = k.l
      · subst hm
        rw [upI_same]
        exact h.top _
      · rw [upI_ne hm]
        exact Nat.le_refl _
    have mono : ∀ m, s.R m ≤ upI s.R k.l (s.R k.f + k.w) m := fun m => by
      by_cases hm : m = k.l
      · subst hm
        rw [upI_same]
        omega
      · rw [upI_ne hm]
        omega
    have stay : ∀ (x : Lk α) (y : Nat), y ≤ r + 1 → s.R x.f + x.w ≤ s.R x.l ∨ y ≤ N x.f → upI s.R k.l (s.R k.f + k.w) x.f + x.w ≤ upI s.R k.l (s.R k.f + k.w) x.l ∨ y ≤ upI N k.l (r + 1) x.f := fun x y hy g => by
      by_cases hx : x.f = k.l
      · right
        rw [hx, upI_same]
        exact hy
      · rcases g with g | g
        · left
          have z := mono x.l
          rw [upI_ne hx]
          omega
        · right
          exact Nat.le_trans g (grow _)
    refine ⟨upI N k.l (r + 1), fun m hm => ?_, fun m k' e => ?_, fun m => ?_, fun x hx hr => stay x r (by omega) (h.old x hx hr), fun x hx => ?_, fun m e => ?_⟩
    · by_cases hml : m = k.l
      · subst hml
        exact ⟨k, upI_same⟩
      · rw [upI_ne hml] at hm
        obtain ⟨k', e⟩ := h.some_ m hm
        exact ⟨k', (upI_ne hml).trans e⟩
    · replace e : upI s.T k.l (some k) m = some k' := e
      by_cases hml : m = k.l
      · subst hml
        rw [upI_same] at e
        cases e
        rw [upI_same]
        by_cases hr : 1 ≤ r
        · rcases h.old k hk hr with z | z
          · omega
          · have y := grow k.f
            omega
        · omega
      · rw [upI_ne hml] at e
        have z := h.par m k' e
        have y := grow k'.f
        rw [upI_ne hml]
        omega
    · by_cases hml : m = k.l
      · subst hml
        rw [upI_same]
        exact Nat.le_refl _
      · rw [upI_ne hml]
        exact h.top m
    · rcases List.mem_append.mp hx with hx | hx
      · exact stay x (r + 1) (Nat.le_refl _) (h.new x hx)
      · rw [List.mem_singleton.mp hx]
        by_cases hx : k.f = k.l
        · right
          rw [hx, upI_same]
          exact Nat.le_refl _
        · left
          show upI s.R k.l (s.R k.f + k.w) k.f + k.w ≤ upI s.R k.l (s.R k.f + k.w) k.l
          rw [upI_ne hx, upI_same]
          omega
    · replace e : some k.l = some m := e
      cases e
      exact upI_same
  · rw [step_no up]
    refine ⟨N, h.some_, h.par, h.top, h.old, fun x hx => ?_, h.last⟩
    rcases List.mem_append.mp hx with hx | hx
    · exact h.new x hx
    · rw [List.mem_singleton.mp hx]
      left
      omega
theorem tm_fold {ls : List (Lk α)} {r : Nat} : ∀ {qs ps : List (Lk α)} {s : Sg α} {N : Int → Nat}, Tm ls ps r s N → (∀ k ∈ qs, k ∈ ls) → ∃ N', Tm ls (ps ++ qs) r (qs.foldl step s) N'
  | [], ps, s, N, h, _ => ⟨N, by rw [List.append_nil]; exact h⟩
  | k :: qs, ps, s, N, h, g => by
    obtain ⟨N1, h1⟩ := tm_step h (g k List.mem_cons_self)
    obtain ⟨N2, h2⟩ := tm_fold (qs := qs) h1 fun x hx => g x (List.mem_cons_of_mem _ hx)
    rw [List.append_assoc] at h2
    exact ⟨N2, h2⟩
theorem tm_rnd (ls : List (Lk α)) (R0 : Int → Int) : ∀ r, ∃ N, Tm ls ls r (rnd ls R0 (r + 1)) N
  | 0 => by
    obtain ⟨N, h⟩ := tm_fold (ls := ls) (r := 0) (qs := ls) (ps := []) (s := { rnd ls R0 0 with r := none }) (N := fun _ => 0) ⟨fun _ h => by omega, fun _ _ e => (nomatch e), fun _ => Nat.zero_le _, fun _ _ h => by omega, fun _ h => (nomatch h), fun _ e => nomatch e⟩ fun _ h => h
    exact ⟨N, h⟩
  | r + 1 => by
    obtain ⟨N, h⟩ := tm_rnd ls R0 r
    obtain ⟨N', h'⟩ := tm_fold (ls := ls) (r := r + 1) (qs := ls) (ps := []) (s := { rnd ls R0 (r + 1) with r := none }) (N := N) ⟨h.some_, h.par, fun m => Nat.le_succ_of_le (h.top m), fun k hk _ => h.new k hk, fun _ h => (nomatch h), fun _ e => nomatch e⟩ fun _ h => h
    exact ⟨N', h'⟩
/-- the mark ahead -/
def par (T : Int → Option (Lk α)) (m : Int) : Int := match T m with
  | some k => k.f
  | none => m
theorem par_some {T : Int → Option (Lk α)} {m : Int} {k : Lk α} (h : T m = some k) : par T m = k.f := by
  unfold par
  rw [h]
def bk (T : Int → Option (Lk α)) (m : Int) : Nat → Int
  | 0 => m
  | j + 1 => par T (bk T m j)
theorem bk_add (T : Int → Option (Lk α)) (m : Int) (i : Nat) : ∀ j, bk T m (i + j) = bk T (bk T m i) j
  | 0 => rfl
  | j + 1 => by
    show par T (bk T m (i + j)) = par T (bk T (bk T m i) j)
    rw [bk_add T m i j]
/-- the links back from m, so many, the nearest one first -/
def bl (T : Int → Option (Lk α)) (m : Int) : Nat → List (Lk α)
  | 0 => []
  | j + 1 => bl T m j ++ (match T (bk T m j) with
    | some k => [k]
    | none => [])
theorem bl_succ {T : Int → Option (Lk α)} {m : Int} {j : Nat} {k : Lk α} (h : T (bk T m j) = some k) : bl T m (j + 1) = bl T m j ++ [k] := by
  show bl T m j ++ (match T (bk T m j) with
    | some k => [k]
    | none => []) = _
  rw [h]
theorem bl_back {T : Int → Option (Lk α)} {m : Int} : ∀ {j : Nat}, (∀ i, i < j → ∃ k, T (bk T m i) = some k) → Back T m j (bk T m j) (wt (bl T m j))
  | 0, _ => .nil m
  | j + 1, h => by
    obtain ⟨k, e⟩ := h j (Nat.lt_succ_self j)
    have z := (bl_back (j := j) fun i hi => h i (Nat.lt_succ_of_lt hi)).trans (.cons e (.nil k.f))
    rw [bl_succ e, wt_append]
    show Back T m (j + 1) (par T (bk T m j)) (wt (bl T m j) + (k.w + 0))
    rw [par_some e]
    exact z
theorem bl_path {T : Int → Option (Lk α)} (hl : ∀ m k, T m = some k → k.l = m) {m : Int} : ∀ {j : Nat}, (∀ i, i < j → ∃ k, T (bk T m i) = some k) → Path (bk T m j) (bl T m j).reverse m
  | 0, _ => rfl
  | j + 1, h => by
    obtain ⟨k, e⟩ := h j (Nat.lt_succ_self j)
    have z := bl_path hl (j := j) fun i hi => h i (Nat.lt_succ_of_lt hi)
    rw [bl_succ e, List.reverse_append]
    refine ⟨?_, ?_⟩
    · show k.f = par T (bk T m j)
      rw [par_some e]
    · rw [hl _ _ e]
      exact z
theorem bl_mem {T : Int → Option (Lk α)} {m : Int} {k : Lk α} : ∀ {j : Nat}, k ∈ bl T m j → ∃ i, i < j ∧ T (bk T m i) = some k
  | 0, h => nomatch h
  | j + 1, h => by
    cases e : T (bk T m j) with
    | none =>
      have : bl T m (j + 1) = bl T m j := by
        show bl T m j ++ (match T (bk T m j) with
          | some k => [k]
          | none => []) = _
        rw [e, List.append_nil]
      rw [this] at h
      obtain ⟨i, hi, g⟩ := bl_mem h
      exact ⟨i, by omega, g⟩
    | some k' =>
      rw [bl_succ e] at h
      rcases List.mem_append.mp h with h | h
      · obtain ⟨i, hi, g⟩ := bl_mem h
        exact ⟨i, by omega, g⟩
      · rw [List.mem_singleton.mp h]
        exact ⟨j, Nat.lt_succ_self j, e⟩
theorem bl_len {T : Int → Option (Lk α)} {m : Int} : ∀ j : Nat, (bl T m j).length ≤ j
  | 0 => Nat.le_refl 0
  | j + 1 => by
    show (bl T m j ++ (match T (bk T m j) with
      | some k => [k]
      | none => [])).length ≤ j + 1
    rw [List.length_append]
    have z := bl_len (T := T) (m := m) j
    cases T (bk T m j) with
    | none => exact Nat.le_trans z (Nat.le_succ j)
    | some k => exact Nat.succ_le_succ z
theorem wt_reverse (ks : List (Lk α)) : wt ks.reverse = wt ks := by
  induction ks with
  | nil => rfl
  | cons k ks ih =>
    rw [List.reverse_cons, wt_append, ih, wt_cons, wt_cons]
    show wt ks + (k.w + 0) = k.w + wt ks
    omega
/-- n + 1 numbers below n: two are the same -/
theorem pigeon : ∀ (n : Nat) (f : Nat → Nat), (∀ i, i ≤ n → f i < n) → ∃ i j, i < j ∧ j ≤ n ∧ f i = f j
  | 0, f, h => absurd (h 0 (Nat.le_refl 0)) (Nat.not_lt_zero _)
  | n + 1, f, h => by
    by_cases q : ∃ i, i ≤ n ∧ f i = f (n + 1)
    · obtain ⟨i, hi, e⟩ := q
      exact ⟨i, n + 1, by omega, Nat.le_refl _, e⟩
    · have ne : ∀ i, i ≤ n → f i ≠ f (n + 1) := fun i hi e => q ⟨i, hi, e⟩
      obtain ⟨i, j, hij, hj, e⟩ := pigeon n (fun i => if f i < f (n + 1) then f i else f i - 1) fun i hi => by
        have a := h i (by omega)
        have b := h (n + 1) (Nat.le_refl _)
        have c := ne i hi
        show (if f i < f (n + 1) then f i else f i - 1) < n
        split <;> omega
      refine ⟨i, j, hij, by omega, ?_⟩
      have c := ne i (by omega)
      have d := ne j hj
      replace e : (if f i < f (n + 1) then f i else f i - 1) = (if f j < f (n + 1) then f j else f j - 1) := e
      split at e <;> split at e <;> omega
/-- n rounds have raised a mark: so many links back from there one goes round -/
theorem turns {ls : List (Lk α)} {R0 : Int → Int} {n : Nat} {m : Int} (hls : ∀ k ∈ ls, (0 ≤ k.f ∧ k.f < n) ∧ 0 ≤ k.l ∧ k.l < n) (hn : 0 < n) (hm : (rnd ls R0 n).r = some m) :
    (∀ j, ∃ k, (rnd ls R0 n).T (bk (rnd ls R0 n).T m j) = some k) ∧ ∃ q, 0 < q ∧ q ≤ n ∧ bk (rnd ls R0 n).T (bk (rnd ls R0 n).T m n) q = bk (rnd ls R0 n).T m n ∧
      ∀ i, 0 < i → i < q → bk (rnd ls R0 n).T (bk (rnd ls R0 n).T m n) i ≠ bk (rnd ls R0 n).T m n := by
  obtain ⟨r, rfl⟩ : ∃ r, n = r + 1 := ⟨n - 1, by omega⟩
  obtain ⟨N, h⟩ := tm_rnd ls R0 r
  have ok := ok_rnd ls R0 (r + 1)
  generalize rnd ls R0 (r + 1) = s at *
  have far : ∀ j, j ≤ r + 1 → r + 1 - j ≤ N (bk s.T m j) := by
    intro j
    induction j with
    | zero =>
      intro _
      rw [show N (bk s.T m 0) = r + 1 from h.last m hm]
      exact Nat.sub_le _ _
    | succ j ih =>
      intro hj
      have z := ih (by omega)
      obtain ⟨k, e⟩ := h.some_ (bk s.T m j) (by omega)
      have y := h.par _ _ e
      show r + 1 - (j + 1) ≤ N (par s.T (bk s.T m j))
      rw [par_some e]
      omega
  have some1 : ∀ j, j < r + 1 → ∃ k, s.T (bk s.T m j) = some k := fun j hj => h.some_ _ (by have := far j (by omega); omega)
  have inn : ∀ j, j ≤ r + 1 → 0 ≤ bk s.T m j ∧ bk s.T m j < ((r + 1 : Nat) : Int) := fun j hj => by
    cases j with
    | zero =>
      obtain ⟨k, e⟩ := some1 0 (by omega)
      obtain ⟨a, b, _⟩ := ok.link _ _ e
      rw [← b]
      exact (hls k a).2
    | succ j =>
      obtain ⟨k, e⟩ := some1 j (by omega)
      obtain ⟨a, b, _⟩ := ok.link _ _ e
      show 0 ≤ par s.T (bk s.T m j) ∧ par s.T (bk s.T m j) < _
      rw [par_some e]
      exact (hls k a).1
  obtain ⟨i, j, hij, hj, e⟩ := pigeon (r + 1) (fun i => (bk s.T m i).toNat) fun i hi => by
    have z := inn i hi
    show (bk s.T m i).toNat < r + 1
    omega
  have e' : bk s.T m i = bk s.T m j := by
    have a := inn i (by omega)
    have b := inn j hj
    have c : (bk s.T m i).toNat = (bk s.T m j).toNat := e
    omega
  have again : ∀ t, bk s.T m (i + t + (j - i)) = bk s.T m (i + t) := fun t => by
    rw [show i + t + (j - i) = j + t by omega, bk_add s.T m j t, bk_add s.T m i t, e']
  have all : ∀ t, ∃ k, s.T (bk s.T m t) = some k := by
    intro t
    induction t using Nat.strongRecOn with
    | ind t ih =>
      by_cases ht : t < r + 1
      · exact some1 t ht
      · have z := again (t - j)
        rw [show i + (t - j) + (j - i) = t by omega] at z
        rw [z]
        exact ih _ (by omega)
  refine ⟨all, ?_⟩
  have hp : bk s.T (bk s.T m (r + 1)) (j - i) = bk s.T m (r + 1) := by
    rw [← bk_add]
    have z := again (r + 1 - i)
    rwa [show i + (r + 1 - i) = r + 1 by omega] at z
  -- the least such number
  have least : ∀ q, 0 < q → bk s.T (bk s.T m (r + 1)) q = bk s.T m (r + 1) → ∃ q', 0 < q' ∧ q' ≤ q ∧ bk s.T (bk s.T m (r + 1)) q' = bk s.T m (r + 1) ∧ ∀ i, 0 < i → i < q' → bk s.T (bk s.T m (r + 1)) i ≠ bk s.T m (r + 1) := by
    intro q
    induction q using Nat.strongRecOn with
    | ind q ih =>
      intro h0 hq
      by_cases c : ∃ i, 0 < i ∧ i < q ∧ bk s.T (bk s.T m (r + 1)) i = bk s.T m (r + 1)
      · obtain ⟨i, a, b, c⟩ := c
        obtain ⟨q', y1, y2, y3⟩ := ih i b a c
        exact ⟨q', y1, by omega, y3⟩
      · exact ⟨q, h0, Nat.le_refl q, hq, fun i a b d => c ⟨i, a, b, d⟩⟩
  obtain ⟨q', y1, y2, y3⟩ := least (j - i) (by omega) hp
  exact ⟨q', y1, by omega, y3⟩
/-- what goes round there asks for more than nothing -/
theorem round_pos {ls : List (Lk α)} {R0 : Int → Int} {n : Nat} {m : Int} {q : Nat} (hq : 0 < q) (ha : ∀ j, ∃ k, (rnd ls R0 n).T (bk (rnd ls R0 n).T m j) = some k) (hr : bk (rnd ls R0 n).T m q = m) :
    Path m (bl (rnd ls R0 n).T m q).reverse m ∧ (∀ k ∈ (bl (rnd ls R0 n).T m q).reverse, k ∈ ls) ∧ 0 < wt (bl (rnd ls R0 n).T m q).reverse := by
  have ok := ok_rnd ls R0 n
  have b := bl_back (j := q) fun i _ => ha i
  have p := bl_path (fun m k e => (ok.link m k e).2.1) (j := q) fun i _ => ha i
  rw [hr] at b p
  refine ⟨p, fun k hk => ?_, ?_⟩
  · obtain ⟨i, _, e⟩ := bl_mem (List.mem_reverse.mp hk)
    exact (ok.link _ _ e).1
  · rw [wt_reverse]
    exact ok.pos _ _ _ hq b
/-- what n rounds reach where the last one raised nothing -/
theorem reached {ls : List (Lk α)} {R0 : Int → Int} {j : Nat} (h : (rnd ls R0 (j + 1)).r = none) :
    (∀ k ∈ ls, (rnd ls R0 (j + 1)).R k.f + k.w ≤ (rnd ls R0 (j + 1)).R k.l) ∧ (∀ m, R0 m ≤ (rnd ls R0 (j + 1)).R m) ∧ ∀ m, ∃ a ks, Path a ks m ∧ (∀ k ∈ ks, k ∈ ls) ∧ (rnd ls R0 (j + 1)).R m = R0 a + wt ks := by
  obtain ⟨e, g⟩ := go_none (s := rnd ls R0 j) h
  have ok := ok_rnd ls R0 (j + 1)
  refine ⟨fun k hk => ?_, ok.base, ok.from_⟩
  have z := g k hk
  show (go ls (rnd ls R0 j)).R k.f + k.w ≤ (go ls (rnd ls R0 j)).R k.l
  rw [e]
  exact z
end Hn.Stl

/-! Moved -/
/-! who is there when one begins later; all who are there; even clocks -/
namespace Clk
theorem Sum_single {F : Int → Int} (b0 : Nat) : ∀ n : Nat, (∀ b : Nat, b < n → b ≠ b0 → F b = 0) → Sum n F = if b0 < n then F b0 else 0
  | 0, _ => rfl
  | n + 1, h => by
    have ih := Sum_single b0 n fun b hb ne => h b (by omega) ne
    show Sum n F + F n = _
    rw [ih]
    by_cases e : n = b0
    · rw [if_neg (by omega), if_pos (by omega), e, Int.zero_add]
    · rw [h n (by omega) e, Int.add_zero]
      by_cases l : b0 < n
      · rw [if_pos l, if_pos (by omega)]
      · rw [if_neg l, if_neg (by omega)]
theorem Sum_sub (n : Nat) (f g : Int → Int) : Sum n (fun x => f x - g x) = Sum n f - Sum n g := by
  induction n with
  | zero => rfl
  | succ n ih =>
    show Sum n (fun x => f x - g x) + (f n - g n) = Sum n f + f n - (Sum n g + g n)
    omega
theorem th_sub (ns : List Int) (f g : Int → Int) (x : Int) : th ns (fun y => f y - g y) x = th ns f x - th ns g x := by
  unfold th
  rw [← Sum_sub]
  exact Sum_congr fun b _ => Int.sub_mul ..
/-- who begins at h serves just his hours -/
theorem th_one {ns : List Int} (pos : 0 < ns.length) {h : Int} (h0 : 0 ≤ h) (h1 : h < ns.length) (x : Int) : th ns (fun y => ind (y % (ns.length : Int) = h)) x = ind ((x - h) % (ns.length : Int) < S ns h) := by
  have z0 := Int.emod_nonneg (x - h) (show (ns.length : Int) ≠ 0 by omega)
  have z1 := Int.emod_lt_of_pos (x - h) (show 0 < (ns.length : Int) by omega)
  obtain ⟨b0, hb0⟩ := Int.eq_ofNat_of_zero_le z0
  have at0 : (x - b0) % (ns.length : Int) = h := by
    rw [show ((b0 : Int)) = (x - h) % (ns.length : Int) from hb0.symm, Int.sub_emod, Int.emod_emod, ← Int.sub_emod, show x - (x - h) = h by omega, Int.emod_eq_of_lt h0 h1]
  unfold th
  rw [Sum_single b0 ns.length fun b hb ne => ?_]
  · rw [if_pos (by omega)]
    have s : S ns (x - b0) = S ns h := S_mod (by rw [at0, Int.emod_eq_of_lt h0 h1])
    show ind ((x - b0) % (ns.length : Int) = h) * ind ((b0 : Int) < S ns (x - b0)) = _
    rw [s, hb0]
    unfold ind
    rw [if_pos at0, Int.one_mul]
  · have nz : ¬ (x - b) % (ns.length : Int) = h := fun e => by
      apply ne
      have d : ((x - (b : Int)) - (x - b0)) % (ns.length : Int) = 0 := by rw [Int.sub_emod, e, at0]; simp
      have d2 : ((b0 : Int) - b) % (ns.length : Int) = 0 := by rwa [show (x - (b : Int)) - (x - b0) = (b0 : Int) - b by omega] at d
      obtain ⟨q, hq⟩ := Int.dvd_of_emod_eq_zero d2
      have q0 : q = 0 := by
        rcases Int.lt_trichotomy q 0 with l | l | l
        · have : (ns.length : Int) * q ≤ (ns.length : Int) * (-1) := Int.mul_le_mul_of_nonneg_left (by omega) (by omega)
          omega
        · exact l
        · have : (ns.length : Int) * 1 ≤ (ns.length : Int) * q := Int.mul_le_mul_of_nonneg_left (by omega) (by omega)
          omega
      rw [q0, Int.mul_zero] at hq
      omega
    show ind ((x - b) % (ns.length : Int) = h) * _ = 0
    unfold ind
    rw [if_neg nz, Int.zero_mul]
theorem Sum_mul (n : Nat) (k : Int) (f : Int → Int) : Sum n (fun x => k * f x) = k * Sum n f := by
  induction n with
  | zero => exact (Int.mul_zero k).symm
  | succ n ih =>
    show Sum n (fun x => k * f x) + k * f n = k * (Sum n f + f n)
    rw [ih, Int.mul_add]
/-- all who are there: the begins, each as often as it stays -/
theorem sum_there {ns : List Int} (v : Valid ns) {m : Int → Int} (pm : ∀ x, m (x % (ns.length : Int)) = m x) : Sum ns.length (th ns m) = Sum ns.length fun x => m x * S ns x := by
  have pos := v.pos
  have e2 : (Sum ns.length fun x => m x * S ns x) = Sum ns.length fun x => Sum ns.length fun b => m x * ind (b < S ns x) := by
    refine Sum_congr fun x _ => ?_
    rw [Sum_mul ns.length (m x) fun b => ind (b < S ns x)]
    congr 1
    have h1 := v.lo x
    have h2 := v.hi x
    have z := Sum_below (S ns x) (by omega) ns.length
    rw [show (fun b : Int => ind (b < S ns x)) = fun b => if b < S ns x then 1 else 0 from rfl, z]
    by_cases h : (ns.length : Int) ≤ S ns x
    · rw [if_pos h]; omega
    · rw [if_neg h]
  rw [e2]
  show (Sum ns.length fun x => Sum ns.length fun b => m (x - b) * ind (b < S ns (x - b))) = _
  rw [Sum_swap ns.length (fun x b => m (x - b) * ind (b < S ns (x - b))) ns.length, Sum_swap ns.length (fun x b => m x * ind (b < S ns x)) ns.length]
  refine Sum_congr fun b _ => ?_
  refine Sum_shift (g := fun x => m x * ind ((b : Int) < S ns x)) (fun x => ?_) b
  have q := S_per (ns := ns) x 1
  rw [Int.one_mul] at q
  show m (x + ns.length) * ind ((b : Int) < S ns (x + ns.length)) = m x * ind ((b : Int) < S ns x)
  rw [q, ← pm (x + ns.length), Int.add_emod_right, pm]
theorem S_rep {n : Nat} (hn : 0 < n) (c : Int) (x : Int) : S (List.replicate n c) x = c := by
  obtain ⟨h, e⟩ := S_at (ns := List.replicate n c) (by rw [List.length_replicate]; exact hn) x
  rw [e, List.getElem_replicate]
/-- all stay a day: all are always there -/
theorem th_full {n : Nat} (hn : 0 < n) {m : Int → Int} (pm : ∀ x, m (x % (n : Int)) = m x) (x : Int) : th (List.replicate n (n : Int)) m x = Sum n m := by
  unfold th
  rw [List.length_replicate]
  have e : (Sum n fun b => m (x - b) * ind (b < S (List.replicate n (n : Int)) (x - b))) = Sum n fun b => m (x - b) := Sum_congr fun b hb => by
    rw [S_rep hn]
    unfold ind
    rw [if_pos (by omega), Int.mul_one]
  rw [e]
  -- the glass turned
  have z0 := Int.emod_nonneg x (show (n : Int) ≠ 0 by omega)
  obtain ⟨k, hk⟩ := Int.eq_ofNat_of_zero_le z0
  have rev : ∀ (n : Nat) (g : Int → Int), Sum n (fun b => g ((n : Int) - 1 - b)) = Sum n g := fun n g => by
    rw [← sum_row, ← row_reverse, List.sum_reverse, sum_row]
  have e1 : (Sum n fun b => m (x - b)) = Sum n fun b => (fun y : Int => m (x - (n : Int) + 1 + y)) ((n : Int) - 1 - b) := Sum_congr fun b _ => by
    show _ = m (x - (n : Int) + 1 + ((n : Int) - 1 - b))
    rw [show x - (n : Int) + 1 + ((n : Int) - 1 - b) = x - b by omega]
  rw [e1, rev n fun y : Int => m (x - (n : Int) + 1 + y)]
  have z2 := Hn.sum_per hn m (x - (n : Int) + 1)
  rw [← z2]
  exact Sum_congr fun i _ => by rw [pm, show x - (n : Int) + 1 + (i : Int) = i + (x - (n : Int) + 1) by omega]
/-- all stay an hour: there are who begin -/
theorem th_hour {n : Nat} (hn : 0 < n) (m : Int → Int) (x : Int) : th (List.replicate n (1 : Int)) m x = m x := by
  unfold th
  rw [List.length_replicate, Sum_single 0 n fun b hb ne => ?_]
  · rw [if_pos hn, S_rep hn]
    show m (x - ((0 : Nat) : Int)) * ind (((0 : Nat) : Int) < 1) = m x
    rw [show x - ((0 : Nat) : Int) = x by omega, show ind (((0 : Nat) : Int) < 1) = 1 from rfl, Int.mul_one]
  · rw [S_rep hn]
    unfold ind
    rw [if_neg (by omega), Int.mul_zero]
end Clk
namespace Hn
open PySem PySem.Spec L2 Evl
section
variable {K : PySem.W.Frag} {n : Nat} {σ : L2.St} {H : Hp} {ta tb : TE}
/-- a, b = l, v : of a new list and a value -/
theorem q_par2LV {D : Ends} {tz : TS} {i j : Nat} {xs : List V} {y : V} (ha : EvL ta σ H xs) (hb : Ev tb σ H y)
    (k : ∀ p H1, Ex H H1 → H1 p = some (.lst xs) → tz D ((σ.set i (some (.ref p))).set j (some y)) H1) :
    tSeq (tAsg (tTup (tCons ta (tCons tb tNil))) (gTup K 2 (gCons (gName i) (gCons (gName j) gNil)))) tz D σ H :=
  ha H (Ex.refl H) _ fun p H1 _ e1 hp => hb H1 e1 _ fun H2 e2 => ⟨by show 2 ≤ sizeLine; decide, fun t nt => ⟨t, _, rfl, .inl (.inl upd_same), rfl, _, _, rfl, _, _, rfl, rfl, k p _ ((e1.trans e2).trans (Ex.new nt)) ((Ex.new nt) _ _ (e2 _ _ hp))⟩⟩
theorem ev_sumI {p : Addr} {l : List Int} (ha : Ev ta σ H (.ref p)) (hp : SqL K H p (iv l)) : Ev (tCB (rSum K) (tCons ta tNil)) σ H (.int l.sum) := fun H1 e Q q =>
  ha H1 e _ fun H2 e2 => ⟨p, l, rfl, ex_l (e.trans e2) hp, q H2 e2⟩
theorem ev_sumLI {l : List Int} (ha : EvL ta σ H (iv l)) : Ev (tCB (rSum K) (tCons ta tNil)) σ H (.int l.sum) := fun H1 e Q q =>
  ha H1 e _ fun p H2 _ e2 hp => ⟨p, l, rfl, SqL.of hp, q H2 e2⟩
theorem ev_neLV {xs ys : List Int} {p : Addr} (ha : EvL ta σ H (iv xs)) (hb : Ev tb σ H (.ref p)) (hp : SqL K H p (iv ys)) : Ev (tOp (rNeD K) ta tb) σ H (.bl (!decide (xs = ys))) := fun H1 e Q q =>
  ha H1 e _ fun r H2 _ e2 hr => hb H2 (e.trans e2) _ fun H3 e3 => ⟨dI xs, dI ys, Dp.ints (SqL.of (e3 _ _ hr)), Dp.ints (ex_l ((e.trans e2).trans e3) hp), shaped_I _, shaped_I _, by rw [eqv_I]; exact q H3 (e2.trans e3)⟩
end
end Hn
namespace Hn
open PySem L2
/-- a comprehension over a range whose elements are new objects, made while it is drawn -/
theorem lc_drawObjR {b : Addr} {lo : Int} {n : Nat} {te : TE} {j : Nat} {σ : L2.St} {H1 : Hp} {D : Addr} {Qd : Hp → Prop} (Pr : Nat → Addr → Hp → Prop) (st : ∀ i p c H H', (∃ xs, H c = some (.lst xs)) → But c H H' → Pr i p H → Pr i p H')
    (hb : Bag H1 b) (nD : H1 D = none) (hz : n ≤ 10000)
    (he : ∀ i (_ : i < n) (H : Hp) (R : VK), Drew b H1 H → (∀ H4 p, Drew b H H4 → Pr i p H4 → R (.ref p) H4) → te ((wipe σ [j]).set j (some (.int (lo + i)))) H R)
    (hd : ∀ H (as : List Addr), Drew b H1 H → H D = some (.lst (as.map V.ref)) → as.length = n → (∀ k (h : k < as.length), Pr k as[k] H) → Qd H) : LcG (Itr lo n) (gName j) tYes te [j] σ H1 D Qd := by
  refine lc_range (lo := lo) (n := n) (fun i H => ∃ (as : List Addr), Drew b H1 H ∧ H D = some (.lst (as.map V.ref)) ∧ as.length = i ∧ ∀ k (h : k < as.length), Pr k as[k] H)
    ⟨[], Drew.of hb (same_new nD), upd_same, rfl, fun k h => nomatch h⟩ (fun i H hi ⟨as, d, hD, hl, hp⟩ => ?_) (fun H ⟨as, d, hD, hl, hp⟩ => hd H as d hD hl hp)
  refine ⟨wipe_one _ _ _, he i hi H _ d fun H4 p d4 hp4 => ?_⟩
  have hDb : D ≠ b := hb.ne nD
  have hD4 := d4.but _ _ hDb hD
  refine ⟨as.map V.ref, hD4, by rw [List.length_map]; exact small_line (by omega), as ++ [p], (d.trans d4).put nD, ?_, by rw [List.length_append, hl]; rfl, fun k h => ?_⟩
  · rw [upd_same, List.map_append]
    rfl
  · have up : But D H4 (upd H4 D (.lst (as.map V.ref ++ [V.ref p]))) := (But.refl D H4).upd
    rw [List.length_append] at h
    by_cases hk : k < as.length
    · rw [List.getElem_append_left hk]
      exact st _ _ D H4 _ ⟨_, hD4⟩ up (st _ _ b H H4 d.bag.lst d4.but (hp k hk))
    · have e : k = as.length := by
        have : [p].length = 1 := rfl
        omega
      subst e
      rw [List.getElem_append_right (Nat.le_refl _)]
      simp only [Nat.sub_self, List.getElem_cons_zero]
      rw [hl]
      exact st _ _ D H4 _ ⟨_, hD4⟩ up hp4
theorem ne_of_bag {H : Hp} {b p : Addr} {r : List Int} (hb : Bag H b) (h : H p = some (.lst (iv r))) : p ≠ b := by
  rintro rfl
  obtain ⟨c, cs, g, m, i, e1, _⟩ := hb
  rw [h] at e1
  have z : iv r = [.int g, .int m, .int i, .ref c] := V_lst_inj e1
  have hm : V.ref c ∈ iv r := by rw [z]; simp
  obtain ⟨y, _, hy⟩ := List.mem_map.mp hm
  cases hy
end Hn

/-! ZipL -/
/-! list(zip(a, b)) of two lists -/
namespace Hn
open PySem PySem.Spec L2
open PyProof.Rows hiding St
def ZSt (z TI TO i1 i2 l1 l2 : Addr) (k : Nat) (h : Heap) : Prop :=
  (IsZip h z TI TO .none ∨ ∃ T f p q, T ≠ z ∧ T ≠ i1 ∧ T ≠ i2 ∧ IsZipHeld h z TI TO T f ∧ IsPair h T p q) ∧ (∃ a b, IsPair h TO a b) ∧ IsPair h TI (.ref i1) (.ref i2) ∧ h.IsListIter i1 l1 k ∧ h.IsListIter i2 l2 k
section
variable {prog : Program} {w : World} {A : Around} {E : Value → Shared → Prop} {s : Shared} {z TI TO i1 i2 l1 l2 : Addr} {k : Nat} {xs ys : Array Value} {x y : Value}
theorem ZSt.live {h : Heap} (q : ZSt z TI TO i1 i2 l1 l2 k h) : (∃ o, h.get? z = some o ∧ o.cls = .type "zip") ∧ (∃ o, h.get? TO = some o) ∧ (∃ o, h.get? i1 = some o) ∧ (∃ o, h.get? i2 = some o) := by
  obtain ⟨h0, ⟨_, _, hTO⟩, hTI, ⟨o1, h1, _⟩, ⟨o2, h2, _⟩⟩ := q
  refine ⟨?_, ⟨_, hTO⟩, ⟨_, h1⟩, ⟨_, h2⟩⟩
  rcases h0 with a | ⟨T, f, p, q, _, _, _, a, _⟩
  · exact ⟨_, a, rfl⟩
  · exact ⟨_, a, rfl⟩
theorem ZSt.frame {h h' : Heap} (q : ZSt z TI TO i1 i2 l1 l2 k h) {S : Addr} {oS : Obj} (hS : h.get? S = some oS) (hc : oS.cls = .type "list") (kk : ∀ c o, c ≠ S → h.get? c = some o → h'.get? c = some o) : ZSt z TI TO i1 i2 l1 l2 k h' := by
  have ne : ∀ {c : Addr} {o : Obj}, h.get? c = some o → o.cls ≠ .type "list" → h'.get? c = some o := fun {c o} e n => kk c o (fun z => by
    rw [z, hS] at e
    cases e
    exact n hc) e
  obtain ⟨h0, ⟨a, b, hTO⟩, hTI, ⟨o1, h1, c1, d1⟩, ⟨o2, h2, c2, d2⟩⟩ := q
  refine ⟨?_, ⟨a, b, ne hTO (by show Value.type "tuple" ≠ _; decide)⟩, ne hTI (by show Value.type "tuple" ≠ _; decide), ⟨o1, ne h1 (by rw [c1]; decide), c1, d1⟩, ⟨o2, ne h2 (by rw [c2]; decide), c2, d2⟩⟩
  rcases h0 with e | ⟨T, f, p, q, n1, n2, n3, e, e2⟩
  · exact .inl (ne e (by show Value.type "zip" ≠ _; decide))
  · exact .inr ⟨T, f, p, q, n1, n2, n3, ne e (by show Value.type "zip" ≠ _; decide), ne e2 (by show Value.type "tuple" ≠ _; decide)⟩
theorem zst_item {Q : Option Value → Shared → Prop} (D : ZipApart z TI TO i1 i2 l1 l2) (h : ZSt z TI TO i1 i2 l1 l2 k s.heap) (hl1 : s.heap.IsList l1 xs) (hl2 : s.heap.IsList l2 ys) (hx : xs[k]? = some x) (hy : ys[k]? = some y)
    (hQ : ∀ h', ZSt z TI TO i1 i2 l1 l2 (k + 1) h' → IsPair h' s.heap.objs.size x y → h'.objs.size = s.heap.objs.size + 1 →
      (∀ c o, c ≠ z → c ≠ TO → c ≠ i1 → c ≠ i2 → s.heap.get? c = some o → h'.get? c = some o) → Q (some (.ref s.heap.objs.size)) { s with heap := h' }) : wpAny (model prog w) A (pyNext (.ref z)) Q E s := by
  obtain ⟨⟨oz, gz, _⟩, _, ⟨oi, gi⟩, ⟨oj, gj⟩⟩ := h.live
  obtain ⟨h0, ⟨a, b, hTO⟩, hTI, h1, h2⟩ := h
  rcases h0 with hz | ⟨T, f, p, q, nz, n1, n2, hz, hT⟩
  · exact wpAny_pyNext_zip_item D hz hTI hTO h1 h2 hl1 hl2 hx hy fun h' a1 a2 a3 a4 a5 a6 a7 => hQ h' ⟨.inr ⟨_, _, _, _, Nat.ne_of_gt (Heap.lt_size gz), Nat.ne_of_gt (Heap.lt_size gi), Nat.ne_of_gt (Heap.lt_size gj), a1, a5⟩, ⟨_, _, a2⟩, a7 _ _ D.TIz D.TITO D.TIi1 D.TIi2 hTI, a3, a4⟩ a5 a6 a7
  · exact wpAny_pyNext_zip_item_held D hz hT hTI h1 h2 hl1 hl2 hx hy fun h' a1 a3 a4 a5 a6 a7 => hQ h' ⟨.inr ⟨_, _, _, _, nz, n1, n2, a1, a7 _ _ nz n1 n2 hT⟩, ⟨_, _, a7 _ _ D.TOz D.TOi1 D.TOi2 hTO⟩, a7 _ _ D.TIz D.TIi1 D.TIi2 hTI, a3, a4⟩ a5 a6 fun c o n1 n2 n3 n4 e => a7 c o n1 n3 n4 e
theorem zst_end {Q : Option Value → Shared → Prop} (hh : A.handled = none) (D : ZipApart z TI TO i1 i2 l1 l2) (h : ZSt z TI TO i1 i2 l1 l2 k s.heap) (hl1 : s.heap.IsList l1 xs) (hl2 : s.heap.IsList l2 ys) (hx : xs[k]? = none)
    (hQ : ∀ h', (∀ c o, c ≠ z → c ≠ TO → c ≠ i1 → c ≠ i2 → s.heap.get? c = some o → h'.get? c = some o) → Q none { s with heap := h' }) : wpAny (model prog w) A (pyNext (.ref z)) Q E s := by
  obtain ⟨h0, ⟨a, b, hTO⟩, hTI, h1, h2⟩ := h
  rcases h0 with hz | ⟨T, f, p, q, nz, n1, n2, hz, hT⟩
  · exact wpAny_pyNext_zip_end hh D hz hTI hTO h1 h2 hl1 hl2 (.inl hx) fun h' a7 => hQ h' fun c o n1 n2 n3 n4 e => a7 c o n1 n2 n3 n4 e
  · exact wpAny_pyNext_zip_end_held hh D hz hT hTI h1 h2 hl1 hl2 (.inl hx) fun h' a7 => hQ h' fun c o n1 n2 n3 n4 e => a7 c o n1 n3 n4 e
end
section
variable {X : Cx} {pins : List (Addr × Obj)} {σ : L2.St} {H : Hp} {s : Shared} {z TI TO i1 i2 a b S : Addr}
/-- the pairs so far -/
def Pairs (H : Hp) (xs ys : List V) (ts : List Addr) : Prop := ∀ j (_ : j < ts.length) (_ : j < xs.length) (_ : j < ys.length), H ts[j] = some (.tup [xs[j], ys[j]])
theorem zip_loop {A1 : Around} {res : Value} {Rs : Result → Shared → Prop} {xs ys : List V} (hh : A1.handled = none) (D : ZipApart z TI TO i1 i2 a b) (hl : xs.length = ys.length) (hz : xs.length ≤ sizeLine) (aS : a ≠ S) (bS : b ≠ S) :
    ∀ (k i : Nat) (ts : List Addr) (H : Hp) (s : Shared), xs.length - i = k → i ≤ xs.length → Inv X pins σ H s → H S = some (.lst (ts.map V.ref)) → ts.length = i → Pairs H xs ys ts → SqL X.K H a xs → SqL X.K H b ys → ZSt z TI TO i1 i2 a b i s.heap →
    (∀ c, c ∈ [z, TO, i1, i2] → FpOk X pins H c) →
    (∀ H' s' ts', Inv X pins σ H' s' → (∀ c o, c ≠ S → H c = some o → H' c = some o) → H' S = some (.lst (ts'.map V.ref)) → ts'.length = xs.length → Pairs H' xs ys ts' → Rs (.ok (.ret res)) s') →
    codeAny (model X.prog X.w) A1 (.builtin "list.extend.loop" ⟨[.ref S, .ref z, res], []⟩) Rs s := by
  intro k
  induction k with
  | zero =>
    intro i ts H s hk hi I hS hts hp ha hb st hf hR
    have hin : i = xs.length := by omega
    obtain ⟨its, rv, p1, _⟩ := I.list ha
    obtain ⟨its2, rv2, p2, _⟩ := I.list hb
    have hl1 := rv.length
    refine codeAny_builtin PySem.F.entry_extend_loop ?_
    rw [Around.under_plainId PySem.F.plain_extend_loop _]
    show wpAny _ A1.in1 (pyNext (.ref z) >>= _) _ _ s
    refine wpAny_bind (zst_end hh D st p1.isList p2.isList (by rw [List.getElem?_toArray]; exact List.getElem?_eq_none (by omega)) fun h' hk' => ?_)
    exact wpAny_pure (hR H _ ts (I.turnedL (t' := s.toks) (ch := [z, TO, i1, i2]) (fun c o hb' q => hk' c o (fun q' => hb' (by simp [q'])) (fun q' => hb' (by simp [q'])) (fun q' => hb' (by simp [q'])) (fun q' => hb' (by simp [q'])) q) hf) (fun c o _ e => e) hS (by omega) hp)
  | succ k ih =>
    intro i ts H s hk hi I hS hts hp ha hb st hf hR
    have hlt : i < xs.length := by omega
    have hlt2 : i < ys.length := by omega
    obtain ⟨its, rv, p1, _⟩ := I.list ha
    obtain ⟨its2, rv2, p2, _⟩ := I.list hb
    obtain ⟨u, hu, ru⟩ := rv.get (List.getElem?_eq_getElem hlt)
    obtain ⟨u2, hu2, ru2⟩ := rv2.get (List.getElem?_eq_getElem hlt2)
    refine codeAny_builtin PySem.F.entry_extend_loop ?_
    rw [Around.under_plainId PySem.F.plain_extend_loop _]
    show wpAny _ A1.in1 (pyNext (.ref z) >>= _) _ _ s
    refine wpAny_bind (zst_item D st p1.isList p2.isList (x := u) (y := u2) (by rw [List.getElem?_toArray]; exact hu) (by rw [List.getElem?_toArray]; exact hu2) fun h' st' pr hsz hk' => ?_)
    have new : ObjOk X.prog X.w (upd H s.heap.objs.size (.tup [xs[i], ys[i]])) h' s.heap.objs.size (.tup [xs[i], ys[i]]) := ⟨by show 2 ≤ sizeLine; decide, [u, u2], .cons ru (.cons ru2 .nil), ⟨_, pr, rfl, _, rfl⟩⟩
    have I1 : Inv X pins σ (upd H s.heap.objs.size (.tup [xs[i], ys[i]])) { s with heap := h' } :=
      I.turnedNew (t' := s.toks) (ch := [z, TO, i1, i2]) (fun c o hb' q => hk' c o (fun q' => hb' (by simp [q'])) (fun q' => hb' (by simp [q'])) (fun q' => hb' (by simp [q'])) (fun q' => hb' (by simp [q'])) q) hf (Nat.le_refl _) new
    have nT : H s.heap.objs.size = none := I.hok.fresh (Nat.le_refl _)
    have nTS : S ≠ s.heap.objs.size := ne_of_none hS nT
    have hS1 : upd H s.heap.objs.size (.tup [xs[i], ys[i]]) S = some (.lst (ts.map V.ref)) := by rw [upd_ne nTS]; exact hS
    have live : ∀ c, c ∈ [z, TO, i1, i2] → c ≠ S := fun c hc e => by
      have q := (hf c hc).1
      rw [e, hS] at q
      cases q
    have lz := st.live
    have dT : ∀ c, c ∈ [z, TO, i1, i2] → c ≠ s.heap.objs.size := fun c hc => by
      obtain ⟨⟨oz, gz, _⟩, ⟨ot, gt⟩, ⟨oi, gi⟩, ⟨oj, gj⟩⟩ := lz
      have hc' : c = z ∨ c = TO ∨ c = i1 ∨ c = i2 := by simpa using hc
      rcases hc' with rfl | rfl | rfl | rfl
      · exact Nat.ne_of_lt (Heap.lt_size gz)
      · exact Nat.ne_of_lt (Heap.lt_size gt)
      · exact Nat.ne_of_lt (Heap.lt_size gi)
      · exact Nat.ne_of_lt (Heap.lt_size gj)
    have sm : ∀ c o, H c = some o → upd H s.heap.objs.size (.tup [xs[i], ys[i]]) c = some o := same_new nT
    have hpT : upd H s.heap.objs.size (.tup [xs[i], ys[i]]) s.heap.objs.size = some (.tup [xs[i], ys[i]]) := upd_same
    generalize hT0 : s.heap.objs.size = T at *
    generalize hH1 : upd H T (.tup [xs[i], ys[i]]) = H1 at *
    obtain ⟨z2, its', n2, r2, hl2, e2⟩ := I1.lstM hS1
    show wpAny _ A1.in1 (updateSeq S (·.push (.ref T)) >>= _) _ _ _
    have htl : (ts.map V.ref).length = i := by rw [List.length_map]; exact hts
    refine wpAny_bind (wpAny_updateSeq e2 rfl (wpAny_pure ⟨plainId_quiet PySem.F.plain_extend_loop _, ?_⟩) (by rw [List.size_toArray]; omega) (by show (its'.toArray.push _).size ≤ sizeLine + 1; rw [Array.size_push, List.size_toArray]; omega))
    have I2 := I1.lset (f := (·.push (.ref T))) (its' := its' ++ [.ref T]) (ys := ts.map V.ref ++ [.ref T]) (t' := s.toks) hS1 e2 (by simp) (r2.append (.cons (show L2.RelV (.ref T) (.ref T) from rfl) .nil)) (by rw [List.length_append, List.length_singleton]; omega)
    have bt : But S H (upd H1 S (.lst (ts.map V.ref ++ [.ref T]))) := fun c o nc e => by rw [upd_ne nc]; exact sm c o e
    refine ih (i + 1) (ts ++ [T]) _ _ (by omega) hlt I2 ?_ (by rw [List.length_append, hts]; rfl) ?_ (bt.seq aS ha) (bt.seq bS hb) ?_ ?_ fun H' s' ts' I' kk hS' ht' hp' => hR H' s' ts' I' (fun c o nc e => kk c o nc (bt c o nc e)) hS' ht' hp'
    · rw [upd_same, List.map_append]
      rfl
    · intro j h1 h2 h3
      rw [List.length_append] at h1
      by_cases hj : j < ts.length
      · rw [List.getElem_append_left hj]
        have q := hp j hj h2 h3
        exact bt _ _ (ne_of q hS fun z => nomatch z) q
      · have e : j = ts.length := by
          have : [T].length = 1 := rfl
          omega
        subst e
        rw [List.getElem_append_right (Nat.le_refl _)]
        simp only [Nat.sub_self, List.getElem_cons_zero, hts]
        rw [upd_ne nTS.symm]
        exact hpT
    · refine st'.frame e2 rfl fun c o nc e => ?_
      exact (Heap.get?_update_other _ _ (Ne.symm nc)).trans e
    · intro c hc
      obtain ⟨f0, f1, f2, f3, f4, f5⟩ := hf c hc
      refine ⟨?_, f1, f2, f3, f4, f5⟩
      rw [upd_ne (live c hc), ← hH1, upd_ne (dT c hc)]
      exact f0
theorem ZSt.keep {l1 l2 : Addr} {k : Nat} {h h' : Heap} (q : ZSt z TI TO i1 i2 l1 l2 k h) (kk : ∀ c o, h.get? c = some o → h'.get? c = some o) : ZSt z TI TO i1 i2 l1 l2 k h' := by
  obtain ⟨h0, ⟨a, b, hTO⟩, hTI, ⟨o1, h1, c1, d1⟩, ⟨o2, h2, c2, d2⟩⟩ := q
  refine ⟨?_, ⟨a, b, kk _ _ hTO⟩, kk _ _ hTI, ⟨o1, kk _ _ h1, c1, d1⟩, ⟨o2, kk _ _ h2, c2, d2⟩⟩
  rcases h0 with e | ⟨T, f, p, q, n1, n2, n3, e, e2⟩
  · exact .inl (kk _ _ e)
  · exact .inr ⟨T, f, p, q, n1, n2, n3, kk _ _ e, kk _ _ e2⟩
theorem nolen_zip : typeLookup (.type "zip") "__len__" = pure none := by rw [typeLookup_type, builtinLookup_eq_fast]; kernel_rfl
theorem nohint_zip : typeLookup (.type "zip") "__length_hint__" = pure none := by rw [typeLookup_type, builtinLookup_eq_fast]; kernel_rfl
theorem list_of_zip {Q : VK} {xs ys : List V} (hc : X.calm = true) (D : ZipApart z TI TO i1 i2 a b) (I : Inv X pins σ H s) (hl : xs.length = ys.length) (hz : xs.length ≤ sizeLine) (ha : SqL X.K H a xs) (hb : SqL X.K H b ys) (zo : IsZip s.heap z TI TO .none) (st : ZSt z TI TO i1 i2 a b 0 s.heap)
    (hf : ∀ c, c ∈ [z, TO, i1, i2] → FpOk X pins H c) (hQ : ∀ l ts H', H l = none → Same H H' → H' l = some (.lst (ts.map V.ref)) → ts.length = xs.length → Pairs H' xs ys ts → Q (.ref l) H') :
    wpAny (model X.prog X.w) X.A (call (.type "list") [.ref z]) (EP X pins σ Q) X.xe s := by
  refine callType_codes (Q₁ := fun obj s₁ => obj = .ref s.heap.objs.size ∧ s₁ = { s with heap := s.heap.push { cls := .type "list", data := .seq #[] } }) PySem.F.called_list (PySem.F.typeCall_list_1 _) PySem.F.entry_list_init
    (code_list_new _ ⟨rfl, rfl⟩) fun obj s₁ h₁ => ?_
  obtain ⟨rfl, rfl⟩ := h₁
  have hS : (s.heap.push { cls := .type "list", data := .seq #[] }).get? s.heap.objs.size = some { cls := .type "list", data := .seq #[] } := Heap.get?_push_size _ rfl
  refine ⟨⟨_, hS, rfl⟩, PySem.F.args_list_init_2 _ _, ?_⟩
  have fr : H s.heap.objs.size = none := I.hok.fresh (Nat.le_refl _)
  have I1 : Inv X pins σ (upd H s.heap.objs.size (.lst [])) { s with heap := s.heap.push { cls := .type "list", data := .seq #[] } } := I.lnew (its := []) (t' := s.toks) .nil (Nat.zero_le _)
  show wpAny _ _ (do let old ← Builtin.List.listItems (.ref s.heap.objs.size); Builtin.List.listUpdate (.ref s.heap.objs.size) (fun _ => #[]); letGo old.toList.reverse; Builtin.List.listExtendWith (.ref s.heap.objs.size) (.ref z) .none) _ _ _
  refine wpAny_bind ?_
  unfold Builtin.List.listItems
  refine wpAny_bind (wpAny_seqItems hS rfl (wpAny_pure ?_))
  show wpAny _ _ (updateSeq s.heap.objs.size (fun _ => #[]) >>= fun _ => letGo (#[] : Array Value).toList.reverse >>= fun _ => Builtin.List.listExtendWith (.ref s.heap.objs.size) (.ref z) .none) _ _ _
  refine wpAny_bind (wpAny_updateSeq hS rfl ?_)
  have I2 := I1.lset (f := fun _ => #[]) (its := []) (its' := []) (ys := []) (t' := s.toks) upd_same hS rfl .nil (Nat.zero_le _)
  rw [upd_upd] at I2
  refine wpAny_bind (wpAny_letGo ?_)
  have st1 : ZSt z TI TO i1 i2 a b 0 (s.heap.push { cls := .type "list", data := .seq #[] }) := st.keep fun c o e => Heap.get?_push_of_some _ e
  have st2 : ZSt z TI TO i1 i2 a b 0 ((s.heap.push { cls := .type "list", data := .seq #[] }).update s.heap.objs.size (Obj.mapSeq fun _ => #[])) := st1.frame hS rfl fun c o nc e => (Heap.get?_update_other _ _ (Ne.symm nc)).trans e
  have zo1 : IsZip ((s.heap.push { cls := .type "list", data := .seq #[] }).update s.heap.objs.size (Obj.mapSeq fun _ => #[])) z TI TO .none := (Heap.get?_update_other _ _ (Nat.ne_of_gt (Heap.lt_size zo))).trans (Heap.get?_push_of_some _ zo)
  have zS : s.heap.objs.size ≠ z := Nat.ne_of_gt (Heap.lt_size zo)
  have nA : a ≠ s.heap.objs.size := by
    obtain ⟨_, _, p1, _⟩ := I.list ha
    exact Nat.ne_of_lt p1.lt
  have nB : b ≠ s.heap.objs.size := by
    obtain ⟨_, _, p1, _⟩ := I.list hb
    exact Nat.ne_of_lt p1.lt
  have dT : ∀ c, c ∈ [z, TO, i1, i2] → c ≠ s.heap.objs.size := fun c hc => by
    obtain ⟨⟨oz, gz, _⟩, ⟨ot, gt⟩, ⟨oi, gi⟩, ⟨oj, gj⟩⟩ := st.live
    have hc' : c = z ∨ c = TO ∨ c = i1 ∨ c = i2 := by simpa using hc
    rcases hc' with rfl | rfl | rfl | rfl
    · exact Nat.ne_of_lt (Heap.lt_size gz)
    · exact Nat.ne_of_lt (Heap.lt_size gt)
    · exact Nat.ne_of_lt (Heap.lt_size gi)
    · exact Nat.ne_of_lt (Heap.lt_size gj)
  generalize (s.heap.push { cls := .type "list", data := .seq #[] }).update s.heap.objs.size (Obj.mapSeq fun _ => #[]) = h2 at I2 st2 zo1 ⊢
  have ty : ({ s with heap := h2 } : Shared).TypeIs (.ref z) "zip" := ⟨_, zo1, rfl⟩
  generalize hS0 : s.heap.objs.size = S at *
  unfold Builtin.List.listExtendWith
  refine wpAny_bind (wpAny_typeOf ty ?_)
  have e1 : Builtin.List.listSameRef (.ref S) (.ref z) = false := by simp [Builtin.List.listSameRef, zS]
  have e2 : (Value.type "zip" == Value.type "list") = false := by decide
  have e3 : (Value.type "zip" == Value.type "tuple") = false := by decide
  simp only [e1, e2, e3, Bool.or_false, Bool.false_eq_true, if_false]
  refine wpAny_bind (wpAny_pyIter_zip zo1 ?_)
  refine wpAny_bind (wpAny_holding ?_)
  unfold Builtin.List.listLengthHint
  refine wpAny_bind (wpAny_specialOf ty nolen_zip ?_)
  show wpAny _ _ (specialOf (Value.ref z) (Str.ofString "__length_hint__") >>= _) _ _ _
  refine wpAny_bind (wpAny_specialOf ty nohint_zip ?_)
  refine wpAny_pure ?_
  show wpAny _ _ (rule "list.extend.makes-room" >>= fun _ => Builtin.List.listTouch (.ref S) >>= fun _ =>
    again (.builtin "list.extend.loop" ⟨[.ref S, .ref z, .none], []⟩)) _ _ _
  refine wpAny_bind (wpAny_rule ?_)
  refine wpAny_bind ?_
  show wpAny _ _ (updateSeq S (·.push .none) >>= fun _ => updateSeq S (·.pop)) _ _ _
  obtain ⟨z3, its3, k3, r3, hl3, e4⟩ := I2.lstM upd_same
  cases r3
  refine wpAny_bind (wpAny_updateSeq e4 rfl ?_)
  have I3 := I2.lset (f := (·.push Value.none)) (its := []) (its' := [Value.none]) (ys := [.non]) (t' := s.toks) upd_same e4 (by simp) (.cons rfl .nil) (by rw [List.length_singleton, sizeLine_eq]; decide)
  have st3 := st2.frame e4 rfl fun c o nc e => (Heap.get?_update_other h2 (f := Obj.mapSeq (·.push Value.none)) (Ne.symm nc)).trans e
  obtain ⟨z4, its4, k4, r4, hl4, e5⟩ := I3.lstM upd_same
  obtain ⟨u4, rfl, ru4⟩ := r4.one
  refine wpAny_updateSeq e5 rfl ?_ (by show 1 ≤ sizeLine; rw [sizeLine_eq]; decide) (by show 0 ≤ sizeLine + 1; exact Nat.zero_le _)
  have I5 := I3.lset (f := (·.pop)) (its := [u4]) (its' := []) (ys := []) (t' := s.toks) upd_same e5 (by rfl) .nil (Nat.zero_le _)
  have st5 := st3.frame e5 rfl fun c o nc e => (Heap.get?_update_other _ (f := Obj.mapSeq (·.pop)) (Ne.symm nc)).trans e
  rw [upd_upd, upd_upd] at I5
  refine wpAny_pure ⟨plainId_quiet PySem.F.plain_extend_loop _, zip_loop (A1 := X.A.in1) (Rs := wants (fun r s₂ => r = .none ∧ EP X pins σ Q (.ref S) s₂) X.xe) (I.ok.hd hc) D hl hz nA nB _ 0 [] _ _ rfl (Nat.zero_le _) I5 upd_same rfl (fun j h => nomatch h) ((same_new fr).seq ha) ((same_new fr).seq hb) st5 (fun c hcm => ?_) fun H' s' ts' I' kk hS' hl' hp' => ⟨rfl, .ref S, H', I', rfl, hQ S ts' H' fr (fun c o e => kk c o (ne_of_none e fr) (same_new fr c o e)) hS' hl' hp'⟩⟩
  obtain ⟨f0, f1, f2, f3, f4, f5⟩ := hf c hcm
  refine ⟨?_, f1, f2, f3, f4, f5⟩
  rw [upd_ne (dT c hcm)]
  exact f0
end
/-- list(zip(x, y)) of two lists of one length: a new list of new pairs -/
def tListZip (K : PySem.W.Frag) (ta : TA) : TE := fun σ H Q => ta σ H fun vs H1 => ∃ a b xs ys, vs = [.ref a, .ref b] ∧ SqL K H1 a xs ∧ SqL K H1 b ys ∧ xs.length = ys.length ∧
  ∀ (l : Addr) (ts : List Addr) (H' : Hp), H1 l = none → Same H1 H' → H' l = some (.lst (ts.map V.ref)) → ts.length = xs.length → Pairs H' xs ys ts → Q (.ref l) H'
theorem pe_listZip {X : Cx} {K : PySem.W.Frag} {e e2 : Expr} {ta : TA} {p p2 pos pos2 : Pos} (hK : X.K = K) (hc : X.calm = true) (hg : Gl X "list") (hm : X.mg "list" = none) (hg2 : Gl X "zip") (hm2 : X.mg "zip" = none) (ha : PA X [e, e2] ta)
    (na : starEach [Expr.Call (.Name "zip" p2) [e, e2] [] pos2] X.env = (false, eval (Expr.Call (.Name "zip" p2) [e, e2] [] pos2) X.env) :: starEach [] X.env := by rfl)
    (hs : starEach [e, e2] X.env = (false, eval e X.env) :: starEach [e2] X.env := by rfl) (hpl : (backTo pos2 (starEach [e2] X.env)).any (·.1) = false := by rfl) :
    PE X (.Call (.Name "list" p) [.Call (.Name "zip" p2) [e, e2] [] pos2] [] pos) (tListZip K ta) := by
  subst hK
  refine ⟨fun pins s σ H Q I h => ?_⟩
  have hz : wpAny (model X.prog X.w) X.A (eval (Expr.Call (.Name "zip" p2) [e, e2] [] pos2) X.env) (fun v s2 => wpAny (model X.prog X.w) X.A (call (.type "list") [v]) (EP X pins σ Q) X.xe s2) X.xe s := by
    refine Call_ (ld_blt I hg2 hm2 PyProof.Rows.boot_zip (PyProof.Rows.callWith_type1 (thn (ha.run pos2 pins s σ H _ I h) fun us s1 ⟨vs, H1, I1, r1, q1⟩ => ?_) hs hpl))
    obtain ⟨a, b, xs, ys, ex, hqx, hqy, hl, q⟩ := q1
    subst ex
    cases r1 with
    | cons r rr =>
      cases rr with
      | cons r' rr =>
        cases rr
        cases r
        cases r'
        obtain ⟨its, rv, p1, hz1⟩ := I1.list hqx
        obtain ⟨its2, rv2, p2, _⟩ := I1.list hqy
        have fresh5 : ∀ c, s1.heap.objs.size ≤ c → FpOk X pins H1 c := fun c hle => I1.fpOk hle (I1.hok.fresh hle)
        refine call_zip_2 p1.isList p2.isList fun h' hz hTI hTO h1 h2 hsz hk => ?_
        have I2 : Inv X pins σ H1 { s1 with heap := h' } := I1.kept (t' := s1.toks) hk
        refine list_of_zip hc (PySem.W.ktu_apart s1.heap.objs.size a b p1.lt p2.lt) I2 hl hz1 hqx hqy hz ⟨.inl hz, ⟨_, _, hTO⟩, hTI, h1, h2⟩ (fun c hcm => ?_) q
        have e' : c = s1.heap.objs.size + 4 ∨ c = s1.heap.objs.size + 3 ∨ c = s1.heap.objs.size ∨ c = s1.heap.objs.size + 1 := by simpa using hcm
        refine fresh5 c ?_
        rcases e' with z | z | z | z
        · rw [z]; exact Nat.le_add_right _ _
        · rw [z]; exact Nat.le_add_right _ _
        · rw [z]; exact Nat.le_refl _
        · rw [z]; exact Nat.le_add_right _ _
  exact Call_ (ld_blt I hg hm boot_list (PyProof.Rows.callWith_type1 (args_cons (thn hz fun v s2 q => args_nil q) na) na))
end Hn

/-! Sums -/
/-! plans by their sums at the marks -/
namespace Clk
/-- the sum ahead of mark t -/
def M (f : Int → Int) (t : Int) : Int := Sum t.toNat f
theorem M_zero (f : Int → Int) : M f 0 = 0 := rfl
theorem M_next (f : Int → Int) (k : Nat) : M f ((k : Int) + 1) = M f k + f k := by
  show Sum ((k : Int) + 1).toNat f = Sum ((k : Int)).toNat f + f k
  rw [show ((k : Int) + 1).toNat = k + 1 by omega, Int.toNat_natCast]
  rfl
theorem M_up {f : Int → Int} {n : Nat} (h : ∀ i : Nat, i < n → 0 ≤ f i) (k : Nat) (hk : k < n) : M f k ≤ M f ((k : Int) + 1) := by
  rw [M_next]
  have := h k hk
  omega
/-- what begins, by the sums: the marks of these begins are the sums -/
theorem M_back {s : Int → Int} (h0 : s 0 = 0) : ∀ k : Nat, M (fun i => s (i + 1) - s i) k = s k
  | 0 => h0.symm
  | k + 1 => by
    have ih := M_back h0 k
    have z := M_next (fun i => s (i + 1) - s i) k
    rw [show ((k + 1 : Nat) : Int) = (k : Int) + 1 by omega, z, ih]
    show s k + (s ((k : Int) + 1) - s k) = _
    omega
theorem M_congr {f g : Int → Int} {n : Nat} (h : ∀ i : Nat, i < n → f i = g i) : ∀ k : Nat, k ≤ n → M f k = M g k := fun k hk => by
  show Sum ((k : Int)).toNat f = Sum ((k : Int)).toNat g
  rw [Int.toNat_natCast]
  exact Sum_congr fun i hi => h i (by omega)
end Clk
namespace Hn
open PySem L2
/-- the sums at all marks -/
def spMarks (K : PySem.W.Frag) : Sp := fun vs H Q _ => ∃ (t : Addr) (ms : List Int), vs = [.ref t] ∧ SqT K H t (iv ms) ∧ ms.length ≤ 48 ∧ ∀ l H', H l = none → Same H H' → H' l = some (.lst (iv (Clk.row (ms.length + 1) (Clk.M (Clk.S ms))))) → Q (.ref l) H'
/-- two rows by pairs of their sums -/
def spPairs (K : PySem.W.Frag) : Sp := fun vs H Q _ => ∃ (t u : Addr) (ms ns : List Int), vs = [.ref t, .ref u] ∧ SqT K H t (iv ms) ∧ SqT K H u (iv ns) ∧ ms.length = ns.length ∧ ms.length ≤ 48 ∧
  ∀ l ts H', H l = none → Same H H' → H' l = some (.lst (ts.map V.ref)) → ts.length = ms.length + 1 → Pairs H' (iv (Clk.row (ms.length + 1) (Clk.M (Clk.S ms)))) (iv (Clk.row (ms.length + 1) (Clk.M (Clk.S ns)))) ts → Q (.ref l) H'
def spSamePeople (K : PySem.W.Frag) : Sp := fun vs H Q _ => ∃ (t u : Addr) (ms ns : List Int), vs = [.ref t, .ref u] ∧ SqT K H t (iv ms) ∧ SqT K H u (iv ns) ∧ ms.length = ns.length ∧ ms.sum = ns.sum ∧ Q .non H
end Hn
namespace Hn
open PySem L2
/-- a comprehension over a list of pairs: elements that change nothing -/
theorem lc_pairsL {K : PySem.W.Frag} {L : Addr} {ts : List Addr} {xs ys : List V} {te : TE} {p r : Nat} {σ : L2.St} {H1 : Hp} {D : Addr} {Qd : Hp → Prop} (f : Nat → V) (hpr : p ≠ r) (hl : ts.length = xs.length) (hl2 : xs.length = ys.length) (hL : SqL K H1 L (ts.map V.ref)) (hP : Pairs H1 xs ys ts) (nD : H1 D = none) (hz : xs.length ≤ 10000)
    (he : ∀ i (hi : i < xs.length) (hi2 : i < ys.length) (H : Hp) (R : VK), Same H1 H → (∀ H4, Same H H4 → R (f i) H4) → te (((wipe σ [p, r]).set p (some xs[i])).set r (some ys[i])) H R)
    (hd : ∀ H, Same H1 H → H D = some (.lst ((List.range xs.length).map f)) → Qd H) : LcG (Itl K L) (gTup K 2 (gCons (gName p) (gCons (gName r) gNil))) tYes te [p, r] σ H1 D Qd := by
  refine ⟨fun i m H => m = xs.length - i ∧ i ≤ xs.length ∧ Same H1 H ∧ H D = some (.lst ((List.range i).map f)), ⟨_, rfl, Nat.zero_le _, same_new nD, upd_same⟩, ?_⟩
  rintro i m H ⟨rfl, hi, sm, hD⟩
  have q := sm.seq hL
  by_cases hlt : i < xs.length
  · have hlt2 : i < ys.length := by omega
    have hlt3 : i < ts.length := by omega
    have et : (ts.map V.ref)[i]? = some (.ref ts[i]) := by rw [List.getElem?_map, List.getElem?_eq_getElem hlt3]; rfl
    refine .inr ⟨⟨_, _, q, et⟩, fun H' => Same H1 H' ∧ H' D = some (.lst ((List.range (i + 1)).map f)), fun H' p' => ⟨xs.length - (i + 1), by omega, rfl, hlt, p'⟩, ?_⟩
    rintro x H' ⟨rfl, hx⟩
    have e := hx _ q
    rw [et] at e
    cases e
    refine ⟨ts[i], _, rfl, .inl (.inl (sm _ _ (hP i hlt3 hlt hlt2))), rfl, _, _, rfl, _, _, rfl, rfl, wipe_two _ _ _ hpr _ _, ?_⟩
    refine he i hlt hlt2 _ _ sm fun H4 s4 => ?_
    obtain ⟨q1, q2, q3⟩ := same_turn (f := f) nD sm hD s4
    exact ⟨_, q1, by rw [List.length_map, List.length_range]; exact small_line (by omega), q2, q3⟩
  · obtain rfl : i = xs.length := by omega
    exact .inl ⟨⟨_, q, by rw [List.length_map]; omega⟩, hd H sm hD⟩
/-- two plans of one number of people, by their sums -/
def spBySums (K : PySem.W.Frag) (C : Addr) (op : Int → Int → Int) : Sp := fun vs H Q _ => ∃ (p r : Addr) (ms ns : List Int), vs = [.ref p, .ref r] ∧ RowAt K C "_begins" H p ms ∧ RowAt K C "_begins" H r ns ∧ ms.length = ns.length ∧ ms.sum = ns.sum ∧
  ∀ z H', H z = none → Same H H' → RowAt K C "_begins" H' z (Clk.row ms.length fun i => op (Clk.M (Clk.S ms) (i + 1)) (Clk.M (Clk.S ns) (i + 1)) - op (Clk.M (Clk.S ms) i) (Clk.M (Clk.S ns) i)) → Q (.ref z) H'
def spWithinS (K : PySem.W.Frag) (C : Addr) : Sp := fun vs H Q _ => ∃ (p r : Addr) (ms ns : List Int), vs = [.ref p, .ref r] ∧ RowAt K C "_begins" H p ms ∧ RowAt K C "_begins" H r ns ∧ ms.length = ns.length ∧ ms.sum = ns.sum ∧
  ∀ H', Same H H' → Q (.bl (decide (∀ k : Nat, k < ms.length + 1 → Clk.M (Clk.S ms) k ≤ Clk.M (Clk.S ns) k))) H'
end Hn

/-! EvS -/
/-! plans of one number of people, evaluated by their sums at the marks -/
namespace Hn
open PySem PySem.Spec L2 Evl
/-- what begins, of the sums s -/
def ds (s : Int → Int) : Int → Int := fun i => s (i + 1) - s i
/-- a plan of T people comes out, its sum at mark k is s k -/
def EvS (K : PySem.W.Frag) (C : Addr) (n : Nat) (T : Int) (te : TE) (σ : L2.St) (H : Hp) (s : Int → Int) : Prop :=
  s 0 = 0 ∧ s n = T ∧ EvR K C "_begins" n te σ H (ds s)
section
variable {K : PySem.W.Frag} {C : Addr} {n : Nat} {T : Int} {σ : L2.St} {H H' : Hp} {ta tb te : TE} {s s1 s2 : Int → Int}
theorem M_row (h0 : s 0 = 0) (hn : 0 < n) : ∀ k : Nat, k ≤ n → Clk.M (Clk.S (Clk.row n (ds s))) k = s k := fun k hk => by
  rw [Clk.M_congr (n := n) (g := fun i => s (i + 1) - s i) (fun i hi => ?_) k hk, Clk.M_back h0]
  rw [Clk.S_row hn, Int.emod_eq_of_lt (by omega) (by omega)]
  rfl
theorem M_row1 (h0 : s 0 = 0) (hn : 0 < n) (k : Nat) (hk : k < n) : Clk.M (Clk.S (Clk.row n (ds s))) ((k : Int) + 1) = s ((k : Int) + 1) := by
  have z := M_row h0 hn (k + 1) (by omega)
  rwa [show ((k + 1 : Nat) : Int) = (k : Int) + 1 by omega] at z
theorem sum_ds (h0 : s 0 = 0) : Clk.Sum n (ds s) = s n := by
  have z := Clk.M_back h0 n
  rw [← z]
  show _ = Clk.Sum ((n : Int)).toNat _
  rw [Int.toNat_natCast]
  rfl
theorem es_var {i : Nat} {p : Addr} (h : σ[i]? = some (some (.ref p))) (h0 : s 0 = 0) (hT : s n = T) (hR : RowAt K C "_begins" H p (Clk.row n (ds s))) : EvS K C n T (tVar i) σ H s := ⟨h0, hT, er_var h hR⟩
theorem es_bin {op : Int → Int → Int} {E : XK} (o0 : op 0 0 = 0) (oT : op T T = T) (ha : EvS K C n T ta σ H s1) (hb : EvS K C n T tb σ H s2) : EvS K C n T (tOp (rBinOwn C (spBySums K C op) E) ta tb) σ H (fun t => op (s1 t) (s2 t)) := by
  obtain ⟨a0, aT, ha⟩ := ha
  obtain ⟨b0, bT, hb⟩ := hb
  refine ⟨by show op (s1 0) (s2 0) = 0; rw [a0, b0, o0], by show op (s1 n) (s2 n) = T; rw [aT, bT, oT], fun H1 e Q q => ha H1 e _ fun p H2 e2 hP => hb H2 (e.trans e2) _ fun r H3 e3 hR => ?_⟩
  have hP' := hP.same e3
  have pos := row_pos hP
  obtain ⟨dx, t, h1, _⟩ := hP'.ex
  obtain ⟨dy, u, h2, _⟩ := hR.ex
  refine ⟨p, r, dx, dy, _, _, rfl, rfl, h1, h2, p, r, _, _, rfl, hP', hR, by rw [Clk.row_len, Clk.row_len], by rw [Clk.sum_row, Clk.sum_row, sum_ds a0, sum_ds b0, aT, bT], fun z H4 nz e4 hZ => ⟨z, rfl, q z H4 ((e2.trans e3).trans e4) ?_⟩⟩
  rw [Clk.row_len] at hZ
  rw [show Clk.row n (ds fun t => op (s1 t) (s2 t)) = Clk.row n fun i => op (Clk.M (Clk.S (Clk.row n (ds s1))) (i + 1)) (Clk.M (Clk.S (Clk.row n (ds s2))) (i + 1)) - op (Clk.M (Clk.S (Clk.row n (ds s1))) i) (Clk.M (Clk.S (Clk.row n (ds s2))) i) from Clk.row_congr fun i hi => ?_]
  · exact hZ
  · rw [M_row1 a0 pos i hi, M_row1 b0 pos i hi, M_row a0 pos i (by omega), M_row b0 pos i (by omega)]
    rfl
theorem es_and {E : XK} (ha : EvS K C n T ta σ H s1) (hb : EvS K C n T tb σ H s2) : EvS K C n T (tOp (rBinOwn C (spBySums K C mnI) E) ta tb) σ H (fun t => min (s1 t) (s2 t)) := by
  have q := es_bin (E := E) (op := mnI) rfl (by unfold mnI; split <;> rfl) ha hb
  rw [show (fun t => mnI (s1 t) (s2 t)) = fun t => min (s1 t) (s2 t) from funext fun t => mnI_eq _ _] at q
  exact q
theorem es_or {E : XK} (ha : EvS K C n T ta σ H s1) (hb : EvS K C n T tb σ H s2) : EvS K C n T (tOp (rBinOwn C (spBySums K C mxI) E) ta tb) σ H (fun t => max (s1 t) (s2 t)) := by
  have q := es_bin (E := E) (op := mxI) rfl (by unfold mxI; split <;> rfl) ha hb
  rw [show (fun t => mxI (s1 t) (s2 t)) = fun t => max (s1 t) (s2 t) from funext fun t => mxI_eq _ _] at q
  exact q
theorem ds_inj (h1 : s1 0 = 0) (h2 : s2 0 = 0) : Clk.row n (ds s1) = Clk.row n (ds s2) ↔ ∀ k : Nat, k ≤ n → s1 k = s2 k := by
  rw [row_inj]
  constructor
  · intro h k hk
    have z := Clk.M_congr (n := n) (f := fun i => s1 (i + 1) - s1 i) (g := fun i => s2 (i + 1) - s2 i) h k hk
    rwa [Clk.M_back h1, Clk.M_back h2] at z
  · intro h i hi
    have a := h i (by omega)
    have b := h (i + 1) (by omega)
    rw [show ((i + 1 : Nat) : Int) = (i : Int) + 1 by omega] at b
    show s1 ((i : Int) + 1) - s1 i = s2 ((i : Int) + 1) - s2 i
    omega
/-- a != b: not so -/
theorem es_same {E : XK} (ha : EvS K C n T ta σ H s1) (hb : EvS K C n T tb σ H s2) (h : ∀ k : Nat, k ≤ n → s1 k = s2 k) : EvT (tTest (tOp (rCmpOwn C (spRowEq K C "_begins") E true) ta tb)) σ H false :=
  et_f (ev_cmpR ha.2.2 hb.2.2) (by rw [decide_eq_true ((ds_inj ha.1 hb.1).mpr h)]; rfl)
theorem ev_eqS {E : XK} (ha : EvS K C n T ta σ H s1) (hb : EvS K C n T tb σ H s2) : Ev (tOp (rCmpOwn C (spRowEq K C "_begins") E false) ta tb) σ H (.bl (decide (∀ k : Nat, k ≤ n → s1 k = s2 k))) := by
  have q := ev_eqR (E := E) ha.2.2 hb.2.2
  rw [show decide (Clk.row n (ds s1) = Clk.row n (ds s2)) = decide (∀ k : Nat, k ≤ n → s1 k = s2 k) from decide_eq_decide.mpr (ds_inj ha.1 hb.1)] at q
  exact q
theorem ev_withinS {E : XK} (ha : EvS K C n T ta σ H s1) (hb : EvS K C n T tb σ H s2) : Ev (tMeth C "within" (spWithinS K C) [] E ta (tCons tb tNil)) σ H (.bl (decide (∀ k : Nat, k ≤ n → s1 k ≤ s2 k))) := fun H1 e Q q =>
  ha.2.2 H1 e _ fun p H2 e2 hP => by
    obtain ⟨dx, t, h1, _⟩ := hP.ex
    have pos := row_pos hP
    refine ⟨p, dx, _, rfl, h1, look_other (by decide +kernel), hb.2.2 H2 (e.trans e2) _ fun r H3 e3 hR => ⟨p, r, _, _, rfl, hP.same e3, hR, by rw [Clk.row_len, Clk.row_len], by rw [Clk.sum_row, Clk.sum_row, sum_ds ha.1, sum_ds hb.1, ha.2.1, hb.2.1], fun H4 e4 => ?_⟩⟩
    rw [Clk.row_len, show decide (∀ k : Nat, k < n + 1 → Clk.M (Clk.S (Clk.row n (ds s1))) k ≤ Clk.M (Clk.S (Clk.row n (ds s2))) k) = decide (∀ k : Nat, k ≤ n → s1 k ≤ s2 k) from decide_eq_decide.mpr ⟨fun h k hk => ?_, fun h k hk => ?_⟩]
    · exact q H4 ((e2.trans e3).trans e4)
    · have z := h k (by omega)
      rwa [M_row ha.1 pos k hk, M_row hb.1 pos k hk] at z
    · rw [M_row ha.1 pos k (by omega), M_row hb.1 pos k (by omega)]
      exact h k (by omega)
theorem ev_people {E : XK} (ha : EvS K C n T ta σ H s) : Ev (tProp C (spRowSum K C "_begins") [] E ta) σ H (.int T) := by
  have q := ev_sumR (E := E) ha.2.2
  rw [sum_ds ha.1, ha.2.1] at q
  exact q
/-- x = a plan -/
theorem es_asg {D : Ends} {tz : TS} {i : Nat} (ha : EvS K C n T ta σ H s) (k : ∀ p H1, Ex H H1 → s 0 = 0 → s n = T → RowAt K C "_begins" H1 p (Clk.row n (ds s)) → tz D (σ.set i (some (.ref p))) H1) : tSeq (tAsg ta (gName i)) tz D σ H :=
  ha.2.2 H (Ex.refl H) _ fun p H1 e1 hp => k p H1 e1 ha.1 ha.2.1 hp
/-- x, y = two plans -/
theorem es_par2 {D : Ends} {tz : TS} {i j : Nat} (ha : EvS K C n T ta σ H s1) (hb : EvS K C n T tb σ H s2)
    (k : ∀ p r H1, Ex H H1 → s1 0 = 0 → s1 n = T → RowAt K C "_begins" H1 p (Clk.row n (ds s1)) → s2 0 = 0 → s2 n = T → RowAt K C "_begins" H1 r (Clk.row n (ds s2)) → tz D ((σ.set i (some (.ref p))).set j (some (.ref r))) H1) :
    tSeq (tPar i j (tCons ta (tCons tb tNil))) tz D σ H :=
  ha.2.2 H (Ex.refl H) _ fun p H1 e1 hp => hb.2.2 H1 e1 _ fun r H2 e2 hr => ⟨_, _, rfl, k p r H2 (e1.trans e2) ha.1 ha.2.1 (hp.same e2) hb.1 hb.2.1 hr⟩
end
end Hn
namespace Hn
open PySem PySem.Spec L2 Evl
section
variable {σ : L2.St} {H : Hp} {ta tb : TE}
theorem el_catL {xs ys : List V} (ha : EvL ta σ H xs) (hb : EvL tb σ H ys) (hz : xs.length + ys.length ≤ 10000) : EvL (tOp rCat ta tb) σ H (xs ++ ys) := fun H1 e Q k =>
  ha H1 e _ fun p H2 np e2 hp => hb H2 (e.trans e2) _ fun q H3 nq e3 hq => ⟨p, q, xs, ys, rfl, rfl, e3 _ _ hp, hq, small_line' hz, fun r nr => k r _ (fresh_back (e2.trans e3) nr) ((e2.trans e3).trans (Ex.new nr)) upd_same⟩
theorem el_catV {q : Addr} {xs ys : List V} (ha : EvL ta σ H xs) (hb : Ev tb σ H (.ref q)) (hq : H q = some (.lst ys)) (hz : xs.length + ys.length ≤ 10000) : EvL (tOp rCat ta tb) σ H (xs ++ ys) := fun H1 e Q k =>
  ha H1 e _ fun p H2 np e2 hp => hb H2 (e.trans e2) _ fun H3 e3 => ⟨p, q, xs, ys, rfl, rfl, e3 _ _ hp, ((e.trans e2).trans e3) _ _ hq, small_line' hz, fun r nr => k r _ (fresh_back (e2.trans e3) nr) ((e2.trans e3).trans (Ex.new nr)) upd_same⟩
end
/-- drawn cuts in order, nought ahead, all people behind -/
def cutS (cs : List Int) (W : Int) (k : Int) : Int := (0 :: cs ++ [W]).getD k.toNat 0
theorem cutS_zero (cs : List Int) (W : Int) : cutS cs W 0 = 0 := rfl
theorem cutS_last (cs : List Int) (W : Int) : cutS cs W ((cs.length : Int) + 1) = W := by
  unfold cutS
  rw [show ((cs.length : Int) + 1).toNat = cs.length + 1 by omega]
  simp
theorem cutS_up {cs : List Int} {W : Int} (hp : cs.Pairwise (· ≤ ·)) (hb : ∀ x ∈ cs, 0 ≤ x ∧ x ≤ W) (h0 : 0 ≤ W) (k : Nat) (hk : k < cs.length + 1) : cutS cs W k ≤ cutS cs W ((k : Int) + 1) := by
  have pw : (0 :: cs ++ [W]).Pairwise (· ≤ ·) := by
    rw [List.cons_append, List.pairwise_cons, List.pairwise_append]
    refine ⟨fun x hx => ?_, hp, List.pairwise_singleton _ _, fun x hx y hy => ?_⟩
    · rcases List.mem_append.mp hx with h | h
      · exact (hb x h).1
      · rw [List.mem_singleton.mp h]; exact h0
    · rw [List.mem_singleton.mp hy]; exact (hb x hx).2
  have l : (0 :: cs ++ [W]).length = cs.length + 2 := by simp
  unfold cutS
  rw [show ((k : Int) + 1).toNat = k + 1 by omega, Int.toNat_natCast, List.getD_eq_getElem?_getD, List.getD_eq_getElem?_getD, List.getElem?_eq_getElem (by omega), List.getElem?_eq_getElem (by omega)]
  exact List.pairwise_iff_getElem.mp pw k (k + 1) (by omega) (by omega) (by omega)
theorem at_cut {cs : List Int} {W : Int} {i : Int} (h0 : 0 ≤ i) (hn : i < cs.length + 2) : atI (iv (0 :: cs ++ [W])) i = some (.int (cutS cs W i)) := by
  obtain ⟨j, rfl⟩ := Int.eq_ofNat_of_zero_le h0
  have l : (0 :: cs ++ [W]).length = cs.length + 2 := by simp
  have hj : j < (0 :: cs ++ [W]).length := by omega
  refine atI_nat ?_
  rw [iv_get hj]
  unfold cutS
  rw [Int.toNat_natCast, List.getD_eq_getElem?_getD, List.getElem?_eq_getElem hj]
  rfl
end Hn

/-! Lnk -/
/-! links and marks as they stand in the heap -/
namespace Hn
open PySem PySem.Spec L2 Evl
abbrev Lkv := Stl.Lk V
/-- what is asked, as tuples of four -/
def Asks (K : PySem.W.Frag) (H : Hp) (a : Addr) (ks : List Lkv) : Prop := ∃ ts : List Addr, SqL K H a (ts.map V.ref) ∧ ts.length = ks.length ∧ ∀ i (h : i < ts.length) (h2 : i < ks.length), H ts[i] = some (.tup [.int ks[i].f, .int ks[i].l, .int ks[i].w, ks[i].nm])
/-- all but two -/
def But2 (r t : Addr) (H H' : Hp) : Prop := ∀ b o, b ≠ r → b ≠ t → H b = some o → H' b = some o
theorem But2.refl {r t : Addr} {H : Hp} : But2 r t H H := fun _ _ _ _ h => h
theorem But2.trans {r t : Addr} {H H1 H2 : Hp} (a : But2 r t H H1) (b : But2 r t H1 H2) : But2 r t H H2 := fun c o h1 h2 h => b c o h1 h2 (a c o h1 h2 h)
theorem But2.of {r t : Addr} {H H1 : Hp} (a : Same H H1) : But2 r t H H1 := fun c o _ _ h => a c o h
theorem But2.left {r t : Addr} {H : Hp} {o : HO} : But2 r t H (upd H r o) := fun c _ h1 _ h => by rw [upd_ne h1]; exact h
theorem But2.right {r t : Addr} {H : Hp} {o : HO} : But2 r t H (upd H t o) := fun c _ _ h2 h => by rw [upd_ne h2]; exact h
theorem But2.seq {K : PySem.W.Frag} {r t a : Addr} {H H1 : Hp} {xs : List V} (b : But2 r t H H1) (nr : a ≠ r) (nt : a ≠ t) (h : SqL K H a xs) : SqL K H1 a xs := by
  rcases h with (h | ⟨o, h⟩) | h
  · exact .inl (.inl (b _ _ nr nt h))
  · exact .inl (.inr ⟨o, b _ _ nr nt h⟩)
  · exact .inr h
theorem Asks.but {K : PySem.W.Frag} {r t a : Addr} {H H1 : Hp} {ks : List Lkv} (q : Asks K H a ks) (b : But2 r t H H1) (nr : a ≠ r) (nt : a ≠ t) (hr : ∃ xs, H r = some (.lst xs)) (ht : ∃ xs, H t = some (.lst xs)) : Asks K H1 a ks := by
  obtain ⟨ts, h1, h2, h3⟩ := q
  obtain ⟨_, hr⟩ := hr
  obtain ⟨_, ht⟩ := ht
  refine ⟨ts, b.seq nr nt h1, h2, fun i h h' => ?_⟩
  have z := h3 i h h'
  exact b _ _ (ne_of z hr fun z => nomatch z) (ne_of z ht fun z => nomatch z) z
theorem Asks.same {K : PySem.W.Frag} {H H1 : Hp} {a : Addr} {ks : List Lkv} (h : Asks K H a ks) (s : Same H H1) : Asks K H1 a ks := by
  obtain ⟨ts, h1, h2, h3⟩ := h
  exact ⟨ts, s.seq h1, h2, fun i h h' => s _ _ (h3 i h h')⟩
/-- what raised each mark, as a list -/
def tkV (n : Nat) (T : Int → Option Lkv) (A : Int → Addr) : List V := (List.range n).map fun i : Nat => match T i with
  | some _ => V.ref (A i)
  | none => V.non
theorem tkV_len (n : Nat) (T : Int → Option Lkv) (A : Int → Addr) : (tkV n T A).length = n := by
  unfold tkV
  rw [List.length_map, List.length_range]
theorem tkV_get {n : Nat} {T : Int → Option Lkv} {A : Int → Addr} {i : Nat} (h : i < n) : (tkV n T A)[i]? = some (match T i with
  | some _ => V.ref (A i)
  | none => V.non) := by
  unfold tkV
  rw [List.getElem?_map, List.getElem?_range h]
  rfl
/-- the marks and what raised them, in two lists -/
structure Marks (H : Hp) (r t : Addr) (n : Nat) (R : Int → Int) (T : Int → Option Lkv) : Prop where
  rl : H r = some (.lst (iv (Clk.row n R)))
  tl : ∃ A : Int → Addr, H t = some (.lst (tkV n T A)) ∧ ∀ (i : Nat) k, i < n → T i = some k → H (A i) = some (.tup [.int k.f, k.nm])
theorem Marks.same {H H1 : Hp} {r t : Addr} {n : Nat} {R : Int → Int} {T : Int → Option Lkv} (m : Marks H r t n R T) (s : Same H H1) : Marks H1 r t n R T := by
  obtain ⟨h, A, h1, h2⟩ := m
  exact ⟨s _ _ h, A, s _ _ h1, fun i k hi e => s _ _ (h2 i k hi e)⟩
/-- in range -/
def InR (n : Nat) (ks : List Lkv) : Prop := ∀ k ∈ ks, (0 ≤ k.f ∧ k.f < n) ∧ 0 ≤ k.l ∧ k.l < n
theorem row_set {n : Nat} {R : Int → Int} {i : Nat} (hi : i < n) (y : Int) : (iv (Clk.row n R)).set i (.int y) = iv (Clk.row n (Stl.upI R i y)) := by
  apply List.ext_getElem
  · rw [List.length_set, iv_len, iv_len, Clk.row_len, Clk.row_len]
  · intro j h1 h2
    rw [List.getElem_set]
    have at_ : ∀ (f : Int → Int) (q : j < (iv (Clk.row n f)).length), (iv (Clk.row n f))[j] = V.int (f j) := fun f q => by
      unfold iv Clk.row
      simp
    by_cases e : i = j
    · subst e
      rw [if_pos rfl, at_, Stl.upI_same]
    · rw [if_neg e, at_, at_, Stl.upI_ne (by omega)]
theorem tkV_set {n : Nat} {T : Int → Option Lkv} {A : Int → Addr} {i : Nat} (hi : i < n) (k : Lkv) (p : Addr) : (tkV n T A).set i (.ref p) = tkV n (Stl.upI T i (some k)) (Stl.upI A i p) := by
  apply List.ext_getElem
  · rw [List.length_set, tkV_len, tkV_len]
  · intro j h1 h2
    rw [List.getElem_set]
    have at_ : ∀ (T : Int → Option Lkv) (A : Int → Addr) (q : j < (tkV n T A).length), (tkV n T A)[j] = (match T j with
      | some _ => V.ref (A j)
      | none => V.non) := fun T A q => by
      have z := List.getElem?_eq_getElem q
      rw [tkV_get (by rw [tkV_len] at q; exact q)] at z
      exact (Option.some.inj z).symm
    by_cases e : i = j
    · subst e
      rw [if_pos rfl, at_, Stl.upI_same, Stl.upI_same]
    · rw [if_neg e, at_, at_, Stl.upI_ne (by omega), Stl.upI_ne (by omega)]
/-- a mark, or none -/
def oV : Option Int → V
  | some i => .int i
  | none => .non
/-- one round -/
def spGo (K : PySem.W.Frag) : Sp := fun vs H Q _ => ∃ (a r t : Addr) (ks : List Lkv) (n : Nat) (s : Stl.Sg V), vs = [.ref a, .ref r, .ref t] ∧ Asks K H a ks ∧ Marks H r t n s.R s.T ∧ InR n ks ∧ n ≤ 100 ∧ ks.length ≤ 1000 ∧ a ≠ r ∧ a ≠ t ∧ r ≠ t ∧
  ∀ H', But2 r t H H' → Marks H' r t n (Stl.go ks s).R (Stl.go ks s).T → Q (oV (Stl.go ks s).r) H'
section
variable {σ : L2.St} {H : Hp} {te ta tb : TE} {D : Ends} {tz : TS}
/-- xs[i] = a new tuple -/
theorem q_setU {l : Addr} {xs ys : List V} {j : Nat} (hl : H l = some (.lst xs)) (h : EvU te σ H ys) (ho : Ev ta σ H (.ref l)) (hi : Ev tb σ H (.int (j : Int))) (hj : j < xs.length) (k : ∀ p H1, H p = none → Ex H H1 → H1 p = some (.tup ys) → tz D σ (upd H1 l (.lst (xs.set j (.ref p))))) :
    tSeq (tAsg te (gSub ta tb rSetL)) tz D σ H := h H (Ex.refl H) _ fun p H1 np e1 hp => ho H1 e1 _ fun H2 e2 => hi H2 (e1.trans e2) _ fun H3 e3 =>
  ⟨l, xs, (j : Int), j, rfl, rfl, ((e1.trans e2).trans e3) l _ hl, ixN_nat hj, k p H3 np ((e1.trans e2).trans e3) ((e2.trans e3) _ _ hp)⟩
theorem q_un2 {K : PySem.W.Frag} {i j : Nat} {p : Addr} {x y : V} (h : Ev te σ H (.ref p)) (hp : H p = some (.tup [x, y])) (k : ∀ H1, Ex H H1 → tz D ((σ.set i (some x)).set j (some y)) H1) :
    tSeq (tAsg te (gTup K 2 (gCons (gName i) (gCons (gName j) gNil)))) tz D σ H :=
  h H (Ex.refl H) _ fun H1 e1 => ⟨p, _, rfl, .inl (.inl (e1 _ _ hp)), rfl, _, _, rfl, _, _, rfl, rfl, k H1 e1⟩
end
section
variable {K : PySem.W.Frag} {σ : L2.St} {H : Hp} {ta tb : TE}
/-- list(xs) -/
theorem el_listK {p : Addr} {xs : List V} (ha : Ev ta σ H (.ref p)) (hp : SqL K H p xs) : EvL (tCB (rListK K) (tCons ta tNil)) σ H xs := fun H1 e Q q =>
  ha H1 e _ fun H2 e2 => ⟨p, xs, rfl, .inl (ex_l (e.trans e2) hp), fun l nl => q l _ (fresh_back e2 nl) (e2.trans (Ex.new nl)) upd_same⟩
/-- len(xs) -/
theorem ev_lenK {p : Addr} {xs : List V} {n : Nat} (ha : Ev ta σ H (.ref p)) (hp : SqL K H p xs) (hn : xs.length = n) : Ev (tCB (rLenK K) (tCons ta tNil)) σ H (.int (n : Nat)) := fun H1 e Q q =>
  ha H1 e _ fun H2 e2 => ⟨p, xs, rfl, .inl (ex_l (e.trans e2) hp), by rw [hn]; exact q H2 e2⟩
/-- [x] * n -/
theorem el_repV {v : V} {n : Nat} (ha : Ev ta σ H v) (hb : Ev tb σ H (.int (n : Nat))) (n1 : n ≤ 10000) : EvL (tOp rRep (tLst (tCons ta tNil)) tb) σ H (List.replicate n v) := fun H1 e Q q =>
  el_lst (ea_cons ha ea_nil) (by show 1 ≤ 100000; decide) H1 e _ fun l H2 nl e2 hl => hb H2 (e.trans e2) _ fun H3 e3 => ⟨l, n, _, rfl, rfl, e3 _ _ hl, by omega, by omega, by
    rw [Int.toNat_natCast]
    exact small_line' (by simp; omega), fun p np => q p _ (fresh_back (e2.trans e3) np) ((e2.trans e3).trans (Ex.new np)) (by
      rw [upd_same, Int.toNat_natCast]
      have z : ∀ n : Nat, (List.replicate n [v]).flatten = List.replicate n v := fun n => by
        induction n with
        | zero => rfl
        | succ n ih =>
          rw [List.replicate_succ, List.replicate_succ, List.flatten_cons, ih]
          rfl
      rw [z])⟩
theorem tkV_none (n : Nat) (A : Int → Addr) : List.replicate n V.non = tkV n (fun _ => none) A := by
  unfold tkV
  show _ = (List.range n).map fun _ => V.non
  rw [List.map_const', List.length_range]
end
/-- the links' names that go round -/
def spNames (K : PySem.W.Frag) : Sp := fun vs H Q _ => ∃ (t : Addr) (m : Int) (n q : Nat) (T : Int → Option Lkv) (A : Int → Addr), vs = [.ref t, .int m] ∧ H t = some (.lst (tkV n T A)) ∧ (∀ (i : Nat) k, i < n → T i = some k → H (A i) = some (.tup [.int k.f, k.nm])) ∧ n ≤ 100 ∧
  (∀ j, (∃ k, T (Stl.bk T m j) = some k) ∧ 0 ≤ Stl.bk T m j ∧ Stl.bk T m j < n) ∧ 0 < q ∧ q ≤ 1000 ∧ Stl.bk T (Stl.bk T m n) q = Stl.bk T m n ∧ (∀ i, 0 < i → i < q → Stl.bk T (Stl.bk T m n) i ≠ Stl.bk T m n) ∧
  ∀ p H', H p = none → Same H H' → H' p = some (.lst ((Stl.bl T (Stl.bk T m n) q).reverse.map Stl.Lk.nm)) → Q (.ref p) H'
/-- a link that leads on by days -/
structure L5 where
  f : Int
  l : Int
  d : Int
  w : Int
  nm : V
def ask (p : Int) (k : L5) : Lkv := ⟨k.f, k.l, k.w - k.d * p, k.nm⟩
/-- links, as tuples of five -/
def Lnks (K : PySem.W.Frag) (H : Hp) (a : Addr) (ks : List L5) : Prop := ∃ ts : List Addr, SqL K H a (ts.map V.ref) ∧ ts.length = ks.length ∧ ∀ i (h : i < ts.length) (h2 : i < ks.length), H ts[i] = some (.tup [.int ks[i].f, .int ks[i].l, .int ks[i].d, .int ks[i].w, ks[i].nm])
theorem Lnks.same {K : PySem.W.Frag} {H H1 : Hp} {a : Addr} {ks : List L5} (h : Lnks K H a ks) (s : Same H H1) : Lnks K H1 a ks := by
  obtain ⟨ts, h1, h2, h3⟩ := h
  exact ⟨ts, s.seq h1, h2, fun i h h' => s _ _ (h3 i h h')⟩
/-- what goes round, by the names of its links -/
def Rnd (ks : List L5) (p : Int) (nms : List V) : Prop := ∃ (m : Int) (js : List Lkv), nms = js.map Stl.Lk.nm ∧ js ≠ [] ∧ js.length ≤ 1000 ∧ Stl.Path m js m ∧ (∀ j ∈ js, j ∈ ks.map (ask p)) ∧ 0 < Stl.wt js
/-- marks at which no link asks for more, reached by paths -/
def Rest (ks : List L5) (p : Int) (R0 R : Int → Int) : Prop := (∀ k ∈ ks.map (ask p), R k.f + k.w ≤ R k.l) ∧ (∀ m, R0 m ≤ R m) ∧ ∀ m, ∃ a js, Stl.Path a js m ∧ (∀ j ∈ js, j ∈ ks.map (ask p)) ∧ R m = R0 a + Stl.wt js
def spSettle (K : PySem.W.Frag) : Sp := fun vs H Q _ => ∃ (a r : Addr) (p : Int) (ks : List L5) (n : Nat) (R0 : Int → Int), vs = [.ref a, .int p, .ref r] ∧ Lnks K H a ks ∧ SqL K H r (iv (Clk.row n R0)) ∧ 0 < n ∧ n ≤ 50 ∧ ks.length ≤ 1000 ∧
  (∀ k ∈ ks, (0 ≤ k.f ∧ k.f < n) ∧ (0 ≤ k.l ∧ k.l < n) ∧ -(2 ^ 64) < k.d ∧ k.d < 2 ^ 64) ∧
  ∀ (t u : Addr) H', H t = none → Same H H' → (∃ R, H' t = some (.tup [.ref u, .non]) ∧ H' u = some (.lst (iv (Clk.row n R))) ∧ H u = none ∧ Rest ks p R0 R) ∨ (∃ nms, H' t = some (.tup [.non, .ref u]) ∧ H' u = some (.lst nms) ∧ H u = none ∧ Rnd ks p nms) → Q (.ref t) H'
section
variable {K : PySem.W.Frag} {σ : L2.St} {H : Hp} {ta tb : TE} {C : Addr} {E : XK} {ns : List Int} {f : Str} {n : Nat} {g : Int → Int}
theorem ev_hoursC {spH : Sp} (hs : ∀ p H Q E, ClkAt K C H p ns → Q (.int ns.length) H → spH [.ref p] H Q E) (ha : EvC K C ta σ H ns) : Ev (tProp C spH [] E ta) σ H (.int (ns.length : Nat)) := fun H1 e Q q =>
  ha H1 e _ fun p H2 e2 hP => by
    obtain ⟨dx, t, h1, _⟩ := hP.ex
    exact ⟨p, dx, _, rfl, h1, hs p H2 Q E hP (q H2 e2)⟩
theorem el_widthsC {spW : Sp} (hs : ∀ p H Q E, ClkAt K C H p ns → (∀ l H', H l = none → Same H H' → H' l = some (.lst (iv (Clk.widths ns))) → Q (.ref l) H') → spW [.ref p] H Q E) (ha : EvC K C ta σ H ns) : EvL (tMeth C "widths" spW [] E ta tNil) σ H (iv (Clk.widths ns)) := fun H1 e Q q =>
  ha H1 e _ fun p H2 e2 hP => by
    obtain ⟨dx, t, h1, _⟩ := hP.ex
    exact ⟨p, dx, _, rfl, h1, look_other (by decide +kernel), hs p H2 Q E hP fun l H3 nl e3 hl => q l H3 (fresh_back e2 nl) (e2.trans e3) hl⟩
theorem ev_hoursR (ha : EvR K C f n ta σ H g) : Ev (tProp C (spRowLen K C f) [] E ta) σ H (.int (n : Nat)) := fun H1 e Q q =>
  ha H1 e _ fun p H2 e2 hP => by
    obtain ⟨dx, t, h1, _⟩ := hP.ex
    refine ⟨p, dx, _, rfl, h1, p, _, rfl, hP, ?_⟩
    rw [Clk.row_len]
    exact q H2 e2
theorem ev_ownGet {i : Int} (ha : EvR K C f n ta σ H g) (hb : Ev tb σ H (.int i)) (h0 : 0 ≤ i) (h1 : i < n) : Ev (tOwnIx C (spRowGet K C f) E ta tb) σ H (.int (g i)) := fun H1 e Q q =>
  ha H1 e _ fun p H2 e2 hP => hb H2 (e.trans e2) _ fun H3 e3 => by
    obtain ⟨dx, t, h2, _⟩ := hP.ex
    refine ⟨p, dx, _, rfl, e3 _ _ h2, p, _, i, rfl, hP.same e3, h0, by rw [Clk.row_len]; exact h1, ?_⟩
    rw [Clk.S_row (by omega), Int.emod_eq_of_lt h0 h1]
    exact q H3 (e2.trans e3)
end
/-- links that are being gathered -/
def LnkG (H : Hp) (a : Addr) (ks : List L5) : Prop := ∃ ts : List Addr, H a = some (.lst (ts.map V.ref)) ∧ ts.length = ks.length ∧ ∀ i (h : i < ts.length) (h2 : i < ks.length), ts[i] ≠ a ∧ H ts[i] = some (.tup [.int ks[i].f, .int ks[i].l, .int ks[i].d, .int ks[i].w, ks[i].nm])
theorem LnkG.same {H H1 : Hp} {a : Addr} {ks : List L5} (h : LnkG H a ks) (s : Same H H1) : LnkG H1 a ks := by
  obtain ⟨ts, h1, h2, h3⟩ := h
  exact ⟨ts, s _ _ h1, h2, fun i h h' => ⟨(h3 i h h').1, s _ _ (h3 i h h').2⟩⟩
theorem LnkG.put {H H1 : Hp} {a p : Addr} {ks : List L5} {k : L5} {ts : List Addr} (h1 : H a = some (.lst (ts.map V.ref))) (h2 : ts.length = ks.length) (h3 : ∀ i (h : i < ts.length) (h2 : i < ks.length), ts[i] ≠ a ∧ H ts[i] = some (.tup [.int ks[i].f, .int ks[i].l, .int ks[i].d, .int ks[i].w, ks[i].nm]))
    (np : H p = none) (s : Same H H1) (hp : H1 p = some (.tup [.int k.f, .int k.l, .int k.d, .int k.w, k.nm])) : LnkG (upd H1 a (.lst (ts.map V.ref ++ [.ref p]))) a (ks ++ [k]) := by
  have npa : p ≠ a := (ne_of_none h1 np).symm
  refine ⟨ts ++ [p], by rw [upd_same, List.map_append]; rfl, by rw [List.length_append, List.length_append, h2]; rfl, fun i h h' => ?_⟩
  rw [List.length_append] at h h'
  by_cases hi : i < ts.length
  · rw [List.getElem_append_left hi, List.getElem_append_left (by omega)]
    obtain ⟨z1, z2⟩ := h3 i hi (by omega)
    exact ⟨z1, by rw [upd_ne z1]; exact s _ _ z2⟩
  · have e : i = ts.length := by
      have : [p].length = 1 := rfl
      omega
    subst e
    rw [List.getElem_append_right (Nat.le_refl _), List.getElem_append_right (by omega)]
    simp only [h2, Nat.sub_self, List.getElem_cons_zero]
    exact ⟨npa, by rw [upd_ne npa]; exact hp⟩
theorem LnkG.lnks {K : PySem.W.Frag} {H : Hp} {a : Addr} {ks : List L5} (h : LnkG H a ks) : Lnks K H a ks := by
  obtain ⟨ts, h1, h2, h3⟩ := h
  exact ⟨ts, SqL.of h1, h2, fun i h h' => (h3 i h h').2⟩
/-- the links of needs alone: to each hour its keep step, which has no name, and its need step, which has the hour -/
def needL (ns : List Int) (g : Int → Int) (h : Int) : L5 :=
  ⟨(h + 1 - Clk.wd ns h) % (ns.length : Int), (h + 1) % (ns.length : Int), ((h + 1 - Clk.wd ns h) % (ns.length : Int) + Clk.wd ns h) / (ns.length : Int), g h, .int h⟩
def keepL (n : Nat) (h : Int) : L5 := ⟨h, (h + 1) % (n : Int), (h + 1) / (n : Int), 0, .non⟩
def stepsL (ns : List Int) (g : Int → Int) : Nat → List L5
  | 0 => []
  | j + 1 => stepsL ns g j ++ [keepL ns.length j, needL ns g j]
theorem stepsL_len (ns : List Int) (g : Int → Int) : ∀ j, (stepsL ns g j).length = 2 * j
  | 0 => rfl
  | j + 1 => by
    show (stepsL ns g j ++ [keepL ns.length j, needL ns g j]).length = _
    rw [List.length_append, stepsL_len ns g j]
    show 2 * j + 2 = _
    omega
theorem mem_stepsL {ns : List Int} {g : Int → Int} {k : L5} : ∀ {j : Nat}, k ∈ stepsL ns g j ↔ ∃ h : Nat, h < j ∧ (k = keepL ns.length h ∨ k = needL ns g h)
  | 0 => ⟨fun h => (nomatch h), fun ⟨_, h, _⟩ => absurd h (Nat.not_lt_zero _)⟩
  | j + 1 => by
    show k ∈ stepsL ns g j ++ [keepL ns.length j, needL ns g j] ↔ _
    rw [List.mem_append, mem_stepsL]
    constructor
    · rintro (⟨h, a, b⟩ | h)
      · exact ⟨h, by omega, b⟩
      · rcases List.mem_cons.mp h with h | h
        · exact ⟨j, by omega, .inl h⟩
        · exact ⟨j, by omega, .inr (List.mem_singleton.mp h)⟩
    · rintro ⟨h, a, b⟩
      by_cases e : h = j
      · subst e
        exact .inr (by rcases b with b | b <;> simp [b])
      · exact .inl ⟨h, by omega, b⟩
def spSteps (K : PySem.W.Frag) (CC CN : Addr) : Sp := fun vs H Q _ => ∃ (c d : Addr) (ns : List Int) (g : Int → Int), vs = [.ref c, .ref d] ∧ ClkAt K CC H c ns ∧ RowAt K CN "_row" H d (Clk.row ns.length g) ∧
  ∀ l H', H l = none → Same H H' → Lnks K H' l (stepsL ns g ns.length) → Q (.ref l) H'
end Hn

/-! RingM -/
/-! rings and their bounds against what can be met -/
namespace Hn
open PySem L2
/-- from an hour on to another one, by at least its width -/
def hop (ns : List Int) (h k : Int) : Int := (Clk.wd ns k : Int) + (k - Clk.wd ns k - h) % (ns.length : Int)
def hops (ns : List Int) : Int → List Int → Int
  | _, [] => 0
  | h, k :: r => hop ns h k + hops ns k r
def lastH : Int → List Int → Int
  | h, [] => h
  | _, k :: r => lastH k r
/-- round the ring, begun behind its last hour -/
def hopSum (ns ring : List Int) : Int := hops ns (lastH 0 ring) ring
def windsI (ns ring : List Int) : Int := hopSum ns ring / (ns.length : Int)
def needS (g : Int → Int) (ring : List Int) : Int := (ring.map g).sum
def boundI (ns : List Int) (g : Int → Int) (ring : List Int) : Int := -(-(needS g ring) / windsI ns ring)
/-- some numbers at the marks at which no link asks for more -/
def Feas (ns : List Int) (g : Int → Int) (p : Int) : Prop := ∃ R : Int → Int, ∀ k ∈ (stepsL ns g ns.length).map (ask p), R k.f + k.w ≤ R k.l
section
variable {ns : List Int} {g : Int → Int} {p : Int}
theorem hop_ge (n0 : 0 < ns.length) (h k : Int) : (Clk.wd ns k : Int) ≤ hop ns h k := by
  have := Int.emod_nonneg (k - Clk.wd ns k - h) (show (ns.length : Int) ≠ 0 by omega)
  unfold hop
  omega
theorem hop_mod (h k : Int) : (hop ns h k - (k - h)) % (ns.length : Int) = 0 := by
  unfold hop
  rw [show (Clk.wd ns k : Int) + (k - Clk.wd ns k - h) % (ns.length : Int) - (k - h) = (k - Clk.wd ns k - h) % (ns.length : Int) - (k - Clk.wd ns k - h) by omega, Int.sub_emod, Int.emod_emod_of_dvd _ (Int.dvd_refl _), Int.sub_self, Int.zero_emod]
/-- it is the least such number -/
theorem hop_le (n0 : 0 < ns.length) {h k x : Int} (h1 : (Clk.wd ns k : Int) ≤ x) (h2 : (x - (k - h)) % (ns.length : Int) = 0) : hop ns h k ≤ x := by
  unfold hop
  have e : (k - Clk.wd ns k - h) % (ns.length : Int) = (x - Clk.wd ns k) % (ns.length : Int) := by
    rw [show k - Clk.wd ns k - h = (x - Clk.wd ns k) - (x - (k - h)) by omega, Int.sub_emod, h2, Int.sub_zero, Int.emod_emod_of_dvd _ (Int.dvd_refl _)]
  have a := Int.emod_add_mul_ediv (x - (Clk.wd ns k : Int)) (ns.length : Int)
  have b := Int.mul_nonneg (show (0 : Int) ≤ (ns.length : Int) by omega) (Int.ediv_nonneg (show 0 ≤ x - (Clk.wd ns k : Int) by omega) (show (0 : Int) ≤ (ns.length : Int) by omega))
  omega
theorem hops_ge (n0 : 0 < ns.length) (v : Clk.Valid ns) : ∀ (h : Int) (r : List Int), (r.length : Int) ≤ hops ns h r
  | _, [] => Int.le_refl 0
  | h, k :: r => by
    have a := hop_ge (ns := ns) n0 h k
    have b := hops_ge n0 v k r
    have c := Clk.wd_pos v k
    show ((r.length + 1 : Nat) : Int) ≤ hop ns h k + hops ns k r
    omega
theorem emod_add0 {a b n : Int} (ha : a % n = 0) (hb : b % n = 0) : (a + b) % n = 0 := by
  rw [Int.add_emod, ha, hb, Int.add_zero, Int.zero_emod]
theorem hops_mod : ∀ (h : Int) (r : List Int), (hops ns h r - (lastH h r - h)) % (ns.length : Int) = 0
  | h, [] => by
    show (0 - (h - h)) % (ns.length : Int) = 0
    rw [Int.sub_self, Int.sub_self, Int.zero_emod]
  | h, k :: r => by
    show (hop ns h k + hops ns k r - (lastH k r - h)) % (ns.length : Int) = 0
    rw [show hop ns h k + hops ns k r - (lastH k r - h) = (hop ns h k - (k - h)) + (hops ns k r - (lastH k r - k)) by omega]
    exact emod_add0 (hop_mod h k) (hops_mod k r)
theorem lastH_cons {h h' : Int} : ∀ {k : Int} {r : List Int}, lastH h (k :: r) = lastH h' (k :: r) := rfl
theorem lastH_ne {h h' : Int} {r : List Int} (hr : r ≠ []) : lastH h r = lastH h' r := by
  cases r with
  | nil => exact absurd rfl hr
  | cons k r => rfl
theorem hopSum_mod (ring : List Int) (hr : ring ≠ []) : hopSum ns ring % (ns.length : Int) = 0 := by
  have z := hops_mod (ns := ns) (lastH 0 ring) ring
  rw [lastH_ne (h := lastH 0 ring) (h' := 0) hr, Int.sub_self, Int.sub_zero] at z
  exact z
theorem windsI_mul (n0 : 0 < ns.length) (ring : List Int) (hr : ring ≠ []) : windsI ns ring * (ns.length : Int) = hopSum ns ring := by
  have a := Int.emod_add_mul_ediv (hopSum ns ring) (ns.length : Int)
  rw [hopSum_mod ring hr, Int.zero_add, Int.mul_comm] at a
  exact a
theorem windsI_pos (n0 : 0 < ns.length) (v : Clk.Valid ns) (ring : List Int) (hr : ring ≠ []) : 1 ≤ windsI ns ring := by
  have a := windsI_mul (ns := ns) n0 ring hr
  have b := hops_ge (ns := ns) n0 v (lastH 0 ring) ring
  have c : 1 ≤ ring.length := by
    cases ring with
    | nil => exact absurd rfl hr
    | cons k r => exact Nat.succ_le_succ (Nat.zero_le _)
  have d : 1 ≤ hopSum ns ring := by
    unfold hopSum
    omega
  rcases Int.lt_or_le (windsI ns ring) 1 with h | h
  · have e := Int.mul_nonneg (show 0 ≤ -(windsI ns ring) by omega) (show (0 : Int) ≤ (ns.length : Int) by omega)
    rw [Int.neg_mul] at e
    omega
  · exact h
theorem hops_top (n0 : 0 < ns.length) : ∀ (h : Int) (r : List Int), hops ns h r ≤ 2 * (r.length : Int) * (ns.length : Int)
  | _, [] => by
    show (0 : Int) ≤ 2 * ((0 : Nat) : Int) * _
    omega
  | h, k :: r => by
    have a := hops_top n0 k r
    have b := Clk.wd_le ns k
    have c := Int.emod_lt_of_pos (k - Clk.wd ns k - h) (show 0 < (ns.length : Int) by omega)
    show hop ns h k + hops ns k r ≤ 2 * ((r.length + 1 : Nat) : Int) * (ns.length : Int)
    rw [show 2 * ((r.length + 1 : Nat) : Int) * (ns.length : Int) = 2 * (r.length : Int) * (ns.length : Int) + 2 * (ns.length : Int) by rw [← Int.add_mul]; congr 1]
    unfold hop
    omega
theorem windsI_top (n0 : 0 < ns.length) (ring : List Int) (hr : ring ≠ []) : windsI ns ring ≤ 2 * (ring.length : Int) := by
  have a := windsI_mul (ns := ns) n0 ring hr
  have b := hops_top (ns := ns) n0 (lastH 0 ring) ring
  have c : windsI ns ring * (ns.length : Int) ≤ 2 * (ring.length : Int) * (ns.length : Int) := by
    rw [a]
    exact b
  exact Int.le_of_mul_le_mul_right c (by omega)
/-- the bound, rounded up -/
theorem bound_lt {a w p : Int} (hw : 1 ≤ w) : p < -(-a / w) ↔ p * w < a := by
  constructor
  · intro h
    have z := Int.lt_mul_of_ediv_lt (show 0 < w by omega) (show -a / w < -p by omega)
    rw [Int.neg_mul] at z
    omega
  · intro h
    have z := Int.ediv_lt_of_lt_mul (show 0 < w by omega) (show -a < -p * w by rw [Int.neg_mul]; omega)
    omega
/-! what can be met, over all hours -/
def ext (R : Int → Int) (p n x : Int) : Int := R (x % n) + p * (x / n)
theorem ext_at {R : Int → Int} {n f q : Int} (h0 : 0 ≤ f) (h1 : f < n) : ext R p n (q * n + f) = R f + p * q := by
  have e1 : (q * n + f) % n = f := by rw [Int.add_comm, Int.add_mul_emod_self_right, Int.emod_eq_of_lt h0 h1]
  have e2 : (q * n + f) / n = q := by
    rw [Int.add_comm, Int.add_mul_ediv_right _ _ (show n ≠ 0 by omega), Int.ediv_eq_zero_of_lt h0 h1]
    omega
  unfold ext
  rw [e1, e2]
theorem ext_link {R : Int → Int} {n f l len d w : Int} (f0 : 0 ≤ f) (f1 : f < n) (l0 : 0 ≤ l) (l1 : l < n) (e : f + len = l + d * n) (h : R f + (w - d * p) ≤ R l) (q : Int) : ext R p n (q * n + f) + w ≤ ext R p n (q * n + f + len) := by
  rw [show q * n + f + len = (q + d) * n + l by rw [Int.add_mul]; omega, ext_at f0 f1, ext_at l0 l1, Int.mul_add, Int.mul_comm p d]
  omega
theorem ext_round {R : Int → Int} {n : Int} (hn : n ≠ 0) (x c : Int) : ext R p n (x + c * n) = ext R p n x + c * p := by
  unfold ext
  rw [Int.add_mul_emod_self_right, Int.add_mul_ediv_right _ _ hn, Int.mul_add, Int.mul_comm p c]
  omega
theorem len_at (n0 : 0 < ns.length) {f len : Int} : f + len = (f + len) % (ns.length : Int) + (f + len) / (ns.length : Int) * (ns.length : Int) := by
  have a := Int.emod_add_mul_ediv (f + len) (ns.length : Int)
  rw [Int.mul_comm] at a
  exact a.symm
theorem emod_in (n0 : 0 < ns.length) (x : Int) : 0 ≤ x % (ns.length : Int) ∧ x % (ns.length : Int) < ns.length := ⟨Int.emod_nonneg _ (by omega), Int.emod_lt_of_pos _ (by omega)⟩
theorem split_at (x : Int) : x / (ns.length : Int) * (ns.length : Int) + x % (ns.length : Int) = x := by
  have a := Int.emod_add_mul_ediv x (ns.length : Int)
  rw [Int.mul_comm] at a
  omega
theorem need_last {h : Int} (h0 : 0 ≤ h) (h1 : h < ns.length) : ((h + 1 - Clk.wd ns h) % (ns.length : Int) + Clk.wd ns h) % (ns.length : Int) = (h + 1) % (ns.length : Int) := by
  rw [Int.emod_add_emod]
  congr 1
  omega
section
variable {R : Int → Int} (n0 : 0 < ns.length) (hR : ∀ k ∈ (stepsL ns g ns.length).map (ask p), R k.f + k.w ≤ R k.l)
include n0 hR
theorem feas_keep (x : Int) : ext R p ns.length x ≤ ext R p ns.length (x + 1) := by
  obtain ⟨f0, f1⟩ := emod_in n0 x
  obtain ⟨h, hh⟩ := Int.eq_ofNat_of_zero_le f0
  have z := hR (ask p (keepL ns.length h)) (List.mem_map.mpr ⟨_, mem_stepsL.mpr ⟨h, by omega, .inl rfl⟩, rfl⟩)
  have y := ext_link (p := p) (R := R) (n := (ns.length : Int)) (f := h) (len := 1) (w := 0) (by omega) (by omega) (emod_in n0 _).1 (emod_in n0 _).2 (len_at n0) z (x / (ns.length : Int))
  rw [← hh, split_at] at y
  omega
theorem feas_up (x : Int) : ∀ c : Nat, ext R p ns.length x ≤ ext R p ns.length (x + c)
  | 0 => by
    rw [show x + ((0 : Nat) : Int) = x by omega]
    exact Int.le_refl _
  | c + 1 => by
    have a := feas_up x c
    have b := feas_keep n0 hR (x + c)
    rw [show x + ((c + 1 : Nat) : Int) = x + c + 1 by omega]
    omega
theorem feas_le {x y : Int} (h : x ≤ y) : ext R p ns.length x ≤ ext R p ns.length y := by
  obtain ⟨c, hc⟩ := Int.eq_ofNat_of_zero_le (show 0 ≤ y - x by omega)
  have z := feas_up n0 hR x c
  rwa [show x + (c : Int) = y by omega] at z
theorem feas_need (x : Int) : ext R p ns.length (x + 1 - Clk.wd ns x) + g (x % (ns.length : Int)) ≤ ext R p ns.length (x + 1) := by
  obtain ⟨f0, f1⟩ := emod_in n0 x
  have hw : Clk.wd ns (x % (ns.length : Int)) = Clk.wd ns x := Clk.wd_mod (Int.emod_emod_of_dvd _ (Int.dvd_refl _))
  obtain ⟨h, hh⟩ := Int.eq_ofNat_of_zero_le f0
  have z := hR (ask p (needL ns g h)) (List.mem_map.mpr ⟨_, mem_stepsL.mpr ⟨h, by omega, .inr rfl⟩, rfl⟩)
  have e : (h + 1 - (Clk.wd ns h : Int)) % (ns.length : Int) + Clk.wd ns h = ((h : Int) + 1) % (ns.length : Int) + ((h + 1 - (Clk.wd ns h : Int)) % (ns.length : Int) + Clk.wd ns h) / (ns.length : Int) * (ns.length : Int) := by
    rw [← need_last (ns := ns) (h := h) (by omega) (by omega)]
    exact len_at n0
  have y := ext_link (p := p) (R := R) (n := (ns.length : Int)) (w := g h) (emod_in n0 _).1 (emod_in n0 _).2 (emod_in n0 _).1 (emod_in n0 _).2 e z ((x + 1 - Clk.wd ns x) / (ns.length : Int))
  have e2 : ((h : Int) + 1 - (Clk.wd ns h : Int)) % (ns.length : Int) = (x + 1 - Clk.wd ns x) % (ns.length : Int) := by
    rw [← hh, hw, show x % (ns.length : Int) + 1 - (Clk.wd ns x : Int) = x % (ns.length : Int) + (1 - (Clk.wd ns x : Int)) by omega, Int.emod_add_emod]
    congr 1
    omega
  rw [e2, split_at, ← hh, hw] at y
  rw [show x + 1 - (Clk.wd ns x : Int) + (Clk.wd ns x : Int) = x + 1 by omega] at y
  exact y
theorem feas_hops : ∀ (h : Int) (r : List Int) (x : Int), (∀ k ∈ r, 0 ≤ k ∧ k < ns.length) → (x - h) % (ns.length : Int) = 0 → ext R p ns.length (x + 1) + needS g r ≤ ext R p ns.length (x + 1 + hops ns h r)
  | h, [], x, _, _ => by
    show ext R p ns.length (x + 1) + 0 ≤ ext R p ns.length (x + 1 + 0)
    rw [Int.add_zero, Int.add_zero]
    exact Int.le_refl _
  | h, k :: r, x, hr, hx => by
    obtain ⟨k0, k1⟩ := hr k List.mem_cons_self
    have m : (x + hop ns h k - k) % (ns.length : Int) = 0 := by
      rw [show x + hop ns h k - k = (x - h) + (hop ns h k - (k - h)) by omega]
      exact emod_add0 hx (hop_mod h k)
    have mk : (x + hop ns h k) % (ns.length : Int) = k := by
      have a : (x + hop ns h k) % (ns.length : Int) = k % (ns.length : Int) := Int.emod_eq_emod_iff_emod_sub_eq_zero.mpr m
      rw [a, Int.emod_eq_of_lt k0 k1]
    have a := feas_need n0 hR (x + hop ns h k)
    have b := hop_ge (ns := ns) n0 h k
    have wk : Clk.wd ns (x + hop ns h k) = Clk.wd ns k := Clk.wd_mod (by rw [mk, Int.emod_eq_of_lt k0 k1])
    rw [mk, wk] at a
    have c := feas_le n0 hR (x := x + 1) (y := x + hop ns h k + 1 - Clk.wd ns k) (by omega)
    have d := feas_hops k r (x + hop ns h k) (fun y hy => hr y (List.mem_cons_of_mem _ hy)) m
    show ext R p ns.length (x + 1) + (g k + needS g r) ≤ ext R p ns.length (x + 1 + (hop ns h k + hops ns k r))
    rw [show x + 1 + (hop ns h k + hops ns k r) = x + hop ns h k + 1 + hops ns k r by omega]
    omega
/-- no fewer people than a ring asks for -/
theorem feas_ring {ring : List Int} (hr : ring ≠ []) (hin : ∀ k ∈ ring, 0 ≤ k ∧ k < ns.length) : needS g ring ≤ windsI ns ring * p := by
  have z := feas_hops n0 hR (lastH 0 ring) ring (lastH 0 ring) hin (by rw [Int.sub_self, Int.zero_emod])
  have e : hops ns (lastH 0 ring) ring = windsI ns ring * (ns.length : Int) := (windsI_mul n0 ring hr).symm
  rw [e, ext_round (by omega)] at z
  omega
end
/-- the hours of the names -/
def hoursOf (vs : List V) : List Int := vs.filterMap fun v => match v with
  | .int h => some h
  | _ => none
def lenOf (ns : List Int) (v : V) : Int := match v with
  | .int h => Clk.wd ns h
  | _ => 1
def lenS (ns : List Int) (js : List Lkv) : Int := (js.map fun j => lenOf ns j.nm).sum
theorem lenS_cons (j : Lkv) (js : List Lkv) : lenS ns (j :: js) = lenOf ns j.nm + lenS ns js := by
  unfold lenS
  rw [List.map_cons, List.sum_cons]
theorem mem_ask {j : Lkv} (h : j ∈ (stepsL ns g ns.length).map (ask p)) : ∃ x : Nat, x < ns.length ∧ (j = ask p (keepL ns.length x) ∨ j = ask p (needL ns g x)) := by
  obtain ⟨k, hk, rfl⟩ := List.mem_map.mp h
  obtain ⟨x, hx, e⟩ := mem_stepsL.mp hk
  exact ⟨x, hx, e.imp (fun z => by rw [z]) fun z => by rw [z]⟩
/-- what the links of a path ask for, by hours and days -/
theorem path_days (n0 : 0 < ns.length) : ∀ {js : List Lkv} {a b : Int}, Stl.Path a js b → (∀ j ∈ js, j ∈ (stepsL ns g ns.length).map (ask p)) → ∃ D : Int, Stl.wt js = needS g (hoursOf (js.map Stl.Lk.nm)) - p * D ∧ a + lenS ns js = b + D * ns.length
  | [], a, b, h, _ => by
    obtain rfl : a = b := h
    refine ⟨0, ?_, ?_⟩
    · show (0 : Int) = 0 - p * 0
      omega
    · show a + 0 = a + 0 * _
      omega
  | j :: js, a, b, ⟨hf, hp⟩, hm => by
    obtain ⟨D, e1, e2⟩ := path_days n0 hp fun y hy => hm y (List.mem_cons_of_mem _ hy)
    obtain ⟨x, hx, e⟩ := mem_ask (hm j List.mem_cons_self)
    rw [Stl.wt_cons, lenS_cons]
    rcases e with rfl | rfl
    · refine ⟨D + ((x : Int) + 1) / (ns.length : Int), ?_, ?_⟩
      · show (0 - ((x : Int) + 1) / (ns.length : Int) * p) + Stl.wt js = needS g (hoursOf (js.map Stl.Lk.nm)) - p * (D + ((x : Int) + 1) / (ns.length : Int))
        rw [Int.mul_add, Int.mul_comm p (((x : Int) + 1) / (ns.length : Int)), e1]
        omega
      · have z := len_at (ns := ns) n0 (f := (x : Int)) (len := 1)
        have e3 : (ask p (keepL ns.length x)).l = ((x : Int) + 1) % (ns.length : Int) := rfl
        have hf' : (x : Int) = a := hf
        show a + (1 + lenS ns js) = b + (D + ((x : Int) + 1) / (ns.length : Int)) * (ns.length : Int)
        rw [e3] at e2
        rw [Int.add_mul]
        omega
    · refine ⟨D + (((x : Int) + 1 - Clk.wd ns x) % (ns.length : Int) + Clk.wd ns x) / (ns.length : Int), ?_, ?_⟩
      · show (g x - (((x : Int) + 1 - Clk.wd ns x) % (ns.length : Int) + Clk.wd ns x) / (ns.length : Int) * p) + Stl.wt js = (g x + needS g (hoursOf (js.map Stl.Lk.nm))) - p * (D + (((x : Int) + 1 - Clk.wd ns x) % (ns.length : Int) + Clk.wd ns x) / (ns.length : Int))
        rw [Int.mul_add, Int.mul_comm p ((((x : Int) + 1 - Clk.wd ns x) % (ns.length : Int) + Clk.wd ns x) / (ns.length : Int)), e1]
        omega
      · have z := len_at (ns := ns) n0 (f := ((x : Int) + 1 - Clk.wd ns x) % (ns.length : Int)) (len := Clk.wd ns x)
        rw [need_last (by omega) (by omega)] at z
        have e3 : (ask p (needL ns g x)).l = ((x : Int) + 1) % (ns.length : Int) := rfl
        have hf' : ((x : Int) + 1 - Clk.wd ns x) % (ns.length : Int) = a := hf
        show a + ((Clk.wd ns x : Int) + lenS ns js) = b + (D + (((x : Int) + 1 - Clk.wd ns x) % (ns.length : Int) + Clk.wd ns x) / (ns.length : Int)) * (ns.length : Int)
        rw [e3] at e2
        rw [Int.add_mul]
        rw [hf'] at z ⊢
        omega
/-- where the last need step ends -/
def endL (ns : List Int) : Int → Int → List Lkv → Int
  | e, _, [] => e
  | e, x, j :: js => match j.nm with
    | .int h => endL ns (x + Clk.wd ns h) (x + Clk.wd ns h) js
    | _ => endL ns e (x + 1) js
/-- rings go no farther than paths -/
theorem path_hops (n0 : 0 < ns.length) : ∀ {js : List Lkv} {a b x e h : Int}, Stl.Path a js b → (∀ j ∈ js, j ∈ (stepsL ns g ns.length).map (ask p)) → e ≤ x → (x - a) % (ns.length : Int) = 0 → (e - (h + 1)) % (ns.length : Int) = 0 →
    hops ns h (hoursOf (js.map Stl.Lk.nm)) ≤ endL ns e x js - e ∧ endL ns e x js ≤ x + lenS ns js ∧ (endL ns e x js - (lastH h (hoursOf (js.map Stl.Lk.nm)) + 1)) % (ns.length : Int) = 0
  | [], a, b, x, e, h, _, _, he, _, hm => by
    refine ⟨?_, ?_, hm⟩
    · show (0 : Int) ≤ e - e
      omega
    · show e ≤ x + 0
      omega
  | j :: js, a, b, x, e, h, ⟨hf, hp⟩, hj, he, hx, hm => by
    obtain ⟨y, hy, ey⟩ := mem_ask (hj j List.mem_cons_self)
    have hj' : ∀ z ∈ js, z ∈ (stepsL ns g ns.length).map (ask p) := fun z hz => hj z (List.mem_cons_of_mem _ hz)
    rw [lenS_cons]
    rcases ey with rfl | rfl
    · have hf' : (y : Int) = a := hf
      have m : (x + 1 - ((y : Int) + 1) % (ns.length : Int)) % (ns.length : Int) = 0 := by
        rw [Int.sub_emod, Int.emod_emod_of_dvd _ (Int.dvd_refl _), ← Int.sub_emod, show x + 1 - ((y : Int) + 1) = x - a by omega]
        exact hx
      obtain ⟨q1, q2, q3⟩ := path_hops n0 (x := x + 1) hp hj' (by omega) m hm
      refine ⟨q1, ?_, q3⟩
      show endL ns e (x + 1) js ≤ x + (1 + lenS ns js)
      omega
    · have hf' : ((y : Int) + 1 - Clk.wd ns y) % (ns.length : Int) = a := hf
      have m0 : (x + Clk.wd ns y - ((y : Int) + 1)) % (ns.length : Int) = 0 := by
        rw [show x + (Clk.wd ns y : Int) - ((y : Int) + 1) = x - ((y : Int) + 1 - Clk.wd ns y) by omega, Int.sub_emod, hf', ← Int.emod_emod_of_dvd x (Int.dvd_refl _)]
        have a1 : a % (ns.length : Int) = a := by rw [← hf', Int.emod_emod_of_dvd _ (Int.dvd_refl _)]
        rw [Int.sub_emod] at hx
        rw [a1] at hx
        rw [Int.emod_emod_of_dvd _ (Int.dvd_refl _)]
        exact hx
      have m : (x + Clk.wd ns y - ((y : Int) + 1) % (ns.length : Int)) % (ns.length : Int) = 0 := by
        rw [Int.sub_emod, Int.emod_emod_of_dvd _ (Int.dvd_refl _), ← Int.sub_emod]
        exact m0
      obtain ⟨q1, q2, q3⟩ := path_hops n0 (x := x + Clk.wd ns y) (e := x + Clk.wd ns y) (h := y) hp hj' (by omega) m m0
      have z := hop_le (ns := ns) n0 (h := h) (k := y) (x := x + Clk.wd ns y - e) (by omega) (by
        rw [show x + (Clk.wd ns y : Int) - e - ((y : Int) - h) = (x + Clk.wd ns y - ((y : Int) + 1)) - (e - (h + 1)) by omega, Int.sub_emod, m0, hm]
        rfl)
      refine ⟨?_, ?_, q3⟩
      · show hop ns h y + hops ns y (hoursOf (js.map Stl.Lk.nm)) ≤ endL ns (x + Clk.wd ns y) (x + Clk.wd ns y) js - e
        omega
      · show endL ns (x + Clk.wd ns y) (x + Clk.wd ns y) js ≤ x + ((Clk.wd ns y : Int) + lenS ns js)
        omega
theorem endL_any (n0 : 0 < ns.length) : ∀ {js : List Lkv} {x e e' : Int}, (∀ j ∈ js, j ∈ (stepsL ns g ns.length).map (ask p)) → hoursOf (js.map Stl.Lk.nm) ≠ [] → endL ns e x js = endL ns e' x js
  | [], _, _, _, _, h => absurd rfl h
  | j :: js, x, e, e', hj, h => by
    obtain ⟨y, hy, ey⟩ := mem_ask (hj j List.mem_cons_self)
    rcases ey with rfl | rfl
    · exact endL_any n0 (x := x + 1) (fun z hz => hj z (List.mem_cons_of_mem _ hz)) h
    · rfl
theorem hours_in : ∀ {js : List Lkv}, (∀ j ∈ js, j ∈ (stepsL ns g ns.length).map (ask p)) → ∀ h ∈ hoursOf (js.map Stl.Lk.nm), 0 ≤ h ∧ h < ns.length
  | [], _, _, h => nomatch h
  | j :: js, hj, h, hh => by
    obtain ⟨y, hy, ey⟩ := mem_ask (hj j List.mem_cons_self)
    have hj' : ∀ z ∈ js, z ∈ (stepsL ns g ns.length).map (ask p) := fun z hz => hj z (List.mem_cons_of_mem _ hz)
    rcases ey with rfl | rfl
    · exact hours_in hj' h hh
    · have hh' : h ∈ (y : Int) :: hoursOf (js.map Stl.Lk.nm) := hh
      rcases List.mem_cons.mp hh' with rfl | z
      · omega
      · exact hours_in hj' h z
/-- what goes round asks for more people than there are: a ring does, too -/
theorem rnd_ring (n0 : 0 < ns.length) (v : Clk.Valid ns) (hp : 0 ≤ p) {nms : List V} (h : Rnd (stepsL ns g ns.length) p nms) : hoursOf nms ≠ [] ∧ (∀ k ∈ hoursOf nms, 0 ≤ k ∧ k < ns.length) ∧ p * windsI ns (hoursOf nms) < needS g (hoursOf nms) := by
  obtain ⟨m, js, rfl, hne, _, path, hj, pos⟩ := h
  obtain ⟨D, e1, e2⟩ := path_days n0 path hj
  have eD : lenS ns js = D * ns.length := by omega
  have l0 : 0 ≤ lenS ns js := by
    have : ∀ {js : List Lkv}, 0 ≤ lenS ns js := fun {js} => by
      induction js with
      | nil => exact Int.le_refl 0
      | cons j js ih =>
        rw [lenS_cons]
        have : 0 ≤ lenOf ns j.nm := by
          unfold lenOf
          split <;> omega
        omega
    exact this
  have D0 : 0 ≤ D := by
    rcases Int.lt_or_le D 0 with h | h
    · have e := Int.mul_pos (show 0 < -D by omega) (show (0 : Int) < (ns.length : Int) by omega)
      rw [Int.neg_mul] at e
      omega
    · exact h
  have hne2 : hoursOf (js.map Stl.Lk.nm) ≠ [] := fun z => by
    rw [z] at e1
    have e3 : needS g [] = 0 := rfl
    have e4 := Int.mul_nonneg hp D0
    omega
  refine ⟨hne2, hours_in hj, ?_⟩
  -- one lap, begun where the last need step ended a lap ago
  obtain ⟨_, a2, a3⟩ := path_hops n0 (x := m) (e := m) (h := m - 1) path hj (Int.le_refl m) (by rw [Int.sub_self, Int.zero_emod]) (by rw [show m - (m - 1 + 1) = 0 by omega, Int.zero_emod])
  rw [lastH_ne (h' := 0) hne2] at a3
  have same : endL ns (endL ns m m js - lenS ns js) m js = endL ns m m js := endL_any n0 hj hne2
  obtain ⟨b1, _, _⟩ := path_hops n0 (x := m) (e := endL ns m m js - lenS ns js) (h := lastH 0 (hoursOf (js.map Stl.Lk.nm))) path hj (by omega) (by rw [Int.sub_self, Int.zero_emod]) (by
    rw [show endL ns m m js - lenS ns js - (lastH 0 (hoursOf (js.map Stl.Lk.nm)) + 1) = (endL ns m m js - (lastH 0 (hoursOf (js.map Stl.Lk.nm)) + 1)) - lenS ns js by omega, Int.sub_emod, a3, eD, Int.mul_emod_left]
    rfl)
  rw [same] at b1
  have w1 := windsI_mul (ns := ns) n0 _ hne2
  have w2 : hopSum ns (hoursOf (js.map Stl.Lk.nm)) ≤ D * ns.length := by
    unfold hopSum
    omega
  have w3 : windsI ns (hoursOf (js.map Stl.Lk.nm)) ≤ D := by
    rcases Int.lt_or_le D (windsI ns (hoursOf (js.map Stl.Lk.nm))) with h | h
    · have e := Int.mul_lt_mul_of_pos_right h (show (0 : Int) < (ns.length : Int) by omega)
      omega
    · exact h
  have w4 := Int.mul_le_mul_of_nonneg_left w3 hp
  omega
/-- nothing meets what goes round -/
theorem rnd_not {nms : List V} (h : Rnd (stepsL ns g ns.length) p nms) : ¬ Feas ns g p := by
  rintro ⟨R, hR⟩
  obtain ⟨m, js, _, _, _, path, hj, pos⟩ := h
  have z := Stl.path_le (S := R) path fun k hk => hR k (hj k hk)
  omega
theorem rest_feas {R0 R : Int → Int} (h : Rest (stepsL ns g ns.length) p R0 R) : Feas ns g p := ⟨R, h.1⟩
/-- more people, more needs met -/
theorem feas_mono (n0 : 0 < ns.length) {p' : Int} (hp : p ≤ p') (h : Feas ns g p) : Feas ns g p' := by
  obtain ⟨R, hR⟩ := h
  refine ⟨R, fun k hk => ?_⟩
  obtain ⟨x, hx, e⟩ := mem_ask hk
  have low : ∀ d w : Int, 0 ≤ d → w - d * p' ≤ w - d * p := fun d w hd => by
    have := Int.mul_le_mul_of_nonneg_left hp hd
    omega
  rcases e with rfl | rfl
  · have z := hR (ask p (keepL ns.length x)) (List.mem_map.mpr ⟨_, mem_stepsL.mpr ⟨x, hx, .inl rfl⟩, rfl⟩)
    have y := low (keepL ns.length x).d (keepL ns.length x).w (Int.ediv_nonneg (by omega) (by omega))
    show R (keepL ns.length x).f + ((keepL ns.length x).w - (keepL ns.length x).d * p') ≤ R (keepL ns.length x).l
    have z' : R (keepL ns.length x).f + ((keepL ns.length x).w - (keepL ns.length x).d * p) ≤ R (keepL ns.length x).l := z
    omega
  · have z := hR (ask p (needL ns g x)) (List.mem_map.mpr ⟨_, mem_stepsL.mpr ⟨x, hx, .inr rfl⟩, rfl⟩)
    have f0 := (emod_in (ns := ns) n0 ((x : Int) + 1 - Clk.wd ns x)).1
    have y := low (needL ns g x).d (needL ns g x).w (Int.ediv_nonneg (show 0 ≤ ((x : Int) + 1 - Clk.wd ns x) % (ns.length : Int) + Clk.wd ns x by omega) (by omega))
    show R (needL ns g x).f + ((needL ns g x).w - (needL ns g x).d * p') ≤ R (needL ns g x).l
    have z' : R (needL ns g x).f + ((needL ns g x).w - (needL ns g x).d * p) ≤ R (needL ns g x).l := z
    omega
end
end Hn

/-! Ext -/
/-! sums at marks, gone on over all days: who is there is a difference of two of them -/
namespace Clk
/-- who is there, over the width alone -/
theorem th_wd {ns : List Int} (v : Valid ns) (m : Int → Int) (x : Int) : th ns m x = Sum (wd ns x) fun k => m (x - k) := by
  unfold th
  rw [Sum_zero_tail _ (wd ns x) ns.length (wd_le ns x) fun b h1 h2 => ?_]
  · refine Sum_congr fun b hb => ?_
    have z := (wd_iff v x (Nat.lt_of_lt_of_le hb (wd_le ns x))).mpr hb
    unfold ind
    rw [if_pos z, Int.mul_one]
  · have z : ¬ ((b : Int) < S ns (x - b)) := fun y => absurd ((wd_iff v x h2).mp y) (by omega)
    unfold ind
    rw [if_neg z, Int.mul_zero]
/-- the sums s of a day with W people, gone on -/
def ext (n : Nat) (W : Int) (s : Int → Int) (t : Int) : Int := W * (t / (n : Int)) + s (t % (n : Int))
theorem ext_in {n : Nat} {W : Int} {s : Int → Int} {k : Int} (h0 : 0 ≤ k) (h1 : k < n) : ext n W s k = s k := by
  unfold ext
  rw [Int.emod_eq_of_lt h0 h1, Int.ediv_eq_zero_of_lt h0 h1, Int.mul_zero, Int.zero_add]
theorem ext_step {n : Nat} (hn : 0 < n) {W : Int} {s : Int → Int} (h0 : s 0 = 0) (hW : s n = W) (y : Int) : s (y % (n : Int) + 1) - s (y % (n : Int)) = ext n W s (y + 1) - ext n W s y := by
  have z0 := Int.emod_nonneg y (show (n : Int) ≠ 0 by omega)
  have z1 := Int.emod_lt_of_pos y (show 0 < (n : Int) by omega)
  have e := Int.mul_ediv_add_emod y (n : Int)
  unfold ext
  generalize y % (n : Int) = r at z0 z1 e ⊢
  generalize y / (n : Int) = q at e ⊢
  by_cases l : r + 1 < n
  · have d : (y + 1) / (n : Int) = q := by
      rw [show y + 1 = (r + 1) + (n : Int) * q by omega, Int.add_mul_ediv_left _ _ (by omega), Int.ediv_eq_zero_of_lt (by omega) l]
      omega
    have m : (y + 1) % (n : Int) = r + 1 := by
      rw [show y + 1 = (r + 1) + (n : Int) * q by omega, Int.add_mul_emod_self_left, Int.emod_eq_of_lt (by omega) l]
    rw [d, m]
    omega
  · have er : r + 1 = n := by omega
    have d : (y + 1) / (n : Int) = q + 1 := by
      rw [show y + 1 = (n : Int) + (n : Int) * q by omega, Int.add_mul_ediv_left _ _ (by omega), Int.ediv_self (by omega)]
      omega
    have m : (y + 1) % (n : Int) = 0 := by
      rw [show y + 1 = (n : Int) + (n : Int) * q by omega, Int.add_mul_emod_self_left, Int.emod_self]
    rw [d, m, er, hW, h0, Int.mul_add]
    omega
theorem Sum_tele (g : Int → Int) (x : Int) : ∀ w : Nat, Sum w (fun k => g (x - k + 1) - g (x - k)) = g (x + 1) - g (x + 1 - w)
  | 0 => by
    show (0 : Int) = g (x + 1) - g (x + 1 - ((0 : Nat) : Int))
    rw [show x + 1 - ((0 : Nat) : Int) = x + 1 by omega]
    omega
  | w + 1 => by
    have ih := Sum_tele g x w
    show Sum w (fun k => g (x - k + 1) - g (x - k)) + (g (x - (w : Int) + 1) - g (x - w)) = _
    rw [ih, show x + 1 - ((w + 1 : Nat) : Int) = x - w by omega, show x + 1 - (w : Int) = x - w + 1 by omega]
    omega
theorem th_ext {ns : List Int} (v : Valid ns) {W : Int} {s : Int → Int} (h0 : s 0 = 0) (hW : s ns.length = W) (x : Int) : th ns (Hn.per ns.length (Hn.ds s)) x = ext ns.length W s (x + 1) - ext ns.length W s (x + 1 - wd ns x) := by
  rw [th_wd v, ← Sum_tele (ext ns.length W s) x (wd ns x)]
  exact Sum_congr fun k _ => ext_step v.pos h0 hW (x - k)
theorem ext_min {n : Nat} {W : Int} {a b : Int → Int} (t : Int) : ext n W (fun k => min (a k) (b k)) t = min (ext n W a t) (ext n W b t) := by
  unfold ext
  show _ + min (a _) (b _) = _
  omega
theorem ext_max {n : Nat} {W : Int} {a b : Int → Int} (t : Int) : ext n W (fun k => max (a k) (b k)) t = max (ext n W a t) (ext n W b t) := by
  unfold ext
  show _ + max (a _) (b _) = _
  omega
/-- of two plans of one number of people: the lesser sums leave there what both have there -/
theorem th_min_ge {ns : List Int} (v : Valid ns) {W : Int} {a b : Int → Int} (a0 : a 0 = 0) (b0 : b 0 = 0) (aW : a ns.length = W) (bW : b ns.length = W) (x : Int) :
    min (th ns (Hn.per ns.length (Hn.ds a)) x) (th ns (Hn.per ns.length (Hn.ds b)) x) ≤ th ns (Hn.per ns.length (Hn.ds fun k => min (a k) (b k))) x := by
  rw [th_ext v a0 aW, th_ext v b0 bW, th_ext v (W := W) (s := fun k => min (a k) (b k)) (by show min (a 0) (b 0) = 0; omega) (by show min (a _) (b _) = W; omega), ext_min, ext_min]
  omega
theorem th_max_ge {ns : List Int} (v : Valid ns) {W : Int} {a b : Int → Int} (a0 : a 0 = 0) (b0 : b 0 = 0) (aW : a ns.length = W) (bW : b ns.length = W) (x : Int) :
    min (th ns (Hn.per ns.length (Hn.ds a)) x) (th ns (Hn.per ns.length (Hn.ds b)) x) ≤ th ns (Hn.per ns.length (Hn.ds fun k => max (a k) (b k))) x := by
  rw [th_ext v a0 aW, th_ext v b0 bW, th_ext v (W := W) (s := fun k => max (a k) (b k)) (by show max (a 0) (b 0) = 0; omega) (by show max (a _) (b _) = W; omega), ext_max, ext_max]
  omega
end Clk
namespace Hn
open PySem L2
/-- elements that are drawn, over a list of numbers that the bag is not -/
theorem lc_drawL {K : PySem.W.Frag} {a : Addr} {xs : List V} {b : Addr} {te : TE} {j : Nat} {σ : L2.St} {H1 : Hp} {D : Addr} {Qd : Hp → Prop} (Pr : Nat → Int → Prop) (hS : SqL K H1 a xs) (hab : a ≠ b) (hb : Bag H1 b) (nD : H1 D = none) (hz : xs.length ≤ 10000)
    (he : ∀ i (hi : i < xs.length) (H : Hp) (R : VK), Drew b H1 H → (∀ H4 v, Drew b H H4 → Pr i v → R (.int v) H4) → te ((wipe σ [j]).set j (some xs[i])) H R)
    (hd : ∀ H vs, Drew b H1 H → H D = some (.lst (iv vs)) → vs.length = xs.length → (∀ i (h : i < vs.length), Pr i vs[i]) → Qd H) : LcG (Itl K a) (gName j) tYes te [j] σ H1 D Qd := by
  refine lc_list (K := K) (a := a) (xs := xs) (fun i H => ∃ vs : List Int, Drew b H1 H ∧ H D = some (.lst (iv vs)) ∧ vs.length = i ∧ ∀ k (h : k < vs.length), Pr k vs[k])
    ⟨[], Drew.of hb (same_new nD), upd_same, rfl, fun k h => nomatch h⟩ (fun i H _ ⟨vs, d, _⟩ => d.but.seq hab hS) (fun i x H hx ⟨vs, d, hD, hl, hp⟩ => ?_) (fun H ⟨vs, d, hD, hl, hp⟩ => hd H vs d hD hl hp)
  have hi : i < xs.length := (List.getElem?_eq_some_iff.mp hx).1
  rw [List.getElem?_eq_getElem hi] at hx
  cases hx
  refine ⟨wipe_one _ _ _, he i hi H _ d fun H4 v d4 pv => ?_⟩
  refine ⟨iv vs, d4.but _ _ (hb.ne nD) hD, by rw [iv_len]; exact small_line (by omega), vs ++ [v], (d.trans d4).put nD, ?_, by rw [List.length_append, hl]; rfl, fun k h => ?_⟩
  · rw [upd_same]
    unfold iv
    rw [List.map_append]
    rfl
  · rw [List.length_append] at h
    by_cases hk : k < vs.length
    · rw [List.getElem_append_left hk]
      exact hp k hk
    · have e : k = vs.length := by
        have : [v].length = 1 := rfl
        omega
      subst e
      rw [List.getElem_append_right (Nat.le_refl _)]
      simp only [Nat.sub_self, List.getElem_cons_zero]
      rw [hl]
      exact pv
/-- a comprehension over a tuple whose condition is never so -/
theorem lc_noneT {K : PySem.W.Frag} {a : Addr} {xs : List V} {tt : TT} {te : TE} {j : Nat} {σ : L2.St} {H1 : Hp} {D : Addr} {Qd : Hp → Prop} (hS : SqT K H1 a xs) (nD : H1 D = none)
    (ht : ∀ i (hi : i < xs.length) (H : Hp) (R : Bool → Hp → Prop), Same H1 H → (∀ H4, Same H H4 → R false H4) → tt ((wipe σ [j]).set j (some xs[i])) H R)
    (hd : ∀ H, Same H1 H → H D = some (.lst []) → Qd H) : LcG (Itt K a) (gName j) tt te [j] σ H1 D Qd := by
  refine lc_tup (K := K) (a := a) (xs := xs) (fun i H => Same H1 H ∧ H D = some (.lst [])) ⟨same_new nD, upd_same⟩ (fun i H _ h => Same.set h.1 hS) (fun i x H hx ⟨sm, hD⟩ => ?_) (fun H h => hd H h.1 h.2)
  have hi : i < xs.length := (List.getElem?_eq_some_iff.mp hx).1
  rw [List.getElem?_eq_getElem hi] at hx
  cases hx
  exact ⟨wipe_one _ _ _, ht i hi H _ sm fun H4 s4 => iteF ⟨sm.trans s4, s4 _ _ hD⟩⟩
end Hn

/-! PlanM -/
/-! plans against what can be met -/
namespace Hn
open PySem L2
section
variable {ns : List Int} {g : Int → Int} {p : Int}
theorem ext_eq (n : Nat) (W : Int) (s : Int → Int) (t : Int) : Clk.ext n W s t = ext s W n t := by
  unfold Clk.ext ext
  omega
/-- the sums of a plan, of the marks reached -/
def sumsOf (n : Nat) (R : Int → Int) (p : Int) (k : Int) : Int := if k < n then R k else p
theorem sumsOf_in {n : Nat} {R : Int → Int} {k : Int} (h : k < n) : sumsOf n R p k = R k := if_pos h
theorem sumsOf_end {n : Nat} {R : Int → Int} : sumsOf n R p n = p := if_neg (by omega)
theorem ext_sumsOf (n0 : 0 < ns.length) (R : Int → Int) (t : Int) : ext (sumsOf ns.length R p) p ns.length t = ext R p ns.length t := by
  unfold ext
  rw [sumsOf_in (emod_in n0 t).2]
theorem rest_zero (n0 : 0 < ns.length) {R : Int → Int} (h : Rest (stepsL ns g ns.length) p (fun _ => 0) R) : R 0 = 0 := by
  obtain ⟨h1, h2, h3⟩ := h
  obtain ⟨a, js, path, hj, e⟩ := h3 0
  have z0 : 0 ≤ R 0 := h2 0
  have z := Stl.path_le (S := R) path fun k hk => h1 k (hj k hk)
  replace e : R 0 = 0 + Stl.wt js := e
  have e' : R 0 = Stl.wt js := by omega
  cases js with
  | nil =>
    rw [e']
    rfl
  | cons j js =>
    have ha : 0 ≤ a ∧ a < ns.length := by
      have hf : j.f = a := path.1
      rw [← hf]
      obtain ⟨x, hx, ey⟩ := mem_ask (hj j List.mem_cons_self)
      rcases ey with rfl | rfl
      · show 0 ≤ (x : Int) ∧ (x : Int) < ns.length
        omega
      · exact emod_in n0 _
    have up := feas_le n0 h1 (x := 0) (y := a) ha.1
    have q0 := ext_at (p := p) (R := R) (n := (ns.length : Int)) (f := 0) (q := 0) (Int.le_refl 0) (by omega)
    have qa := ext_at (p := p) (R := R) (n := (ns.length : Int)) (f := a) (q := 0) ha.1 ha.2
    rw [show (0 : Int) * (ns.length : Int) + 0 = 0 by omega] at q0
    rw [show (0 : Int) * (ns.length : Int) + a = a by omega] at qa
    omega
/-- of marks reached: a plan that is enough -/
theorem rest_plan (v : Clk.Valid ns) {R : Int → Int} (h : Rest (stepsL ns g ns.length) p (fun _ => 0) R) :
    sumsOf ns.length R p 0 = 0 ∧ (∀ k : Nat, k < ns.length → sumsOf ns.length R p k ≤ sumsOf ns.length R p ((k : Int) + 1)) ∧ ∀ x : Int, g (x % (ns.length : Int)) ≤ Clk.th ns (per ns.length (ds (sumsOf ns.length R p))) x := by
  have n0 := v.pos
  have r0 := rest_zero n0 h
  have s0 : sumsOf ns.length R p 0 = 0 := by rw [sumsOf_in (by omega)]; exact r0
  refine ⟨s0, fun k hk => ?_, fun x => ?_⟩
  · have z := feas_keep n0 h.1 (k : Int)
    have qk := ext_at (p := p) (R := R) (n := (ns.length : Int)) (f := k) (q := 0) (by omega) (by omega)
    rw [show (0 : Int) * (ns.length : Int) + k = k by omega] at qk
    rw [sumsOf_in (by omega)]
    by_cases l : (k : Int) + 1 < ns.length
    · have q1 := ext_at (p := p) (R := R) (n := (ns.length : Int)) (f := (k : Int) + 1) (q := 0) (by omega) l
      rw [show (0 : Int) * (ns.length : Int) + ((k : Int) + 1) = k + 1 by omega] at q1
      rw [sumsOf_in l]
      omega
    · have e : (k : Int) + 1 = ns.length := by omega
      have q1 := ext_at (p := p) (R := R) (n := (ns.length : Int)) (f := 0) (q := 1) (by omega) (by omega)
      rw [show (1 : Int) * (ns.length : Int) + 0 = k + 1 by omega] at q1
      rw [e, sumsOf_end]
      omega
  · rw [Clk.th_ext v s0 sumsOf_end, ext_eq, ext_eq, ext_sumsOf n0, ext_sumsOf n0]
    have z := feas_need n0 h.1 x
    omega
/-- of a plan that is enough: what can be met -/
theorem plan_feas (v : Clk.Valid ns) {s : Int → Int} (s0 : s 0 = 0) (sp : s ns.length = p) (up : ∀ k : Nat, k < ns.length → s k ≤ s ((k : Int) + 1)) (en : ∀ x : Nat, x < ns.length → g x ≤ Clk.th ns (per ns.length (ds s)) x) : Feas ns g p := by
  have n0 := v.pos
  have at_ : ∀ f q : Int, 0 ≤ f → f < ns.length → ext s p ns.length (q * ns.length + f) = s f + p * q := fun f q h0 h1 => ext_at h0 h1
  refine ⟨s, fun k hk => ?_⟩
  obtain ⟨x, hx, e⟩ := mem_ask hk
  rcases e with rfl | rfl
  · show s x + (0 - ((x : Int) + 1) / (ns.length : Int) * p) ≤ s (((x : Int) + 1) % (ns.length : Int))
    have z := up x hx
    by_cases l : (x : Int) + 1 < ns.length
    · rw [Int.emod_eq_of_lt (by omega) l, Int.ediv_eq_zero_of_lt (by omega) l]
      omega
    · have e : (x : Int) + 1 = ns.length := by omega
      rw [e, sp] at z
      rw [e, Int.emod_self, Int.ediv_self (by omega), s0]
      omega
  · show s (((x : Int) + 1 - Clk.wd ns x) % (ns.length : Int)) + (g x - (((x : Int) + 1 - Clk.wd ns x) % (ns.length : Int) + Clk.wd ns x) / (ns.length : Int) * p) ≤ s (((x : Int) + 1) % (ns.length : Int))
    have z := en x hx
    rw [Clk.th_ext v s0 sp, ext_eq, ext_eq] at z
    have f := emod_in (ns := ns) n0 ((x : Int) + 1 - Clk.wd ns x)
    have l := emod_in (ns := ns) n0 ((x : Int) + 1)
    have e := len_at (ns := ns) n0 (f := ((x : Int) + 1 - Clk.wd ns x) % (ns.length : Int)) (len := Clk.wd ns x)
    rw [need_last (by omega) (by omega)] at e
    have c := split_at (ns := ns) ((x : Int) + 1 - Clk.wd ns x)
    have a1 := at_ _ (((x : Int) + 1 - Clk.wd ns x) / (ns.length : Int)) f.1 f.2
    rw [c] at a1
    have a2 := at_ _ (((x : Int) + 1 - Clk.wd ns x) / (ns.length : Int) + (((x : Int) + 1 - Clk.wd ns x) % (ns.length : Int) + Clk.wd ns x) / (ns.length : Int)) l.1 l.2
    rw [Int.add_mul, show ((x : Int) + 1 - Clk.wd ns x) / (ns.length : Int) * (ns.length : Int) + (((x : Int) + 1 - Clk.wd ns x) % (ns.length : Int) + Clk.wd ns x) / (ns.length : Int) * (ns.length : Int) + ((x : Int) + 1) % (ns.length : Int) = (x : Int) + 1 by omega, Int.mul_add, Int.mul_comm p ((((x : Int) + 1 - Clk.wd ns x) % (ns.length : Int) + Clk.wd ns x) / (ns.length : Int))] at a2
    omega
theorem Sum_first {f : Int → Int} : ∀ {w : Nat}, 1 ≤ w → (∀ i : Nat, i < w → 0 ≤ f i) → f 0 ≤ Clk.Sum w f
  | 0, h, _ => absurd h (Nat.not_succ_le_zero 0)
  | 1, _, _ => by
    show f 0 ≤ 0 + f ((0 : Nat) : Int)
    show f 0 ≤ 0 + f 0
    omega
  | w + 2, _, h => by
    have z := Sum_first (f := f) (w := w + 1) (by omega) fun i hi => h i (by omega)
    have y := h (w + 1) (by omega)
    show f 0 ≤ Clk.Sum (w + 1) f + f ((w + 1 : Nat) : Int)
    omega
/-- if as many begin at each hour as it needs, they are enough -/
theorem total_feas (v : Clk.Valid ns) (hg : ∀ x : Nat, x < ns.length → 0 ≤ g x) : Feas ns g (Clk.Sum ns.length g) := by
  have n0 := v.pos
  have step : ∀ k : Nat, Clk.Sum ((k : Int) + 1).toNat g = Clk.Sum k g + g k := fun k => by
    rw [show ((k : Int) + 1).toNat = k + 1 by omega]
    rfl
  have d : ∀ k : Nat, ds (fun k => Clk.Sum k.toNat g) k = g k := fun k => by
    show Clk.Sum ((k : Int) + 1).toNat g - Clk.Sum ((k : Int)).toNat g = g k
    rw [step, Int.toNat_natCast]
    omega
  refine plan_feas v (s := fun k => Clk.Sum k.toNat g) rfl rfl (fun k hk => ?_) fun x hx => ?_
  · show Clk.Sum ((k : Int)).toNat g ≤ Clk.Sum ((k : Int) + 1).toNat g
    rw [step, Int.toNat_natCast]
    have := hg k hk
    omega
  · rw [Clk.th_wd v]
    have all : ∀ y : Int, 0 ≤ per ns.length (ds fun k => Clk.Sum k.toNat g) y := fun y => by
      obtain ⟨a, b⟩ := emod_in n0 y
      obtain ⟨k, hk⟩ := Int.eq_ofNat_of_zero_le a
      show 0 ≤ ds (fun k => Clk.Sum k.toNat g) (y % (ns.length : Int))
      rw [hk, d]
      exact hg k (by omega)
    have z := Sum_first (f := fun k => per ns.length (ds fun k => Clk.Sum k.toNat g) ((x : Int) - k)) (Clk.wd_pos v x) fun i _ => all _
    have e : per ns.length (ds fun k => Clk.Sum k.toNat g) ((x : Int) - 0) = g x := by
      show ds (fun k => Clk.Sum k.toNat g) (((x : Int) - 0) % (ns.length : Int)) = g x
      rw [Int.sub_zero, Int.emod_eq_of_lt (by omega) (by omega), d]
    rw [← e]
    exact z
end
end Hn

/-! RingE -/
/-! rings and what settles, evaluated -/
namespace Hn
open PySem PySem.Spec L2 Evl
section
variable {K : PySem.W.Frag} {σ : L2.St} {H : Hp} {ta tb te : TE}
theorem et_yes : EvT tYes σ H true := fun H1 _ _ q => q H1 (Ex.refl H1)
theorem el_catW {p : Addr} {xs ys : List V} (ha : Ev ta σ H (.ref p)) (hp : H p = some (.lst xs)) (hb : EvL tb σ H ys) (hz : xs.length + ys.length ≤ 10000) : EvL (tOp rCat ta tb) σ H (xs ++ ys) := fun H1 e Q k =>
  ha H1 e _ fun H2 e2 => hb H2 (e.trans e2) _ fun q H3 nq e3 hq => ⟨p, q, xs, ys, rfl, rfl, ((e.trans e2).trans e3) _ _ hp, hq, small_line' hz, fun r nr => k r _ (fresh_back (e2.trans e3) nr) ((e2.trans e3).trans (Ex.new nr)) upd_same⟩
theorem row_last {n : Nat} {R : Int → Int} {p : Int} : iv (Clk.row n R) ++ [V.int p] = iv (Clk.row (n + 1) (sumsOf n R p)) := by
  unfold iv Clk.row
  rw [List.range_succ, List.map_append, List.map_append]
  congr 1
  · rw [List.map_map, List.map_map]
    refine List.map_congr_left fun i hi => ?_
    have h := List.mem_range.mp hi
    show V.int (R i) = V.int (sumsOf n R p i)
    rw [sumsOf_in (by omega)]
  · show [V.int p] = [V.int (sumsOf n R p n)]
    rw [sumsOf_end]
/-- return v, a new list -/
theorem s_retCL {D : Ends} {v : V} {xs : List V} (h : EvL te σ H xs) (k : ∀ t w H1, H t = none → Ex H H1 → H1 t = some (.tup [v, .ref w]) → H1 w = some (.lst xs) → H w = none → D.rt (.ref t) H1) : tRet (tTup (tCons (tC v) (tCons te tNil))) D σ H :=
  h H (Ex.refl H) _ fun w H1 nw e1 hw => ⟨by show 2 ≤ sizeLine; decide, fun t nt => k t w _ (fresh_back e1 nt) (e1.trans (Ex.new nt)) upd_same (Ex.new nt _ _ hw) nw⟩
theorem iv_pick {l : List Int} {i : Nat} {x : V} (hx : (iv l)[i]? = some x) : x = .int (l.getD i 0) ∧ l.getD i 0 ∈ l := by
  obtain ⟨hi, e⟩ := List.getElem?_eq_some_iff.mp hx
  have hi' : i < l.length := by rwa [iv_len] at hi
  have z : l.getD i 0 = l[i] := by simp [hi']
  rw [z]
  refine ⟨?_, List.getElem_mem _⟩
  rw [← e]
  exact List.getElem_map ..
/-- [e for x in xs], xs ints, e ints -/
theorem el_mapI {j : Nat} {vs : List Nat} {p : Addr} {l : List Int} (c : Int → Int) (h : Ev tb σ H (.ref p)) (hp : SqL K H p (iv l)) (hz : l.length ≤ 40000) (hw : ∀ x, wipe ((wipe σ vs).set j (some x)) vs = wipe σ vs)
    (he : ∀ x ∈ l, ∀ H1, Ex H H1 → Ev te ((wipe σ vs).set j (some (.int x))) H1 (.int (c x))) : EvL (tLc (iList K tb) (gName j) tYes te vs) σ H (iv (l.map c)) := by
  have q := el_lcL (K := K) (t := tYes) (te := te) (j := j) (vs := vs) (xs := iv l) (fun _ => true) (fun i => V.int (c (l.getD i 0))) h hp (by rw [iv_len]; exact hz) hw (fun i x H1 e hx => et_yes) (fun i x H1 e hx _ => by
    obtain ⟨rfl, m⟩ := iv_pick hx
    exact he _ m H1 e)
  have e : given (iv l).length (fun _ => true) (fun i => V.int (c (l.getD i 0))) = iv (l.map c) := by
    unfold given iv
    rw [List.filter_eq_self.mpr fun _ _ => rfl]
    apply List.ext_getElem
    · simp
    · intro i h1 h2
      have hi : i < l.length := by simpa using h1
      simp [hi]
  rw [e] at q
  exact q
theorem el_mapNI {j : Nat} {vs : List Nat} {l : List Int} (c : Int → Int) (h : EvL tb σ H (iv l)) (hz : l.length ≤ 40000) (hw : ∀ x, wipe ((wipe σ vs).set j (some x)) vs = wipe σ vs)
    (he : ∀ x ∈ l, ∀ H1, Ex H H1 → Ev te ((wipe σ vs).set j (some (.int x))) H1 (.int (c x))) : EvL (tLc (iList K tb) (gName j) tYes te vs) σ H (iv (l.map c)) := by
  have q := el_lcNL (K := K) (t := tYes) (te := te) (j := j) (vs := vs) (xs := iv l) (fun _ => true) (fun i => V.int (c (l.getD i 0))) h (by rw [iv_len]; exact hz) hw (fun i x H1 e hx => et_yes) (fun i x H1 e hx _ => by
    obtain ⟨rfl, m⟩ := iv_pick hx
    exact he _ m H1 e)
  have e : given (iv l).length (fun _ => true) (fun i => V.int (c (l.getD i 0))) = iv (l.map c) := by
    unfold given iv
    rw [List.filter_eq_self.mpr fun _ _ => rfl]
    apply List.ext_getElem
    · simp
    · intro i h1 h2
      have hi : i < l.length := by simpa using h1
      simp [hi]
  rw [e] at q
  exact q
/-- [x for x in xs if x is not None] -/
theorem el_someV {j : Nat} {vs : List Nat} {t : TT} {p : Addr} {xs : List V} (h : Ev tb σ H (.ref p)) (hp : SqL K H p xs) (hz : xs.length ≤ 40000) (hw : ∀ x, wipe ((wipe σ vs).set j (some x)) vs = wipe σ vs)
    (ht : ∀ x ∈ xs, ∀ H1, Ex H H1 → EvT t ((wipe σ vs).set j (some x)) H1 (!decide (x = V.non)))
    (he : ∀ x ∈ xs, ∀ H1, Ex H H1 → Ev te ((wipe σ vs).set j (some x)) H1 x) : EvL (tLc (iList K tb) (gName j) t te vs) σ H (xs.filter fun x => !decide (x = V.non)) := by
  have pick : ∀ {i : Nat} {x : V}, xs[i]? = some x → xs.getD i .non = x ∧ x ∈ xs := fun {i x} hx => by
    obtain ⟨hi, e⟩ := List.getElem?_eq_some_iff.mp hx
    exact ⟨by rw [List.getD_eq_getElem?_getD, hx]; rfl, by rw [← e]; exact List.getElem_mem _⟩
  have q := el_lcL (K := K) (t := t) (te := te) (j := j) (vs := vs) (xs := xs) (fun i => !decide (xs.getD i .non = V.non)) (fun i => xs.getD i .non) h hp hz hw (fun i x H1 e hx => by
    obtain ⟨e1, m⟩ := pick hx
    rw [e1]
    exact ht _ m H1 e) (fun i x H1 e hx _ => by
    obtain ⟨e1, m⟩ := pick hx
    rw [e1]
    exact he _ m H1 e)
  have e : given xs.length (fun i => !decide (xs.getD i .non = V.non)) (fun i => xs.getD i .non) = xs.filter fun x => !decide (x = V.non) := by
    have e0 : xs = (List.range xs.length).map fun i => xs.getD i V.non := by
      apply List.ext_getElem
      · simp
      · intro i h1 h2
        simp [h1]
    unfold given
    conv => rhs; rw [e0, List.filter_map]
    rfl
  rw [e] at q
  exact q
end
theorem flat_repI (n : Nat) (c : Int) : (List.replicate n [V.int c]).flatten = iv (List.replicate n c) := by
  unfold iv
  induction n with
  | zero => rfl
  | succ n ih =>
    rw [List.replicate_succ, List.replicate_succ, List.flatten_cons, List.map_cons, ih]
    rfl
/-- names are hours, or none -/
theorem filt_hours : ∀ {vs : List V}, (∀ v ∈ vs, v = .non ∨ ∃ h, v = .int h) → (vs.filter fun x => !decide (x = V.non)) = iv (hoursOf vs)
  | [], _ => rfl
  | v :: vs, h => by
    have ih := filt_hours fun x hx => h x (List.mem_cons_of_mem v hx)
    rcases h v List.mem_cons_self with rfl | ⟨k, rfl⟩
    · rw [List.filter_cons_of_neg (by rw [decide_eq_true rfl]; exact fun z => nomatch z), ih]
      rfl
    · rw [List.filter_cons_of_pos (by rw [decide_eq_false (fun z => nomatch z)]; rfl), ih]
      rfl
theorem rnd_names {ns : List Int} {g : Int → Int} {p : Int} {nms : List V} (h : Rnd (stepsL ns g ns.length) p nms) : (∀ v ∈ nms, v = .non ∨ ∃ h, v = .int h) ∧ nms.length ≤ 1000 := by
  obtain ⟨m, js, rfl, _, hl, _, hj, _⟩ := h
  refine ⟨fun v hv => ?_, by rw [List.length_map]; exact hl⟩
  obtain ⟨j, hj', rfl⟩ := List.mem_map.mp hv
  obtain ⟨x, _, e⟩ := mem_ask (hj j hj')
  rcases e with rfl | rfl
  · exact .inl rfl
  · exact .inr ⟨x, rfl⟩
theorem hoursOf_len (vs : List V) : (hoursOf vs).length ≤ vs.length := List.length_filterMap_le _ _
/-- the ways from hour to hour, as a list -/
def hopL (ns : List Int) : Int → List Int → List Int
  | _, [] => []
  | h, k :: r => hop ns h k :: hopL ns k r
theorem hopL_len (ns : List Int) : ∀ (h : Int) (r : List Int), (hopL ns h r).length = r.length
  | _, [] => rfl
  | h, k :: r => congrArg (· + 1) (hopL_len ns k r)
theorem hopL_sum (ns : List Int) : ∀ (h : Int) (r : List Int), (hopL ns h r).sum = hops ns h r
  | _, [] => rfl
  | h, k :: r => by
    show (hop ns h k :: hopL ns k r).sum = hop ns h k + hops ns k r
    rw [List.sum_cons, hopL_sum ns k r]
theorem hopL_get (ns : List Int) : ∀ (h : Int) (r : List Int) (i : Nat), i < r.length → (hopL ns h r).getD i 0 = hop ns ((h :: r).getD i 0) (r.getD i 0)
  | _, [], _, hi => absurd hi (Nat.not_lt_zero _)
  | h, k :: r, 0, _ => rfl
  | h, k :: r, i + 1, hi => by
    show (hopL ns k r).getD i 0 = hop ns ((k :: r).getD i 0) (r.getD i 0)
    exact hopL_get ns k r i (Nat.lt_of_succ_lt_succ hi)
theorem lastH_get : ∀ {h : Int} {r : List Int}, r ≠ [] → lastH h r = r.getD (r.length - 1) 0
  | _, [], hr => absurd rfl hr
  | h, [k], _ => rfl
  | h, k :: l :: r, _ => by
    have z := lastH_get (h := k) (r := l :: r) (fun z => nomatch z)
    show lastH k (l :: r) = _
    rw [z]
    simp
/-- the hour ahead, round about -/
theorem at_ahead {ring : List Int} {i : Nat} (hi : i < ring.length) : atI (iv ring) ((i : Int) - 1) = some (.int ((lastH 0 ring :: ring).getD i 0)) := by
  have hne : ring ≠ [] := fun z => by rw [z] at hi; exact absurd hi (Nat.not_lt_zero _)
  cases i with
  | zero =>
    show atI (iv ring) (((0 : Nat) : Int) - 1) = some (.int (lastH 0 ring))
    rw [lastH_get hne]
    have e : ixN (iv ring).length (((0 : Nat) : Int) - 1) = some (ring.length - 1) := by
      unfold ixN
      rw [iv_len, if_neg (by omega)]
      rw [if_pos (by omega)]
      congr 1
      omega
    unfold atI
    rw [e]
    show (iv ring)[ring.length - 1]? = _
    rw [iv_get (by omega), List.getD_eq_getElem?_getD, List.getElem?_eq_getElem (by omega)]
    rfl
  | succ i =>
    rw [show ((i + 1 : Nat) : Int) - 1 = (i : Int) by omega]
    refine atI_nat ?_
    rw [iv_get (by omega)]
    show _ = some (V.int (ring.getD i 0))
    rw [List.getD_eq_getElem?_getD, List.getElem?_eq_getElem (by omega)]
    rfl
theorem steps_in {ns : List Int} {g : Int → Int} (v : Clk.Valid ns) : ∀ k ∈ stepsL ns g ns.length, (0 ≤ k.f ∧ k.f < ns.length) ∧ (0 ≤ k.l ∧ k.l < ns.length) ∧ -(2 ^ 64) < k.d ∧ k.d < 2 ^ 64 := fun k hk => by
  have n0 := v.pos
  have top := v.top
  have small : ∀ x : Int, 0 ≤ x → x ≤ 200 → -(2 ^ 64) < x / (ns.length : Int) ∧ x / (ns.length : Int) < 2 ^ 64 := fun x h0 h1 => by
    have a := Int.ediv_nonneg h0 (show (0 : Int) ≤ (ns.length : Int) by omega)
    have b := Int.ediv_le_self (ns.length : Int) h0
    omega
  obtain ⟨x, hx, e⟩ := mem_stepsL.mp hk
  rcases e with rfl | rfl
  · exact ⟨by show 0 ≤ (x : Int) ∧ (x : Int) < ns.length; omega, emod_in n0 _, small _ (by omega) (by omega)⟩
  · have f := emod_in (ns := ns) n0 ((x : Int) + 1 - Clk.wd ns x)
    have w := Clk.wd_le ns x
    exact ⟨f, emod_in n0 _, small _ (by omega) (by omega)⟩
def spHop (K : PySem.W.Frag) : Sp := fun vs H Q _ => ∃ (a : Addr) (ns : List Int) (h k : Int), vs = [.ref a, .int h, .int k] ∧ SqL K H a (iv (Clk.widths ns)) ∧ 0 ≤ k ∧ k < ns.length ∧ ∀ H', Same H H' → Q (.int (hop ns h k)) H'
def spWinds (K : PySem.W.Frag) (CC : Addr) : Sp := fun vs H Q _ => ∃ (c r : Addr) (ns ring : List Int), vs = [.ref c, .ref r] ∧ ClkAt K CC H c ns ∧ SqL K H r (iv ring) ∧ ring.length ≤ 2500 ∧ (∀ k ∈ ring, 0 ≤ k ∧ k < ns.length) ∧ ∀ H', Same H H' → Q (.int (windsI ns ring)) H'
def spBound (K : PySem.W.Frag) (CC CN : Addr) : Sp := fun vs H Q _ => ∃ (c d r : Addr) (ns ring : List Int) (g : Int → Int), vs = [.ref c, .ref d, .ref r] ∧ ClkAt K CC H c ns ∧ RowAt K CN "_row" H d (Clk.row ns.length g) ∧ SqL K H r (iv ring) ∧ ring ≠ [] ∧ ring.length ≤ 2500 ∧ (∀ k ∈ ring, 0 ≤ k ∧ k < ns.length) ∧ ∀ H', Same H H' → Q (.int (boundI ns g ring)) H'
/-- what settles with so many people: a plan's marks, or a ring that asks for more -/
def Settled (ns : List Int) (g : Int → Int) (p : Int) (H0 H : Hp) (t : Addr) : Prop := ∃ u : Addr, H0 u = none ∧ ((∃ R, H t = some (.tup [.ref u, .non]) ∧ H u = some (.lst (iv (Clk.row ns.length R))) ∧ Rest (stepsL ns g ns.length) p (fun _ => 0) R) ∨
  ∃ ring, H t = some (.tup [.non, .ref u]) ∧ H u = some (.lst (iv ring)) ∧ ring ≠ [] ∧ ring.length ≤ 1000 ∧ (∀ k ∈ ring, 0 ≤ k ∧ k < ns.length) ∧ p * windsI ns ring < needS g ring ∧ ¬ Feas ns g p)
def spSettled (K : PySem.W.Frag) : Sp := fun vs H Q _ => ∃ (l : Addr) (p : Int) (ns : List Int) (g : Int → Int), vs = [.ref l, .int p] ∧ Lnks K H l (stepsL ns g ns.length) ∧ Clk.Valid ns ∧ 0 ≤ p ∧ ∀ t H', H t = none → Same H H' → Settled ns g p H H' t → Q (.ref t) H'
theorem ring_low {ns : List Int} {g : Int → Int} {p : Int} (v : Clk.Valid ns) {ring : List Int} (hr : ring ≠ []) (hin : ∀ k ∈ ring, 0 ≤ k ∧ k < ns.length) (h : Feas ns g p) : boundI ns g ring ≤ p := by
  obtain ⟨R, hR⟩ := h
  have z := feas_ring v.pos hR hr hin
  have w := windsI_pos v.pos v ring hr
  rcases Int.lt_or_le p (boundI ns g ring) with y | y
  · have := (bound_lt w).mp y
    rw [Int.mul_comm] at this
    omega
  · exact y
theorem ring_high {ns : List Int} {g : Int → Int} {p : Int} (v : Clk.Valid ns) {ring : List Int} (hr : ring ≠ []) (h : p * windsI ns ring < needS g ring) : p < boundI ns g ring :=
  (bound_lt (windsI_pos v.pos v ring hr)).mpr h
theorem ring_one {ns : List Int} {g : Int → Int} (v : Clk.Valid ns) {h : Int} : boundI ns g [h] = g h := by
  have n0 := v.pos
  have w0 := Clk.wd_pos v h
  have w1 := Clk.wd_le ns h
  have e : hopSum ns [h] = ns.length := by
    show hop ns h h + 0 = ns.length
    unfold hop
    rw [show h - (Clk.wd ns h : Int) - h = -(Clk.wd ns h : Int) by omega]
    by_cases l : Clk.wd ns h = ns.length
    · rw [l, Int.neg_emod_self]
      omega
    · rw [show -(Clk.wd ns h : Int) = (ns.length - Clk.wd ns h : Int) + (ns.length : Int) * (-1) by omega, Int.add_mul_emod_self_left, Int.emod_eq_of_lt (by omega) (by omega)]
      omega
  unfold boundI windsI
  rw [e, Int.ediv_self (by omega), Int.ediv_one]
  show - -(g h + 0) = g h
  omega
theorem least_nat (P : Nat → Prop) : ∀ i, P i → ∃ j, j ≤ i ∧ P j ∧ ∀ k, k < j → ¬ P k := by
  intro i
  induction i using Nat.strongRecOn with
  | ind i ih =>
    intro h
    by_cases c : ∃ k, k < i ∧ P k
    · obtain ⟨k, a, b⟩ := c
      obtain ⟨j, x, y, z⟩ := ih k a b
      exact ⟨j, by omega, y, z⟩
    · exact ⟨i, Nat.le_refl i, h, fun k a b => c ⟨k, a, b⟩⟩
/-- xs.index(m): the first place where it stands -/
theorem ev_index {K : PySem.W.Frag} {σ : L2.St} {H : Hp} {ta tb : TE} {p : Addr} {n : Nat} {g : Int → Int} {m : Int} {j : Nat} (ha : Ev ta σ H (.ref p)) (hp : H p = some (.lst (iv (Clk.row n g)))) (hb : Ev tb σ H (.int m)) (hj : j < n) (e : g j = m) (no : ∀ k : Nat, k < j → g k ≠ m) :
    Ev (tBM K "list" (rIndex K) ta (tCons tb tNil)) σ H (.int (j : Nat)) := fun H1 x Q q =>
  ha H1 x _ fun H2 x2 => ⟨Or.inl ⟨rfl, _, sq_of ((x.trans x2) _ _ hp)⟩, hb H2 (x.trans x2) _ fun H3 x3 => ⟨p, _, .int m, j, .int (g j), rfl, rfl, sq_of (((x.trans x2).trans x3) _ _ hp), rfl, flat_iv _, by
    unfold iv
    rw [List.getElem?_map, Clk.row_get hj]
    rfl, by
    rw [e]
    show (m == m) = true
    exact beq_self_eq_true m, fun k z hk hz => by
    unfold iv at hz
    rw [List.getElem?_map, Clk.row_get (by omega)] at hz
    obtain rfl := Option.some.inj hz
    exact beq_eq_false_iff_ne.mpr (no k hk), q H3 (x2.trans x3)⟩⟩
/-- the least number of people with which the needs can be met -/
def Min (ns : List Int) (g : Int → Int) (b : Int) : Prop := Feas ns g b ∧ ∀ p, Feas ns g p → b ≤ p
def spRingFor (K : PySem.W.Frag) (CC CN : Addr) : Sp := fun vs H Q _ => ∃ (c d : Addr) (ns : List Int) (g : Int → Int), vs = [.ref c, .ref d] ∧ ClkAt K CC H c ns ∧ RowAt K CN "_row" H d (Clk.row ns.length g) ∧
  (∀ H', Same H H' → (∀ i : Nat, i < ns.length → g i = 0) → Q .non H') ∧
  ∀ H' r ring, H r = none → Same H H' → H' r = some (.lst (iv ring)) → ring ≠ [] → ring.length ≤ 1000 → (∀ k ∈ ring, 0 ≤ k ∧ k < ns.length) → Min ns g (boundI ns g ring) → (∃ i : Nat, i < ns.length ∧ g i ≠ 0) → Q (.ref r) H'
theorem min_zero {ns : List Int} {g : Int → Int} (v : Clk.Valid ns) (h0 : ∀ i : Nat, i < ns.length → g i = 0) : Min ns g 0 := by
  have z := total_feas (g := g) v fun i hi => by rw [h0 i hi]; exact Int.le_refl 0
  have e : Clk.Sum ns.length g = 0 := by
    rw [Clk.Sum_congr (g := fun _ => 0) h0]
    exact Clk.Sum_nil _
  rw [e] at z
  refine ⟨z, fun p ⟨R, hR⟩ => ?_⟩
  have n0 := v.pos
  have a := feas_le n0 hR (x := 0) (y := ns.length) (by omega)
  have q0 := ext_at (p := p) (R := R) (n := (ns.length : Int)) (f := 0) (q := 0) (Int.le_refl 0) (by omega)
  have q1 := ext_at (p := p) (R := R) (n := (ns.length : Int)) (f := 0) (q := 1) (Int.le_refl 0) (by omega)
  rw [show (0 : Int) * (ns.length : Int) + 0 = 0 by omega] at q0
  rw [show (1 : Int) * (ns.length : Int) + 0 = ns.length by omega] at q1
  omega
def spFewest (K : PySem.W.Frag) (CC CN : Addr) : Sp := fun vs H Q _ => ∃ (c d : Addr) (ns : List Int) (g : Int → Int), vs = [.ref c, .ref d] ∧ ClkAt K CC H c ns ∧ RowAt K CN "_row" H d (Clk.row ns.length g) ∧ ∀ b H', Same H H' → Min ns g b → Q (.int b) H'
def spEnoughP (K : PySem.W.Frag) (CC CN : Addr) : Sp := fun vs H Q _ => ∃ (c d : Addr) (p : Int) (ns : List Int) (g : Int → Int), vs = [.ref c, .ref d, .int p] ∧ ClkAt K CC H c ns ∧ RowAt K CN "_row" H d (Clk.row ns.length g) ∧ 0 ≤ p ∧
  (∀ H', Same H H' → Feas ns g p → Q (.bl true) H') ∧ ∀ H', Same H H' → ¬ Feas ns g p → Q (.bl false) H'
/-- a plan that is enough -/
def spPlanFor (K : PySem.W.Frag) (CC CN CP : Addr) : Sp := fun vs H Q _ => ∃ (c d : Addr) (p : Int) (ns : List Int) (g : Int → Int), vs = [.ref c, .ref d, .int p] ∧ ClkAt K CC H c ns ∧ RowAt K CN "_row" H d (Clk.row ns.length g) ∧ 0 ≤ p ∧ Feas ns g p ∧
  ∀ r H' (s : Int → Int), H r = none → Same H H' → RowAt K CP "_begins" H' r (Clk.row ns.length (ds s)) → s 0 = 0 → s ns.length = p → (∀ k : Nat, k < ns.length → s k ≤ s ((k : Int) + 1)) → (∀ x : Int, g (x % (ns.length : Int)) ≤ Clk.th ns (per ns.length (ds s)) x) → Q (.ref r) H'
end Hn
namespace Hn
open PySem PySem.Spec L2 Evl
def spThereL (K : PySem.W.Frag) : Sp := fun vs H Q _ => ∃ (a b : Addr) (ns : List Int) (g : Int → Int), vs = [.ref a, .ref b] ∧ Clk.Valid ns ∧ SqL K H a (iv ns) ∧ SqL K H b (iv (Clk.row ns.length g)) ∧ ∀ l H', H l = none → Same H H' → H' l = some (.lst (iv (Clk.row ns.length (Clk.th ns (per ns.length g))))) → Q (.ref l) H'
def spServesL (K : PySem.W.Frag) : Sp := fun vs H Q _ => ∃ (a b c : Addr) (ns : List Int) (w g : Int → Int), vs = [.ref a, .ref b, .ref c] ∧ Clk.Valid ns ∧ SqL K H a (iv ns) ∧ SqL K H b (iv (Clk.row ns.length w)) ∧ SqL K H c (iv (Clk.row ns.length g)) ∧
  (∀ x : Nat, x < ns.length → w x ≤ Clk.th ns (per ns.length g) x) ∧ ∀ H', Same H H' → Q (.bl true) H'
theorem feas_nonneg {ns : List Int} {g : Int → Int} {p : Int} (v : Clk.Valid ns) (h : Feas ns g p) : 0 ≤ p := by
  obtain ⟨R, hR⟩ := h
  have n0 := v.pos
  have a := feas_le n0 hR (x := 0) (y := ns.length) (by omega)
  have q0 := ext_at (p := p) (R := R) (n := (ns.length : Int)) (f := 0) (q := 0) (Int.le_refl 0) (by omega)
  have q1 := ext_at (p := p) (R := R) (n := (ns.length : Int)) (f := 0) (q := 1) (Int.le_refl 0) (by omega)
  rw [show (0 : Int) * (ns.length : Int) + 0 = 0 by omega] at q0
  rw [show (1 : Int) * (ns.length : Int) + 0 = ns.length by omega] at q1
  omega
/-- needs turned as the plan is -/
theorem lack_turn {ns : List Int} (v : Clk.Valid ns) (f a : Int → Int) (k : Int) (h : lackP ns f a = []) : lackP (Clk.trn ns k) (fun x => f ((x + k) % (ns.length : Int))) (fun x => a ((x + k) % (ns.length : Int))) = [] := by
  have pos := v.pos
  have shf : ∀ (g : Int → Int) (y : Int), per ns.length (fun x => g ((x + k) % (ns.length : Int))) y = per ns.length g (y + k) := fun g y => by
    show g ((y % (ns.length : Int) + k) % (ns.length : Int)) = g ((y + k) % (ns.length : Int))
    rw [Int.emod_add_emod]
  unfold lackP at h ⊢
  rw [Clk.pick_nil] at h ⊢
  have pr : ∀ x : Int, (decide (Clk.th ns (per ns.length f) (x % (ns.length : Int)) < per ns.length a (x % (ns.length : Int))) = false) ↔ (decide (Clk.th ns (per ns.length f) x < per ns.length a x) = false) := fun x => by rw [Clk.th_per (per_per ns.length f), per_per]
  have all := (all_per pos (P := fun x => decide (Clk.th ns (per ns.length f) x < per ns.length a x) = false) pr).mp h
  intro i hi
  have z := all ((i : Int) + k)
  rw [Clk.trn_len, Clk.th_congr (shf f), Clk.th_trn pos, shf a]
  exact z
section
variable {K : PySem.W.Frag} {σ : L2.St} {H : Hp} {ta tb tc te tx : TE} {CC CN CP : Addr} {E : XK} {ns : List Int} {g : Int → Int}
/-- not more than p are needed -/
theorem et_fewest {p : Int} (ha : EvC K CC ta σ H ns) (hb : EvR K CN "_row" ns.length tb σ H g) (hx : Ev tx σ H (.int p)) (hf : Feas ns g p) : EvT (tTest (tOp (rI0 fun i j => V.bl (decide (j < i))) (tCall (spFewest K CC CN) [] E (tCons ta (tCons tb tNil))) tx)) σ H false := fun H1 e Q q =>
  ha H1 e _ fun c H2 e2 hC => hb H2 (e.trans e2) _ fun d H3 e3 hD => ⟨c, d, ns, g, rfl, hC.same e3, hD, fun b H4 s4 mn => hx H4 ((e.trans (e2.trans e3)).trans s4) _ fun H5 e5 => ⟨b, p, rfl, rfl, _, rfl, by
    have z := mn.2 p hf
    rw [decide_eq_false (by omega)]
    exact q H5 (((e2.trans e3).trans s4).trans e5)⟩⟩
theorem ev_enoughP {p : Int} (ha : EvC K CC ta σ H ns) (hb : EvR K CN "_row" ns.length tb σ H g) (hx : Ev tx σ H (.int p)) (hp : 0 ≤ p) (hf : Feas ns g p) : Ev (tCall (spEnoughP K CC CN) [] E (tCons ta (tCons tb (tCons tx tNil)))) σ H (.bl true) := fun H1 e Q q =>
  ha H1 e _ fun c H2 e2 hC => hb H2 (e.trans e2) _ fun d H3 e3 hD => hx H3 ((e.trans e2).trans e3) _ fun H4 e4 => ⟨c, d, p, ns, g, rfl, hC.same (e3.trans e4), hD.same e4, hp, fun H5 s5 _ => q H5 ((e2.trans (e3.trans e4)).trans s5), fun H5 s5 h => absurd hf h⟩
/-- x = plan_for(..) -/
theorem q_planfor {D : Ends} {tz : TS} {i : Nat} {p : Int} (ha : EvC K CC ta σ H ns) (hb : EvR K CN "_row" ns.length tb σ H g) (hx : Ev tx σ H (.int p)) (hp : 0 ≤ p) (hf : Feas ns g p)
    (k : ∀ r H1 (s : Int → Int), Ex H H1 → RowAt K CP "_begins" H1 r (Clk.row ns.length (ds s)) → s 0 = 0 → s ns.length = p → (∀ k : Nat, k < ns.length → s k ≤ s ((k : Int) + 1)) → (∀ x : Int, g (x % (ns.length : Int)) ≤ Clk.th ns (per ns.length (ds s)) x) → tz D (σ.set i (some (.ref r))) H1) :
    tSeq (tAsg (tCall (spPlanFor K CC CN CP) [] E (tCons ta (tCons tb (tCons tx tNil)))) (gName i)) tz D σ H :=
  ha H (Ex.refl H) _ fun c H2 e2 hC => hb H2 e2 _ fun d H3 e3 hD => hx H3 (e2.trans e3) _ fun H4 e4 => ⟨c, d, p, ns, g, rfl, hC.same (e3.trans e4), hD.same e4, hp, hf, fun r H5 s nr s5 hP z0 z1 up en => k r H5 s ((e2.trans (e3.trans e4)).trans s5) hP z0 z1 up en⟩
/-- who serves: enough -/
theorem ev_servesL {l : Addr} {w : Int → Int} (v : Clk.Valid ns) (ha : Ev ta σ H (.ref l)) (hl : SqL K H l (iv ns)) (hb : EvL tb σ H (iv (Clk.row ns.length w))) (hc : EvL tc σ H (iv (Clk.row ns.length g))) (en : ∀ x : Nat, x < ns.length → w x ≤ Clk.th ns (per ns.length g) x) :
    Ev (tCall (spServesL K) [] E (tCons ta (tCons tb (tCons tc tNil)))) σ H (.bl true) := fun H1 e Q q =>
  ha H1 e _ fun H2 e2 => hb H2 (e.trans e2) _ fun p H3 _ e3 hp => hc H3 ((e.trans e2).trans e3) _ fun r H4 _ e4 hr => ⟨l, p, r, ns, w, g, rfl, v, ex_l ((e.trans e2).trans (e3.trans e4)) hl, sq_of (e4 _ _ hp), sq_of hr, en, fun H5 s5 => q H5 ((e2.trans (e3.trans e4)).trans s5)⟩
theorem lack_nil {f a : Int → Int} (h : ∀ x : Int, a (x % (ns.length : Int)) ≤ Clk.th ns (per ns.length f) x) : lackP ns f a = [] := by
  unfold lackP
  rw [Clk.pick_nil]
  intro i hi
  have z := h i
  exact decide_eq_false (by
    show ¬ Clk.th ns (per ns.length f) i < a ((i : Int) % (ns.length : Int))
    omega)
theorem lack_nil_back {f a : Int → Int} (v : Clk.Valid ns) (h : lackP ns f a = []) : ∀ x : Int, a (x % (ns.length : Int)) ≤ Clk.th ns (per ns.length f) x := by
  unfold lackP at h
  rw [Clk.pick_nil] at h
  have pr : ∀ x : Int, (decide (Clk.th ns (per ns.length f) (x % (ns.length : Int)) < per ns.length a (x % (ns.length : Int))) = false) ↔ (decide (Clk.th ns (per ns.length f) x < per ns.length a x) = false) := fun x => by rw [Clk.th_per (per_per ns.length f), per_per]
  have all := (all_per v.pos (P := fun x => decide (Clk.th ns (per ns.length f) x < per ns.length a x) = false) pr).mp h
  intro x
  have z := of_decide_eq_false (all x)
  have e : per ns.length a x = a (x % (ns.length : Int)) := rfl
  omega
end
end Hn

/-! EvM -/
/-! more that is evaluated: pairs of values, comprehensions over a range from .. to, lists of lists of ints -/
namespace Hn
open PySem L2 Evl
section
variable {X : Cx} {K : PySem.W.Frag}
theorem room65 {k : Nat} {A : Around} (r : Room k A) : A.units + 65 < cLine := by have := r.un; omega
theorem K_inD (hu : X.A.units + 65 < cLine) (h : X.K = K) : OpR X (compareOp .In) (rInD K) := by subst h; exact op_inD hu
end
/-- lists at these addresses hold these rows -/
def Lls (H : Hp) : List Addr → List (List Int) → Prop
  | [], [] => True
  | a :: as, r :: rs => H a = some (.lst (iv r)) ∧ Lls H as rs
  | _, _ => False
theorem Lls.len {H : Hp} : ∀ {as : List Addr} {rs : List (List Int)}, Lls H as rs → as.length = rs.length
  | [], [], _ => rfl
  | _ :: _, _ :: _, h => congrArg (· + 1) h.2.len
  | [], _ :: _, h => h.elim
  | _ :: _, [], h => h.elim
theorem Lls.ex {H H' : Hp} (e : Ex H H') : ∀ {as : List Addr} {rs : List (List Int)}, Lls H as rs → Lls H' as rs
  | [], [], _ => trivial
  | _ :: _, _ :: _, h => ⟨e _ _ h.1, h.2.ex e⟩
  | [], _ :: _, h => h.elim
  | _ :: _, [], h => h.elim
theorem Lls.app {H : Hp} : ∀ {as bs : List Addr} {rs ss : List (List Int)}, Lls H as rs → Lls H bs ss → Lls H (as ++ bs) (rs ++ ss)
  | [], _, [], _, _, g => g
  | _ :: _, _, _ :: _, _, h, g => ⟨h.1, h.2.app g⟩
  | [], _, _ :: _, _, h, _ => h.elim
  | _ :: _, _, [], _, h, _ => h.elim
theorem Lls.get {H : Hp} : ∀ {as : List Addr} {rs : List (List Int)} {i : Nat} {v : V}, Lls H as rs → (as.map V.ref)[i]? = some v → ∃ a r, v = .ref a ∧ rs[i]? = some r ∧ H a = some (.lst (iv r))
  | [], [], _, _, _, h => by cases h
  | a :: as, r :: rs, 0, v, h, e => ⟨a, r, (Option.some.inj e).symm, rfl, h.1⟩
  | a :: as, r :: rs, i + 1, v, h, e => h.2.get (i := i) e
  | [], _ :: _, _, _, h, _ => h.elim
  | _ :: _, [], _, _, h, _ => h.elim
theorem Lls.dps {K : PySem.W.Frag} {H : Hp} : ∀ {as : List Addr} {rs : List (List Int)}, Lls H as rs → DpAll K H (as.map V.ref) (rs.map dI)
  | [], [], _ => .nil
  | _ :: _, _ :: _, h => .cons (Dp.ints (SqL.of h.1)) h.2.dps
  | [], _ :: _, h => h.elim
  | _ :: _, [], h => h.elim
theorem shaped_rows (rs : List (List Int)) : SeqAt.shaped (.list (rs.map dI)) = true := shaped_list fun d hd => by
  obtain ⟨r, _, rfl⟩ := List.mem_map.mp hd
  exact ⟨lay_I r, Nat.le_trans (dep_I r) (by decide)⟩
theorem flat_ints (xs : List Int) : (iv xs).all flatV = true := List.all_eq_true.mpr fun v hv => by
  obtain ⟨i, _, rfl⟩ := List.mem_map.mp hv
  rfl
theorem ty_list {K : PySem.W.Frag} {H : Hp} {a : Addr} {xs : List V} (h : SqL K H a xs) : TyX K H (.ref a) (.type "list") := by
  rcases h with (h | ⟨o, h⟩) | ⟨o, its, n, h1, h2, _⟩
  · exact .base (.lst h)
  · exact .base (.frz h)
  · exact .kList h1 h2
/-- a new list of lists comes out, each at its own place -/
def EvLs (te : TE) (σ : L2.St) (H : Hp) (rows : List (List Int)) : Prop :=
  ∀ H1, Ex H H1 → ∀ Q : VK, (∀ p as H2, H1 p = none → Ex H1 H2 → H2 p = some (.lst (as.map V.ref)) → Lls H2 as rows → (∀ a ∈ as, H1 a = none) → Q (.ref p) H2) → te σ H1 Q
/-- so many rows so far -/
def Cwl (H : Hp) (f : Nat → Bool) (r : Nat → List Int) (Dl : Addr) (i : Nat) (H' : Hp) : Prop := H Dl = none ∧ Ex H H' ∧ ∃ as, H' Dl = some (.lst (as.map V.ref)) ∧ Lls H' as (((List.range i).filter f).map r) ∧ ∀ a ∈ as, H a = none ∧ a ≠ Dl
section
variable {K : PySem.W.Frag} {σ : L2.St} {H : Hp} {te ta tb : TE} {t : TT} {D : Ends} {tz : TS}
/-- those that are picked of a list -/
theorem given_choose {α : Type} (p : α → Bool) (g : α → V) (d : α) : ∀ L : List α, given L.length (fun i => p (L.getD i d)) (fun i => g (L.getD i d)) = (L.filter p).map g
  | [] => rfl
  | x :: L => by
    have ih := given_choose p g d L
    unfold given at ih ⊢
    rw [List.length_cons, List.range_succ_eq_map, List.filter_cons, List.filter_map]
    have e : (List.range L.length).filter ((fun i => p ((x :: L).getD i d)) ∘ Nat.succ) = (List.range L.length).filter fun i => p (L.getD i d) := rfl
    rw [e]
    have m : ((List.range L.length).filter fun i => p (L.getD i d)).map ((fun i => g ((x :: L).getD i d)) ∘ Nat.succ) = (L.filter p).map g := ih
    cases h : p x with
    | true =>
      rw [if_pos (by exact h), List.filter_cons_of_pos h, List.map_cons, List.map_cons, List.map_map, m]
      rfl
    | false =>
      rw [if_neg (by show ¬ p x = true; rw [h]; decide), List.filter_cons_of_neg (by rw [h]; decide), List.map_map, m]
theorem Lls.picked {H : Hp} (p : List Int → Bool) : ∀ {as : List Addr} {rs : List (List Int)}, Lls H as rs → Lls H (((as.zip rs).filter fun x => p x.2).map (·.1)) (rs.filter p)
  | [], [], _ => trivial
  | a :: as, r :: rs, h => by
    have ih := h.2.picked p
    rw [List.zip_cons_cons]
    cases e : p r with
    | true =>
      rw [List.filter_cons_of_pos (by exact e), List.filter_cons_of_pos e]
      exact ⟨h.1, ih⟩
    | false =>
      rw [List.filter_cons_of_neg (by show ¬ p r = true; rw [e]; decide), List.filter_cons_of_neg (by rw [e]; decide)]
      exact ih
  | [], _ :: _, h => h.elim
  | _ :: _, [], h => h.elim
/-- x in rows -/
theorem any_rows (r : List Int) : ∀ rs : List (List Int), ((rs.map dI).any fun z => PyData.eqv z (dI r)) = decide (r ∈ rs)
  | [] => rfl
  | q :: rs => by
    rw [List.map_cons, List.any_cons, any_rows r rs, eqv_I]
    by_cases e : q = r
    · subst e
      simp
    · simp [e, Ne.symm e]
theorem ev_inRows {K : PySem.W.Frag} {σ : L2.St} {H : Hp} {ta tb : TE} {a p : Addr} {r : List Int} {as : List Addr} {rows : List (List Int)} (ha : Ev ta σ H (.ref a)) (hr : SqL K H a (iv r)) (hb : Ev tb σ H (.ref p)) (hp : H p = some (.lst (as.map V.ref))) (hl : Lls H as rows) : Ev (tOp (rInD K) ta tb) σ H (.bl (decide (r ∈ rows))) :=
  ev_op ha hb fun H1 e Q k => ⟨dI r, rows.map dI, Dp.ints (ex_l e hr), .lst (SqL.of (e _ _ hp)) (hl.ex e).dps, shaped_I r, shaped_rows rows, by
    rw [any_rows]
    exact k H1 (Ex.refl H1)⟩
theorem ev_niRows {K : PySem.W.Frag} {σ : L2.St} {H : Hp} {ta tb : TE} {p : Addr} {r : List Int} {as : List Addr} {rows : List (List Int)} (ha : EvL ta σ H (iv r)) (hb : Ev tb σ H (.ref p)) (hp : H p = some (.lst (as.map V.ref))) (hl : Lls H as rows) : Ev (tOp (rNotInD K) ta tb) σ H (.bl (!decide (r ∈ rows))) :=
  ev_opL1 ha (fun H1 e => hb.mono e) fun q H1 hq e H2 e2 Q k => ⟨dI r, rows.map dI, Dp.ints (SqL.of (e2 _ _ hq)), .lst (SqL.of ((e.trans e2) _ _ hp)) (hl.ex (e.trans e2)).dps, shaped_I r, shaped_rows rows, by
    rw [any_rows]
    exact k H2 (Ex.refl H2)⟩
theorem ev_lenNK {xs : List V} (ha : EvL ta σ H xs) : Ev (tCB (rLenK K) (tCons ta tNil)) σ H (.int (xs.length : Int)) := fun H1 e Q q =>
  ha H1 e _ fun p H2 _ e2 hp => ⟨p, xs, rfl, .inl (SqL.of hp), q H2 e2⟩
theorem q_par2V {i j : Nat} {x y : V} (ha : Ev ta σ H x) (hb : Ev tb σ H y) (k : ∀ H1, Ex H H1 → tz D ((σ.set i (some x)).set j (some y)) H1) :
    tSeq (tAsg (tTup (tCons ta (tCons tb tNil))) (gTup K 2 (gCons (gName i) (gCons (gName j) gNil)))) tz D σ H :=
  ha H (Ex.refl H) _ fun H1 e1 => hb H1 e1 _ fun H2 e2 => ⟨by show 2 ≤ sizeLine; decide, fun t nt => ⟨t, _, rfl, .inl (.inl upd_same), rfl, _, _, rfl, _, _, rfl, rfl, k _ ((e1.trans e2).trans (Ex.new nt))⟩⟩
theorem ev_ixN {xs : List V} {i : Int} {v : V} (ha : EvL ta σ H xs) (hb : ∀ H1, Ex H H1 → Ev tb σ H1 (.int i)) (hv : atI xs i = some v) : Ev (tOp (rIxL K) ta tb) σ H v :=
  ev_opL1 ha hb fun p H1 hp _ => rv_ixL (SqL.of hp) hv
theorem ev_ix {p : Addr} {xs : List V} {i : Int} {v : V} (ha : Ev ta σ H (.ref p)) (hb : Ev tb σ H (.int i)) (hp : SqL K H p xs) (hv : atI xs i = some v) : Ev (tOp (rIxL K) ta tb) σ H v :=
  ev_op ha hb (rv_ixL hp hv)
theorem el_is {xs ys : List V} (h : EvL te σ H xs) (e : xs = ys) : EvL te σ H ys := by
  rw [← e]
  exact h
/-- int(i) -/
theorem ev_int1 {i : Int} (h : Ev ta σ H (.int i)) : Ev (tCB (fun xs H Q => (∃ i, xs = [V.int i] ∧ Q (V.int i) H) ∨ ∃ k, xs = [V.bl k] ∧ Q (V.int (if k = true then 1 else 0)) H) (tCons ta tNil)) σ H (.int i) :=
  ev_cb (ea_cons h ea_nil) fun H1 _ Q q => .inl ⟨i, rfl, q H1 (Ex.refl H1)⟩
/-- int(i) % n -/
theorem ev_mod {i n : Int} (h : Ev ta σ H (.int i)) (hb : Ev tb σ H (.int n)) (n0 : 0 < n) : Ev (tOp (rI (fun _ j => 0 < j) fun i j => V.int (i % j)) (tCB (fun xs H Q => (∃ i, xs = [V.int i] ∧ Q (V.int i) H) ∨ ∃ k, xs = [V.bl k] ∧ Q (V.int (if k = true then 1 else 0)) H) (tCons ta tNil)) tb) σ H (.int (i % n)) :=
  ev_op (ev_int1 h) hb (rv_I n0)
/-- i == j -/
theorem et_eqI {i j : Int} (h : Ev ta σ H (.int i)) (hb : Ev tb σ H (.int j)) : EvT (tTest (tOp rEq ta tb)) σ H (decide (i = j)) :=
  et_is (et_test (ev_op h hb (rv_eq rfl))) (by
    by_cases e : i = j
    · rw [e, decide_eq_true rfl, decide_eq_true rfl]
    · rw [decide_eq_false e, decide_eq_false fun z => e (V.int.inj z)])
theorem et_neI {i j : Int} (h : Ev ta σ H (.int i)) (hb : Ev tb σ H (.int j)) : EvT (tTest (tOp rNe ta tb)) σ H (!decide (i = j)) :=
  et_is (et_test (ev_op h hb (rv_ne rfl))) (by
    by_cases e : i = j
    · rw [e, decide_eq_true rfl, decide_eq_true rfl]
    · rw [decide_eq_false e, decide_eq_false fun z => e (V.int.inj z)])
/-- isinstance(l, list) -/
theorem ev_isList {p : Addr} {xs : List V} (h : Ev ta σ H (.ref p)) (hp : SqL K H p xs) : Ev (tCB (rIsi K) (tCons ta (tCons (tC (.ty "list")) tNil))) σ H (.bl true) :=
  ev_cb (ea_cons h (ea_cons ev_c ea_nil)) fun H1 e Q q => ⟨.ref p, .ty "list", .type "list", .type "list", true, rfl, .ty _, ty_list (ex_l e hp), kit_ty (by decide +kernel), q H1 (Ex.refl H1)⟩
theorem all_given (n : Nat) : given n (fun _ => true) (fun _ => V.bl true) = (List.replicate n true).map V.bl := by
  unfold given
  rw [List.filter_eq_self.mpr fun _ _ => rfl]
  induction n with
  | zero => rfl
  | succ n ih => rw [List.range_succ, List.map_append, ih, List.replicate_succ', List.map_append]; rfl
theorem ev_allYes {n : Nat} (h : EvL te σ H (given n (fun _ => true) (fun _ => V.bl true))) : Ev (tCB (rAll K) (tCons te tNil)) σ H (.bl true) := fun H1 e Q q =>
  h H1 e _ fun p H2 _ e2 hp => ⟨p, List.replicate n true, rfl, SqL.of (by rw [← all_given]; exact hp), by
    rw [show (List.replicate n true).all id = true by simp]
    exact q H2 e2⟩
theorem el_lcR2 {ta : TA} {j : Nat} {vs : List Nat} {lo n : Int} (f : Nat → Bool) (v : Nat → V) (h : EvA ta σ H [.int lo, .int n]) (h0 : 0 ≤ lo ∧ lo ≤ 40000 ∧ -40000 ≤ n ∧ n ≤ 40000) (hw : ∀ x, wipe ((wipe σ vs).set j (some x)) vs = wipe σ vs)
    (ht : ∀ (i : Nat) H1, Ex H H1 → lo + (i : Int) < n → EvT t ((wipe σ vs).set j (some (.int (lo + (i : Int))))) H1 (f i)) (he : ∀ (i : Nat) H1, Ex H H1 → lo + (i : Int) < n → f i = true → Ev te ((wipe σ vs).set j (some (.int (lo + (i : Int))))) H1 (v i)) :
    EvL (tLc (iRng2 ta) (gName j) t te vs) σ H (given (n - lo).toNat f v) := fun H0 e Q q => h H0 e _ fun H1 e1 => ⟨lo, n, rfl, by omega, fun Dl hD =>
  lc_range (lo := lo) (n := (n - lo).toNat) (Cw H1 f v Dl) ⟨hD, Ex.new hD, upd_same⟩ (fun i H' hi p =>
    ⟨hw _, cw_turn p (by omega) (ht i H1 (e.trans e1) (by omega)) (fun hf => he i H1 (e.trans e1) (by omega) hf)⟩) (fun H' p => q Dl H' (fresh_back e1 p.1) (e1.trans p.2.1) p.2.2)⟩
theorem cwl_turn {H H' : Hp} {f : Nat → Bool} {r : Nat → List Int} {Dl : Addr} {i : Nat} {σ2 : L2.St} (p : Cwl H f r Dl i H') (hi : i < 50000) (ht : EvT t σ2 H (f i)) (he : f i = true → EvL te σ2 H (iv (r i))) :
    t σ2 H' fun b H3 => if b = true then te σ2 H3 fun y H4 => ∃ acc, H4 Dl = some (.lst acc) ∧ acc.length < sizeLine ∧ Cwl H f r Dl (i + 1) (upd H4 Dl (.lst (acc ++ [y]))) else Cwl H f r Dl (i + 1) H3 := by
  obtain ⟨p1, p2, as, p3, p4, p5⟩ := p
  refine ht H' p2 _ fun H3 e3 => ?_
  have hl : as.length ≤ i := by
    rw [p4.len, List.length_map]
    exact Nat.le_trans (List.length_filter_le _ _) (by rw [List.length_range]; exact Nat.le_refl _)
  cases hf : f i with
  | true =>
    show te σ2 H3 fun y H4 => ∃ acc, H4 Dl = some (.lst acc) ∧ acc.length < sizeLine ∧ Cwl H f r Dl (i + 1) (upd H4 Dl (.lst (acc ++ [y])))
    refine he hf H3 (p2.trans e3) _ fun a H4 na e4 ha => ⟨as.map V.ref, e4 Dl _ (e3 Dl _ p3), sz_lt (by rw [List.length_map]; omega), p1, Ex.mut ((p2.trans e3).trans e4) p1, as ++ [a], ?_, ?_, ?_⟩
    · rw [upd_same, List.map_append]
      rfl
    · have ne : ∀ x ∈ as ++ [a], x ≠ Dl := fun x hx => by
        rcases List.mem_append.mp hx with h | h
        · exact (p5 x h).2
        · rw [List.mem_singleton.mp h]
          intro z
          rw [z, e3 Dl _ p3] at na
          cases na
      have z : Lls H4 (as ++ [a]) ((((List.range i).filter f).map r) ++ [r i]) := ((p4.ex e3).ex e4).app ⟨ha, trivial⟩
      rw [List.range_succ, List.filter_append, List.filter_cons_of_pos (by rw [hf]), List.map_append]
      show Lls _ _ ((((List.range i).filter f).map r) ++ [r i])
      clear p4 p5 hl p3
      revert z ne
      generalize as ++ [a] = bs
      generalize (((List.range i).filter f).map r) ++ [r i] = ss
      intro ne z
      induction bs generalizing ss with
      | nil => cases ss with
        | nil => trivial
        | cons _ _ => exact z.elim
      | cons b bs ih => cases ss with
        | nil => exact z.elim
        | cons s ss => exact ⟨by rw [upd_ne (ne b (List.mem_cons_self ..))]; exact z.1, ih ss (fun x hx => ne x (List.mem_cons_of_mem _ hx)) z.2⟩
    · intro x hx
      rcases List.mem_append.mp hx with h | h
      · exact p5 x h
      · rw [List.mem_singleton.mp h]
        refine ⟨fresh_back (p2.trans e3) na, fun z => ?_⟩
        rw [z, e3 Dl _ p3] at na
        cases na
  | false =>
    show Cwl H f r Dl (i + 1) H3
    refine ⟨p1, p2.trans e3, as, e3 Dl _ p3, ?_, p5⟩
    rw [List.range_succ, List.filter_append, List.filter_cons_of_neg (by rw [hf]; decide)]
    simpa using p4.ex e3
theorem els_lcR2 {ta : TA} {j : Nat} {vs : List Nat} {lo n : Int} (f : Nat → Bool) (r : Nat → List Int) (h : EvA ta σ H [.int lo, .int n]) (h0 : 0 ≤ lo ∧ lo ≤ 40000 ∧ -40000 ≤ n ∧ n ≤ 40000) (hw : ∀ x, wipe ((wipe σ vs).set j (some x)) vs = wipe σ vs)
    (ht : ∀ (i : Nat) H1, Ex H H1 → lo + (i : Int) < n → EvT t ((wipe σ vs).set j (some (.int (lo + (i : Int))))) H1 (f i)) (he : ∀ (i : Nat) H1, Ex H H1 → lo + (i : Int) < n → f i = true → EvL te ((wipe σ vs).set j (some (.int (lo + (i : Int))))) H1 (iv (r i))) :
    EvLs (tLc (iRng2 ta) (gName j) t te vs) σ H (((List.range (n - lo).toNat).filter f).map r) := fun H0 e Q q => h H0 e _ fun H1 e1 => ⟨lo, n, rfl, by omega, fun Dl hD =>
  lc_range (lo := lo) (n := (n - lo).toNat) (Cwl H1 f r Dl) ⟨hD, Ex.new hD, [], upd_same, trivial, fun _ h => nomatch h⟩ (fun i H' hi p =>
    ⟨hw _, cwl_turn p (by omega) (ht i H1 (e.trans e1) (by omega)) (fun hf => he i H1 (e.trans e1) (by omega) hf)⟩) (fun H' p => q Dl p.2.2.choose H' (fresh_back e1 p.1) (e1.trans p.2.1) p.2.2.choose_spec.1 p.2.2.choose_spec.2.1 fun a ha => fresh_back e1 (p.2.2.choose_spec.2.2 a ha).1)⟩
theorem els_lcR1 {ta : TA} {j : Nat} {vs : List Nat} {n : Int} (f : Nat → Bool) (r : Nat → List Int) (h : EvA ta σ H [.int n]) (h0 : 0 ≤ n ∧ n ≤ 40000) (hw : ∀ x, wipe ((wipe σ vs).set j (some x)) vs = wipe σ vs)
    (ht : ∀ (i : Nat) H1, Ex H H1 → (i : Int) < n → EvT t ((wipe σ vs).set j (some (.int (i : Int)))) H1 (f i)) (he : ∀ (i : Nat) H1, Ex H H1 → (i : Int) < n → f i = true → EvL te ((wipe σ vs).set j (some (.int (i : Int)))) H1 (iv (r i))) :
    EvLs (tLc (iRng1 ta) (gName j) t te vs) σ H (((List.range n.toNat).filter f).map r) := fun H0 e Q q => h H0 e _ fun H1 e1 => ⟨n, rfl, by omega, by omega, fun Dl hD =>
  lc_range (lo := 0) (n := n.toNat) (Cwl H1 f r Dl) ⟨hD, Ex.new hD, [], upd_same, trivial, fun _ h => nomatch h⟩ (fun i H' hi p => by
    have e0 : (0 : Int) + (i : Int) = (i : Int) := Int.zero_add _
    rw [e0]
    exact ⟨hw _, cwl_turn p (by omega) (ht i H1 (e.trans e1) (by omega)) (fun hf => he i H1 (e.trans e1) (by omega) hf)⟩) (fun H' p => q Dl p.2.2.choose H' (fresh_back e1 p.1) (e1.trans p.2.1) p.2.2.choose_spec.1 p.2.2.choose_spec.2.1 fun a ha => fresh_back e1 (p.2.2.choose_spec.2.2 a ha).1)⟩
/-- rows made of rows -/
theorem els_lcLs {l : Addr} {as : List Addr} {rows : List (List Int)} {tl : TE} {j : Nat} {vs : List Nat} (f : Nat → Bool) (r : Nat → List Int) (h : Ev tl σ H (.ref l)) (hl : H l = some (.lst (as.map V.ref))) (hr : Lls H as rows) (hz : rows.length ≤ 40000) (hw : ∀ x, wipe ((wipe σ vs).set j (some x)) vs = wipe σ vs)
    (ht : ∀ (i : Nat) (a : Addr) (row : List Int) H1, Ex H H1 → rows[i]? = some row → H1 a = some (.lst (iv row)) → EvT t ((wipe σ vs).set j (some (.ref a))) H1 (f i)) (he : ∀ (i : Nat) (a : Addr) (row : List Int) H1, Ex H H1 → rows[i]? = some row → H1 a = some (.lst (iv row)) → f i = true → EvL te ((wipe σ vs).set j (some (.ref a))) H1 (iv (r i))) :
    EvLs (tLc (iList K tl) (gName j) t te vs) σ H (((List.range rows.length).filter f).map r) := fun H0 e Q q => h H0 e _ fun H1 e1 => ⟨l, rfl, ⟨_, SqL.of ((e.trans e1) _ _ hl)⟩, fun Dl hD =>
  lc_list (xs := as.map V.ref) (Cwl H1 f r Dl) ⟨hD, Ex.new hD, [], upd_same, trivial, fun _ h => nomatch h⟩ (fun i H' _ p => SqL.of (p.2.1 _ _ ((e.trans e1) _ _ hl))) (fun i x H' hi p => by
    obtain ⟨a, row, rfl, hri, ha⟩ := (hr.ex (e.trans e1)).get hi
    have il := (List.getElem?_eq_some_iff.mp hri).1
    exact ⟨hw _, cwl_turn p (by omega) (ht i a row H1 (e.trans e1) hri ha) (fun hf => he i a row H1 (e.trans e1) hri ha hf)⟩) (fun H' p => by
    have z : (as.map V.ref).length = rows.length := by rw [List.length_map, hr.len]
    rw [z] at p
    exact q Dl p.2.2.choose H' (fresh_back e1 p.1) (e1.trans p.2.1) p.2.2.choose_spec.1 p.2.2.choose_spec.2.1 fun a ha => fresh_back e1 (p.2.2.choose_spec.2.2 a ha).1)⟩
theorem s_retLs {rows : List (List Int)} (h : EvLs te σ H rows) (k : ∀ p as H1, H p = none → Ex H H1 → H1 p = some (.lst (as.map V.ref)) → Lls H1 as rows → (∀ a ∈ as, H a = none) → D.rt (.ref p) H1) : tRet te D σ H := h H (Ex.refl H) _ fun p as H1 np e hp hl fr => k p as H1 np e hp hl fr
theorem q_asgLs {i : Nat} {rows : List (List Int)} (h : EvLs te σ H rows) (k : ∀ p as H1, H p = none → Ex H H1 → H1 p = some (.lst (as.map V.ref)) → Lls H1 as rows → tz D (σ.set i (some (.ref p))) H1) : tSeq (tAsg te (gName i)) tz D σ H := h H (Ex.refl H) _ fun p as H1 np e hp hl _ => k p as H1 np e hp hl
/-- [l] of a new list -/
theorem els_one {xs : List Int} (h : EvL te σ H (iv xs)) : EvLs (tLst (tCons te tNil)) σ H [xs] := fun H1 e Q q =>
  h H1 e _ fun a H2 na e2 ha => ⟨by show 1 ≤ sizeLine; decide, fun p np => q p [a] _ (fresh_back e2 np) (e2.trans (Ex.new np)) upd_same ⟨(Ex.new np) _ _ ha, trivial⟩ fun x hx => by rw [List.mem_singleton.mp hx]; exact na⟩
theorem Lls.upd {H : Hp} {l : Addr} {o : HO} : ∀ {as : List Addr} {rs : List (List Int)}, Lls H as rs → (∀ a ∈ as, a ≠ l) → Lls (upd H l o) as rs
  | [], [], _, _ => trivial
  | a :: as, _ :: _, h, n => ⟨by rw [upd_ne (n a (List.mem_cons_self ..))]; exact h.1, h.2.upd fun x hx => n x (List.mem_cons_of_mem _ hx)⟩
  | [], _ :: _, h, _ => h.elim
  | _ :: _, [], h, _ => h.elim
theorem el_catVL {p : Addr} {xs ys : List V} (ha : Ev ta σ H (.ref p)) (hp : H p = some (.lst xs)) (hb : EvL tb σ H ys) (hz : xs.length + ys.length ≤ 10000) : EvL (tOp rCat ta tb) σ H (xs ++ ys) := fun H1 e Q k =>
  ha H1 e _ fun H2 e2 => hb H2 (e.trans e2) _ fun q H3 nq e3 hq => ⟨p, q, xs, ys, rfl, rfl, ((e.trans e2).trans e3) _ _ hp, hq, small_line' hz, fun r nr => k r _ (fresh_back (e2.trans e3) nr) ((e2.trans e3).trans (Ex.new nr)) upd_same⟩
/-- a, b = l, rows -/
theorem q_parLLs {i j : Nat} {xs : List V} {rows : List (List Int)} (ha : EvL ta σ H xs) (hb : EvLs tb σ H rows)
    (k : ∀ p q as H1, H p = none → H q = none → Ex H H1 → H1 p = some (.lst xs) → H1 q = some (.lst (as.map V.ref)) → Lls H1 as rows → tz D ((σ.set i (some (.ref p))).set j (some (.ref q))) H1) : tSeq (tPar i j (tCons ta (tCons tb tNil))) tz D σ H :=
  ha H (Ex.refl H) _ fun p H1 np e1 hp => hb H1 e1 _ fun q as H2 nq e2 hq hl _ => ⟨_, _, rfl, k p q as H2 np (fresh_back e1 nq) (e1.trans e2) (e2 _ _ hp) hq hl⟩
/-- l.extend(rows) -/
theorem s_extLs {l : Addr} {xs : List V} {rows : List (List Int)} (hl : H l = some (.lst xs)) (ha : Ev ta σ H (.ref l)) (h : EvLs te σ H rows) (hz : xs.length + rows.length ≤ 10000) (k : ∀ as H1, Ex H H1 → Lls H1 as rows → (∀ a ∈ as, H a = none) → D.nx σ (upd H1 l (.lst (xs ++ as.map V.ref)))) :
    tDrop (tBM K "list" rExtend ta (tCons te tNil)) D σ H :=
  ha H (Ex.refl H) _ fun H1 e1 => ⟨.inl ⟨rfl, xs, SqL.of (e1 _ _ hl)⟩, h H1 e1 _ fun p as H2 np e2 hp hr fr => ⟨l, p, xs, as.map V.ref, rfl, rfl, (e1.trans e2) _ _ hl, hp, by
    rw [List.length_map, hr.len]
    exact sz_of (by omega), k as H2 (e1.trans e2) hr fun a ha => fresh_back e1 (fr a ha)⟩⟩
/-- rows != [] -/
theorem ev_neRows {p : Addr} {as : List Addr} {rows : List (List Int)} (ha : Ev ta σ H (.ref p)) (hp : H p = some (.lst (as.map V.ref))) (hr : Lls H as rows) : Ev (tOp (rNeD K) ta (tLst tNil)) σ H (.bl (!decide (rows = []))) :=
  ev_opL (xs := []) ha (el_lst ea_nil (by decide)) fun q H1 hq e H2 e2 Q k => ⟨.list (rows.map dI), .list [], .lst (SqL.of ((e.trans e2) _ _ hp)) ((hr.ex (e.trans e2)).dps), .lst (SqL.of (e2 _ _ hq)) .nil, shaped_rows rows, shaped_rows [], by
    have z : PyData.eqv (.list (rows.map dI)) (.list []) = decide (rows = []) := by
      cases rows with
      | nil => rfl
      | cons a b => rfl
    rw [z]
    exact k H2 (Ex.refl H2)⟩
end
end Hn

/-! EvenM -/
/-! even clocks: how few people are enough -/
namespace Hn
open PySem L2
section
variable {n : Nat} {s w p : Int}
abbrev evn (n : Nat) (s : Int) : List Int := List.replicate n s
theorem evn_len : (evn n s).length = n := List.length_replicate
theorem even_up (n0 : 0 < n) (top : n ≤ 48) (s1 : 1 ≤ s) (sn : s ≤ n) (h : Feas (evn n s) (fun _ => w) p) : (n : Int) * w ≤ s * p := by
  obtain ⟨R, hR⟩ := h
  have l0 : 0 < (evn n s).length := by rw [evn_len]; exact n0
  have step : ∀ k : Nat, ext R p (evn n s).length 0 + k * w ≤ ext R p (evn n s).length (k * s) := by
    intro k
    induction k with
    | zero =>
      rw [show ((0 : Nat) : Int) * w = 0 by rw [Int.natCast_zero, Int.zero_mul], show ((0 : Nat) : Int) * s = 0 by rw [Int.natCast_zero, Int.zero_mul], Int.add_zero]
      exact Int.le_refl _
    | succ k ih =>
      have z := feas_need l0 hR ((k : Int) * s + s - 1)
      rw [Clk.wd_even n0 top s1 sn, show (k : Int) * s + s - 1 + 1 - s = k * s by omega, show (k : Int) * s + s - 1 + 1 = k * s + s by omega] at z
      rw [show ((k + 1 : Nat) : Int) * w = k * w + w by rw [Int.natCast_add, Int.add_mul]; simp, show ((k + 1 : Nat) : Int) * s = k * s + s by rw [Int.natCast_add, Int.add_mul]; simp]
      omega
  have z := step n
  have e := ext_round (R := R) (p := p) (n := ((evn n s).length : Int)) (by omega) 0 s
  rw [evn_len] at e z
  rw [show (0 : Int) + s * (n : Int) = n * s by rw [Int.zero_add, Int.mul_comm]] at e
  omega
theorem even_down (n0 : 0 < n) (top : n ≤ 48) (s1 : 1 ≤ s) (sn : s ≤ n) (w0 : 0 ≤ w) (h : (n : Int) * w ≤ s * p) : Feas (evn n s) (fun _ => w) p := by
  have l0 : 0 < (evn n s).length := by rw [evn_len]; exact n0
  have p0 : 0 ≤ p := by
    rcases Int.lt_or_le p 0 with q | q
    · have a := Int.mul_nonneg (show (0 : Int) ≤ (n : Int) by omega) w0
      have b := Int.mul_pos (show 0 < s by omega) (show 0 < -p by omega)
      rw [Int.mul_neg] at b
      omega
    · exact q
  have grow : ∀ f len c : Int, 0 ≤ len → (n : Int) * c ≤ len * p → (f * p) / (n : Int) + c ≤ ((f + len) * p) / (n : Int) := fun f len c h0 hc => by
    rw [Int.add_mul, ← Int.add_mul_ediv_left (f * p) c (show (n : Int) ≠ 0 by omega)]
    exact Int.ediv_le_ediv (by omega) (by omega)
  have turn : ∀ l d : Int, ((l + d * n) * p) / (n : Int) = (l * p) / (n : Int) + d * p := fun l d => by
    rw [Int.add_mul, show d * (n : Int) * p = (d * p) * n by rw [Int.mul_assoc, Int.mul_comm (n : Int) p, ← Int.mul_assoc], Int.add_mul_ediv_right _ _ (show (n : Int) ≠ 0 by omega)]
  refine ⟨fun f => (f * p) / (n : Int), fun k hk => ?_⟩
  obtain ⟨x, hx, e⟩ := mem_ask hk
  rcases e with rfl | rfl
  · have z := grow x 1 0 (by omega) (by rw [Int.mul_zero]; omega)
    have l := len_at l0 (f := (x : Int)) (len := 1)
    rw [l, evn_len, turn] at z
    show ((x : Int) * p) / (n : Int) + (0 - ((x : Int) + 1) / ((evn n s).length : Int) * p) ≤ ((((x : Int) + 1) % ((evn n s).length : Int)) * p) / (n : Int)
    rw [evn_len]
    omega
  · have z := grow (((x : Int) + 1 - Clk.wd (evn n s) x) % ((evn n s).length : Int)) (Clk.wd (evn n s) x) w (by omega) (by rw [Clk.wd_even n0 top s1 sn]; exact h)
    have l := len_at l0 (f := ((x : Int) + 1 - Clk.wd (evn n s) x) % ((evn n s).length : Int)) (len := Clk.wd (evn n s) x)
    rw [need_last (by omega) (by omega)] at l
    rw [l, show (((evn n s).length : Nat) : Int) = n by rw [evn_len], turn] at z
    show ((((x : Int) + 1 - Clk.wd (evn n s) x) % ((evn n s).length : Int)) * p) / (n : Int) + (w - (((x : Int) + 1 - Clk.wd (evn n s) x) % ((evn n s).length : Int) + Clk.wd (evn n s) x) / ((evn n s).length : Int) * p) ≤ ((((x : Int) + 1) % ((evn n s).length : Int)) * p) / (n : Int)
    rw [show (((evn n s).length : Nat) : Int) = n by rw [evn_len]]
    omega
theorem even_min (n0 : 0 < n) (top : n ≤ 48) (s1 : 1 ≤ s) (sn : s ≤ n) (w0 : 0 ≤ w) : Min (evn n s) (fun _ => w) (-(-((n : Int) * w) / s)) := by
  have b : ∀ p : Int, -(-((n : Int) * w) / s) ≤ p ↔ (n : Int) * w ≤ s * p := fun p => by
    have z := bound_lt (a := (n : Int) * w) (p := p) s1
    rw [Int.mul_comm p s] at z
    constructor
    · intro h
      rcases Int.lt_or_le (s * p) ((n : Int) * w) with q | q
      · have := z.mpr q
        omega
      · exact q
    · intro h
      rcases Int.lt_or_le p (-(-((n : Int) * w) / s)) with q | q
      · have := z.mp q
        omega
      · exact q
  exact ⟨even_down n0 top s1 sn w0 ((b _).mp (Int.le_refl _)), fun p hp => (b p).mpr (even_up n0 top s1 sn hp)⟩
/-- hours a stay apart, from hour h on -/
def aparts (n : Nat) (s h : Int) : Nat → List Int
  | 0 => []
  | k + 1 => aparts n s h k ++ [(h + (k : Int) * s) % (n : Int)]
theorem aparts_len (h : Int) : ∀ k, (aparts n s h k).length = k
  | 0 => rfl
  | k + 1 => by
    show (aparts n s h k ++ [_]).length = k + 1
    rw [List.length_append, aparts_len h k]
    rfl
theorem mem_aparts {h x : Int} : ∀ {k : Nat}, x ∈ aparts n s h k ↔ ∃ j : Nat, j < k ∧ x = (h + (j : Int) * s) % (n : Int)
  | 0 => ⟨fun z => (nomatch z), fun ⟨_, z, _⟩ => absurd z (Nat.not_lt_zero _)⟩
  | k + 1 => by
    show x ∈ aparts n s h k ++ [_] ↔ _
    rw [List.mem_append, mem_aparts, List.mem_singleton]
    constructor
    · rintro (⟨j, a, b⟩ | b)
      · exact ⟨j, by omega, b⟩
      · exact ⟨k, by omega, b⟩
    · rintro ⟨j, a, b⟩
      by_cases e : j = k
      · subst e
        exact .inr b
      · exact .inl ⟨j, by omega, b⟩
theorem aparts_new {h : Int} {k : Nat} (n0 : 0 < n) (s1 : 1 ≤ s) (hk : ((k : Int) + 1) * s ≤ n) : (h + (k : Int) * s) % (n : Int) ∉ aparts n s h k := fun z => by
  obtain ⟨j, hj, e⟩ := mem_aparts.mp z
  have m : ((h + (k : Int) * s) - (h + (j : Int) * s)) % (n : Int) = 0 := Int.emod_eq_emod_iff_emod_sub_eq_zero.mp e
  obtain ⟨d, hd⟩ : ∃ d : Nat, (k : Int) = j + d ∧ 0 < d := ⟨k - j, by omega, by omega⟩
  rw [show (h + (k : Int) * s) - (h + (j : Int) * s) = d * s by rw [hd.1, Int.add_mul]; omega] at m
  have d1 : (d : Int) * s ≤ k * s := Int.mul_le_mul_of_nonneg_right (by omega) (by omega)
  have d0 : 0 < (d : Int) * s := Int.mul_pos (by omega) (by omega)
  rw [Int.add_mul] at hk
  rw [Int.emod_eq_of_lt (by omega) (by omega)] at m
  omega
theorem hop_even (n0 : 0 < n) (top : n ≤ 48) (s1 : 1 ≤ s) (sn : s ≤ n) (h k : Int) : hop (evn n s) h k = s + (k - s - h) % (n : Int) := by
  unfold hop
  rw [Clk.wd_even n0 top s1 sn, evn_len]
theorem aparts_cons (h : Int) : ∀ k, aparts n s h (k + 1) = h % (n : Int) :: aparts n s (h + s) k
  | 0 => by
    show [(h + ((0 : Nat) : Int) * s) % (n : Int)] = [h % (n : Int)]
    rw [show h + ((0 : Nat) : Int) * s = h by rw [Int.natCast_zero, Int.zero_mul]; omega]
  | k + 1 => by
    show aparts n s h (k + 1) ++ [(h + ((k + 1 : Nat) : Int) * s) % (n : Int)] = h % (n : Int) :: (aparts n s (h + s) k ++ [(h + s + (k : Int) * s) % (n : Int)])
    rw [aparts_cons h k, List.cons_append, show h + ((k + 1 : Nat) : Int) * s = h + s + (k : Int) * s by rw [Int.natCast_add, Int.add_mul]; simp; omega]
theorem aparts_hops (n0 : 0 < n) (top : n ≤ 48) (s1 : 1 ≤ s) (sn : s ≤ n) : ∀ (k : Nat) (h : Int), hops (evn n s) (h % (n : Int)) (aparts n s (h + s) k) = k * s
  | 0, h => by
    show (0 : Int) = ((0 : Nat) : Int) * s
    rw [Int.natCast_zero, Int.zero_mul]
  | k + 1, h => by
    rw [aparts_cons]
    show hop (evn n s) (h % (n : Int)) ((h + s) % (n : Int)) + hops (evn n s) ((h + s) % (n : Int)) (aparts n s (h + s + s) k) = _
    rw [aparts_hops n0 top s1 sn k (h + s), hop_even n0 top s1 sn]
    have z : ((h + s) % (n : Int) - s - h % (n : Int)) % (n : Int) = 0 := by
      rw [show (h + s) % (n : Int) - s - h % (n : Int) = (h + s) % (n : Int) - (s + h % (n : Int)) by omega, Int.sub_emod, Int.emod_emod_of_dvd _ (Int.dvd_refl _), Int.add_emod_emod, Int.add_comm s h, Int.sub_self, Int.zero_emod]
    rw [z, show ((k + 1 : Nat) : Int) * s = k * s + s by rw [Int.natCast_add, Int.add_mul]; simp]
    omega
theorem aparts_last (h e : Int) : ∀ k, lastH e (aparts n s h (k + 1)) = (h + (k : Int) * s) % (n : Int) := by
  have app : ∀ (r : List Int) (e x : Int), lastH e (r ++ [x]) = x := by
    intro r
    induction r with
    | nil => exact fun _ _ => rfl
    | cons y r ih => exact fun _ x => ih y x
  exact fun k => app _ _ _
/-- they go round once -/
theorem aparts_winds (n0 : 0 < n) (top : n ≤ 48) (s1 : 1 ≤ s) (sn : s ≤ n) (h : Int) {k : Nat} (h1 : ((k : Int) + 1) * s ≤ n) (h2 : (n : Int) < ((k : Int) + 1) * s + s) : windsI (evn n s) (aparts n s h (k + 1)) = 1 := by
  have e : hopSum (evn n s) (aparts n s h (k + 1)) = n := by
    unfold hopSum
    rw [aparts_last, aparts_cons]
    show hop (evn n s) ((h + (k : Int) * s) % (n : Int)) (h % (n : Int)) + hops (evn n s) (h % (n : Int)) (aparts n s (h + s) k) = n
    rw [aparts_hops n0 top s1 sn, hop_even n0 top s1 sn]
    have z : (h % (n : Int) - s - (h + (k : Int) * s) % (n : Int)) % (n : Int) = (n - ((k : Int) + 1) * s) := by
      rw [show h % (n : Int) - s - (h + (k : Int) * s) % (n : Int) = h % (n : Int) - (s + (h + (k : Int) * s) % (n : Int)) by omega, Int.sub_emod, Int.emod_emod_of_dvd _ (Int.dvd_refl _), Int.add_emod_emod, ← Int.sub_emod, show h - (s + (h + (k : Int) * s)) = -(((k : Int) + 1) * s) by rw [Int.add_mul]; omega]
      rw [show -(((k : Int) + 1) * s) = (n - ((k : Int) + 1) * s) + (n : Int) * (-1) by omega, Int.add_mul_emod_self_left, Int.emod_eq_of_lt (by omega) (by omega)]
    rw [z, Int.add_mul]
    omega
  unfold windsI
  rw [e, evn_len, Int.ediv_self (by omega)]
theorem Sum_upI {g : Int → Int} {v : Int} : ∀ {n j : Nat}, Clk.Sum n (Stl.upI g j v) = if j < n then Clk.Sum n g - g j + v else Clk.Sum n g
  | 0, j => rfl
  | n + 1, j => by
    show Clk.Sum n (Stl.upI g j v) + Stl.upI g j v n = _
    rw [Sum_upI]
    have e : Clk.Sum (n + 1) g = Clk.Sum n g + g n := rfl
    by_cases a : j < n
    · rw [if_pos a, if_pos (by omega), Stl.upI_ne (by omega), e]
      omega
    · by_cases b : j = n
      · subst b
        rw [if_neg a, if_pos (by omega), Stl.upI_same, e]
        omega
      · rw [if_neg a, if_neg (by omega), Stl.upI_ne (by omega), e]
/-- needs at hours a stay apart alone -/
structure Aparted (n : Nat) (s h : Int) (k : Nat) (g : Int → Int) : Prop where
  low : ∀ x : Nat, x < n → 0 ≤ g x
  top : ∀ x : Nat, x < n → g x ≤ 10 ^ 30
  out : ∀ x : Int, x ∉ aparts n s h k → g x = 0
  sum : Clk.Sum n g = needS g (aparts n s h k)
theorem Aparted.nil {h : Int} : Aparted n s h 0 fun _ => 0 := ⟨fun _ _ => Int.le_refl 0, fun _ _ => by omega, fun _ _ => rfl, Clk.Sum_nil n⟩
theorem needS_upI {g : Int → Int} {a v : Int} : ∀ {r : List Int}, a ∉ r → needS (Stl.upI g a v) r = needS g r
  | [], _ => rfl
  | x :: r, h => by
    show Stl.upI g a v x + needS (Stl.upI g a v) r = g x + needS g r
    rw [needS_upI fun z => h (List.mem_cons_of_mem _ z), Stl.upI_ne (fun z => h (by rw [← z]; exact List.mem_cons_self))]
theorem Aparted.put {h : Int} {k : Nat} {g : Int → Int} (n0 : 0 < n) (s1 : 1 ≤ s) (q : Aparted n s h k g) (hk : ((k : Int) + 1) * s ≤ n) {j : Nat} (hj : (h + (k : Int) * s) % (n : Int) = j) {v : Int} (v0 : 0 ≤ v) (v1 : v ≤ 10 ^ 30) : Aparted n s h (k + 1) (Stl.upI g j v) := by
  have jn : j < n := by
    have := Int.emod_lt_of_pos (h + (k : Int) * s) (show 0 < (n : Int) by omega)
    omega
  have no := aparts_new (h := h) n0 s1 hk
  rw [hj] at no
  refine ⟨fun x hx => ?_, fun x hx => ?_, fun x hx => ?_, ?_⟩
  · by_cases e : (x : Int) = j
    · rw [e, Stl.upI_same]
      exact v0
    · rw [Stl.upI_ne e]
      exact q.low x hx
  · by_cases e : (x : Int) = j
    · rw [e, Stl.upI_same]
      exact v1
    · rw [Stl.upI_ne e]
      exact q.top x hx
  · have hx' : x ∉ aparts n s h k ++ [(h + (k : Int) * s) % (n : Int)] := hx
    rw [hj, List.mem_append, List.mem_singleton] at hx'
    rw [Stl.upI_ne fun z => hx' (.inr z)]
    exact q.out x fun z => hx' (.inl z)
  · rw [Sum_upI, if_pos jn, q.out j no, q.sum]
    show _ = needS (Stl.upI g j v) (aparts n s h k ++ [(h + (k : Int) * s) % (n : Int)])
    rw [hj]
    unfold needS
    rw [List.map_append, List.sum_append]
    have z := needS_upI (g := g) (v := v) no
    unfold needS at z
    rw [z]
    show _ = _ + (Stl.upI g j v j + 0)
    rw [Stl.upI_same]
    omega
theorem Aparted.min {h : Int} {k : Nat} {g : Int → Int} (n0 : 0 < n) (top : n ≤ 48) (s1 : 1 ≤ s) (sn : s ≤ n) (q : Aparted n s h (k + 1) g) (h1 : ((k : Int) + 1) * s ≤ n) (h2 : (n : Int) < ((k : Int) + 1) * s + s) : Min (evn n s) g (Clk.Sum n g) := by
  have v := Clk.even_valid n0 top s1 sn
  have l0 : 0 < (evn n s).length := by rw [evn_len]; exact n0
  have tf := total_feas (g := g) v fun x hx => q.low x (by rwa [evn_len] at hx)
  rw [evn_len] at tf
  refine ⟨tf, fun p ⟨R, hR⟩ => ?_⟩
  have ne : aparts n s h (k + 1) ≠ [] := fun z => by
    have := aparts_len (n := n) (s := s) h (k + 1)
    rw [z] at this
    exact absurd this (by simp)
  have z := feas_ring l0 hR ne fun x hx => by
    obtain ⟨j, _, e⟩ := mem_aparts.mp hx
    rw [e, evn_len]
    exact ⟨Int.emod_nonneg _ (by omega), Int.emod_lt_of_pos _ (by omega)⟩
  rw [aparts_winds n0 top s1 sn h h1 h2, Int.one_mul] at z
  rw [q.sum]
  exact z
section
open Evl
variable {K : PySem.W.Frag} {σ : L2.St} {H : Hp} {ta tb tc te tx : TE} {CC CN CP : Addr} {E : XK} {ns : List Int} {g : Int → Int}
theorem Min.one {b b' : Int} (h : Min ns g b) (h' : Min ns g b') : b = b' := by
  have := h.2 _ h'.1
  have := h'.2 _ h.1
  omega
/-- fewest(..) != b: not so -/
theorem et_fewestN {b : Int} (ha : EvC K CC ta σ H ns) (hb : EvR K CN "_row" ns.length tb σ H g) (hx : Ev tx σ H (.int b)) (mn : Min ns g b) : EvT (tTest (tOp rNe (tCall (spFewest K CC CN) [] E (tCons ta (tCons tb tNil))) tx)) σ H false := fun H1 e Q q =>
  ha H1 e _ fun c H2 e2 hC => hb H2 (e.trans e2) _ fun d H3 e3 hD => ⟨c, d, ns, g, rfl, hC.same e3, hD, fun b' H4 s4 mn' => hx H4 ((e.trans (e2.trans e3)).trans s4) _ fun H5 e5 => ⟨rfl, _, rfl, by
    rw [mn'.one mn, decide_eq_true rfl]
    exact q H5 (((e2.trans e3).trans s4).trans e5)⟩⟩
theorem ev_windsL {r : Addr} {ring : List Int} (ha : EvC K CC ta σ H ns) (hb : Ev tb σ H (.ref r)) (hr : SqL K H r (iv ring)) (hl : ring.length ≤ 2500) (hin : ∀ k ∈ ring, 0 ≤ k ∧ k < ns.length) : Ev (tCall (spWinds K CC) [] E (tCons ta (tCons tb tNil))) σ H (.int (windsI ns ring)) := fun H1 e Q q =>
  ha H1 e _ fun c H2 e2 hC => hb H2 (e.trans e2) _ fun H3 e3 => ⟨c, r, ns, ring, rfl, hC.same e3, ex_l ((e.trans e2).trans e3) hr, hl, hin, fun H4 s4 => q H4 ((e2.trans e3).trans s4)⟩
end
end
end Hn

/-! EvD -/
/-! data that are evaluated, compared and shown -/
namespace Hn
open PySem PySem.Spec L2 Evl
open PyProof.Rows hiding St
mutual
theorem dp_ex {K : PySem.W.Frag} {H H' : Hp} (e : Ex H H') : ∀ {d : PyData} {v : V}, Dp K H v d → Dp K H' v d
  | .none, _, h => by cases h; exact .non
  | .bool b, _, h => by cases h; exact .bl b
  | .int i, _, h => by cases h; exact .int i
  | .str x, _, h => by cases h; exact .str x
  | .list ds, _, h => by
    cases h with
    | lst hs ha => exact .lst (ex_l e hs) (dpAll_ex e ha)
  | .tuple ds, _, h => by
    cases h with
    | tup hs ha => exact .tup (ex_t e hs) (dpAll_ex e ha)
  | .dict _, _, h => by cases h
theorem dpAll_ex {K : PySem.W.Frag} {H H' : Hp} (e : Ex H H') : ∀ {ds : List PyData} {vs : List V}, DpAll K H vs ds → DpAll K H' vs ds
  | [], _, h => by cases h; exact .nil
  | d :: ds, _, h => by
    cases h with
    | cons h1 h2 => exact .cons (dp_ex e h1) (dpAll_ex e h2)
end
/-- data come out -/
def EvD (K : PySem.W.Frag) (te : TE) (σ : L2.St) (H : Hp) (d : PyData) : Prop := ∀ H1, Ex H H1 → ∀ Q : VK, (∀ v H2, Ex H1 H2 → Dp K H2 v d → Q v H2) → te σ H1 Q
def EvDs (K : PySem.W.Frag) (ta : TA) (σ : L2.St) (H : Hp) (ds : List PyData) : Prop := ∀ H1, Ex H H1 → ∀ Q : List V → Hp → Prop, (∀ vs H2, Ex H1 H2 → DpAll K H2 vs ds → Q vs H2) → ta σ H1 Q
theorem Fine.mono {n m n' m' : Nat} {d : PyData} (h : Fine n m d) (a : n ≤ n') (b : m ≤ m') : Fine n' m' d := ⟨h.lay, h.show_, h.nod, Nat.le_trans h.dep a, Nat.le_trans h.len b⟩
theorem Fine.bool (b : Bool) : Fine 0 102 (.bool b) := ⟨rfl, rfl, rfl, Nat.le_refl _, by cases b <;> decide⟩
section
variable {K : PySem.W.Frag} {σ : L2.St} {H : Hp} {ta tb te : TE} {d d' : PyData} {ds : List PyData} {tr : TA} {n m : Nat}
theorem evd_int {i : Int} (h : Ev te σ H (.int i)) : EvD K te σ H (.int i) := fun H1 e Q k => h H1 e _ fun H2 e2 => k _ H2 e2 (.int i)
theorem evd_bl {b : Bool} (h : Ev te σ H (.bl b)) : EvD K te σ H (.bool b) := fun H1 e Q k => h H1 e _ fun H2 e2 => k _ H2 e2 (.bl b)
theorem evd_str {x : Str} (h : Ev te σ H (.str x)) : EvD K te σ H (.str x) := fun H1 e Q k => h H1 e _ fun H2 e2 => k _ H2 e2 (.str x)
theorem evd_L {xs : List Int} (h : EvL te σ H (iv xs)) : EvD K te σ H (dI xs) := fun H1 e Q k => h H1 e _ fun p H2 _ e2 hp => k _ H2 e2 (Dp.ints (SqL.of hp))
theorem evd_ref {p : Addr} {xs : List Int} (h : Ev te σ H (.ref p)) (hp : SqL K H p (iv xs)) : EvD K te σ H (dI xs) := fun H1 e Q k => h H1 e _ fun H2 e2 => k _ H2 e2 (Dp.ints (ex_l (e.trans e2) hp))
theorem evds_nil : EvDs K tNil σ H [] := fun H1 _ Q k => k [] H1 (Ex.refl H1) .nil
theorem evds_cons (h : EvD K te σ H d) (hr : EvDs K tr σ H ds) : EvDs K (tCons te tr) σ H (d :: ds) := fun H1 e Q k =>
  h H1 e _ fun v H2 e2 hv => hr H2 (e.trans e2) _ fun vs H3 e3 hvs => k (v :: vs) H3 (e2.trans e3) (.cons (dp_ex e3 hv) hvs)
theorem dpAll_len {K : PySem.W.Frag} {H : Hp} : ∀ {vs : List V} {ds : List PyData}, DpAll K H vs ds → vs.length = ds.length
  | [], _, h => by cases h; rfl
  | _ :: vs, _, h => by
    cases h with
    | cons h1 h2 => exact congrArg (· + 1) (dpAll_len h2)
theorem evd_lst (h : EvDs K tr σ H ds) (hl : ds.length ≤ 100000) : EvD K (tLst tr) σ H (.list ds) := fun H1 e Q k =>
  h H1 e _ fun vs H2 e2 hv => ⟨by rw [dpAll_len hv]; exact sz_of hl, fun p np => k (.ref p) _ (e2.trans (Ex.new np)) (.lst (SqL.of upd_same) (dpAll_ex (Ex.new np) hv))⟩
/-- d != d' : not so -/
theorem et_neD (ha : EvD K ta σ H d) (hb : EvD K tb σ H d) (hf : Fine n m d) (hn : n ≤ 60) : EvT (tTest (tOp (rNeD K) ta tb)) σ H false := fun H1 e Q k =>
  ha H1 e _ fun v H2 e2 hv => hb H2 (e.trans e2) _ fun w H3 e3 hw => ⟨d, d, dp_ex e3 hv, hw, hf.shaped hn, hf.shaped hn, _, rfl, by
    rw [eqv_same (hf.shaped hn)]
    exact k H3 (e2.trans e3)⟩
/-- repr of data that stand in the heap -/
theorem ev_reprE (ha : EvD K ta σ H d) (hv : ∀ {v : V} {H : Hp}, Dp K H v d → ∃ p, v = .ref p) (hf : Fine n m d) (hn : n ≤ 60) (hm : m ≤ 16777216) : Ev (tCB (rRepr K) (tCons ta tNil)) σ H (.str d.shown) := fun H1 e Q q =>
  ha H1 e _ fun v H2 e2 h => by
    obtain ⟨p, rfl⟩ := hv h
    exact ⟨p, d, rfl, h, hf.show_, hf.nod, by have := hf.dep; omega, by rw [sizeLine_eq]; exact Nat.le_trans hf.len hm, q H2 e2⟩
theorem dp_list_ref {K : PySem.W.Frag} {ds : List PyData} {v : V} {H : Hp} (h : Dp K H v (.list ds)) : ∃ p, v = .ref p := by
  cases h with
  | lst _ _ => exact ⟨_, rfl⟩
/-- repr(d) != repr(d) : not so -/
theorem et_reprSame (ha : EvD K ta σ H (.list ds)) (hb : EvD K tb σ H (.list ds)) (hf : Fine n m (.list ds)) (hn : n ≤ 60) (hm : m ≤ 16777216) : EvT (tTest (tOp rNe (tCB (rRepr K) (tCons ta tNil)) (tCB (rRepr K) (tCons tb tNil)))) σ H false :=
  et_sameS (ev_reprE ha dp_list_ref hf hn hm) (ev_reprE hb dp_list_ref hf hn hm) rfl
/-- l[j] op= y -/
theorem q_augL {D : Ends} {tz : TS} {l : Addr} {n j : Nat} {g : Int → Int} {op : Int → Int → Int} {y : Int} {ti : TE} (hl : H l = some (.lst (iv (Clk.row n g)))) (ha : Ev ta σ H (.ref l)) (hi : Ev ti σ H (.int (j : Int))) (he : Ev te σ H (.int y)) (hj : j < n) (k : ∀ H1, Ex H H1 → tz D σ (upd H1 l (.lst (iv (Clk.row n (Stl.upI g j (op (g j) y))))))) :
    tSeq (tAugS ta ti te (rIxL K) (ipI op) rSetL) tz D σ H :=
  ha H (Ex.refl H) _ fun H1 e1 => hi H1 e1 _ fun H2 e2 => ⟨l, _, (j : Int), _, rfl, rfl, SqL.of ((e1.trans e2) _ _ hl), at_row (by omega) (by omega), he H2 (e1.trans e2) _ fun H3 e3 => ⟨_, _, rfl, rfl, l, _, (j : Int), j, rfl, rfl, ((e1.trans e2).trans e3) _ _ hl, ixN_nat (by rw [iv_len, Clk.row_len]; exact hj), by
    rw [row_set hj]
    exact k H3 ((e1.trans e2).trans e3)⟩⟩
/-- a row of numbers from 0 on by its sums -/
theorem by_sums {n : Nat} {g : Int → Int} (low : ∀ i : Nat, i < n → 0 ≤ g i) : ∃ s : Int → Int, s 0 = 0 ∧ s n = Clk.Sum n g ∧ Clk.row n (Hn.ds s) = Clk.row n g ∧ ∀ k : Nat, k < n → s k ≤ s ((k : Int) + 1) := by
  have st : ∀ k : Nat, Clk.Sum ((k : Int) + 1).toNat g = Clk.Sum (k : Int).toNat g + g k := fun k => by
    rw [show ((k : Int) + 1).toNat = k + 1 by omega, Int.toNat_natCast]
    rfl
  refine ⟨fun x => Clk.Sum x.toNat g, rfl, (by show Clk.Sum (n : Int).toNat g = _; rw [Int.toNat_natCast]), Clk.row_congr fun k hk => ?_, fun k hk => ?_⟩
  · show Clk.Sum ((k : Int) + 1).toNat g - Clk.Sum (k : Int).toNat g = g k
    rw [st k]
    omega
  · show Clk.Sum (k : Int).toNat g ≤ Clk.Sum ((k : Int) + 1).toNat g
    rw [st k]
    have := low k hk
    omega
end
end Hn
namespace Hn
open PySem PySem.Spec L2 Evl
/-- objects at these addresses -/
def Los (H : Hp) : List Addr → List HO → Prop
  | [], [] => True
  | a :: as, o :: os => H a = some o ∧ Los H as os
  | _, _ => False
theorem Los.len {H : Hp} : ∀ {as : List Addr} {os : List HO}, Los H as os → as.length = os.length
  | [], [], _ => rfl
  | _ :: _, _ :: _, h => congrArg (· + 1) h.2.len
  | [], _ :: _, h => h.elim
  | _ :: _, [], h => h.elim
theorem Los.ex {H H' : Hp} (e : Ex H H') : ∀ {as : List Addr} {os : List HO}, Los H as os → Los H' as os
  | [], [], _ => trivial
  | _ :: _, _ :: _, h => ⟨e _ _ h.1, h.2.ex e⟩
  | [], _ :: _, h => h.elim
  | _ :: _, [], h => h.elim
theorem Los.app {H : Hp} : ∀ {as bs : List Addr} {os qs : List HO}, Los H as os → Los H bs qs → Los H (as ++ bs) (os ++ qs)
  | [], _, [], _, _, g => g
  | _ :: _, _, _ :: _, _, h, g => ⟨h.1, h.2.app g⟩
  | [], _, _ :: _, _, h, _ => h.elim
  | _ :: _, _, [], _, h, _ => h.elim
theorem Los.upd {H : Hp} {l : Addr} {o : HO} : ∀ {as : List Addr} {os : List HO}, Los H as os → (∀ a ∈ as, a ≠ l) → Los (upd H l o) as os
  | [], [], _, _ => trivial
  | a :: as, _ :: _, h, n => ⟨by rw [upd_ne (n a (List.mem_cons_self ..))]; exact h.1, h.2.upd fun x hx => n x (List.mem_cons_of_mem _ hx)⟩
  | [], _ :: _, h, _ => h.elim
  | _ :: _, [], h, _ => h.elim
theorem Los.get {H : Hp} : ∀ {as : List Addr} {os : List HO} {i : Nat} {v : V}, Los H as os → (as.map V.ref)[i]? = some v → ∃ a o, v = .ref a ∧ os[i]? = some o ∧ H a = some o
  | [], [], _, _, _, h => by cases h
  | a :: as, r :: rs, 0, v, h, e => ⟨a, r, (Option.some.inj e).symm, rfl, h.1⟩
  | a :: as, r :: rs, i + 1, v, h, e => h.2.get (i := i) e
  | [], _ :: _, _, _, h, _ => h.elim
  | _ :: _, [], _, _, h, _ => h.elim
/-- a new list of new objects comes out -/
def EvBs (te : TE) (σ : L2.St) (H : Hp) (os : List HO) : Prop :=
  ∀ H1, Ex H H1 → ∀ Q : VK, (∀ p as H2, H1 p = none → Ex H1 H2 → H2 p = some (.lst (as.map V.ref)) → Los H2 as os → (∀ a ∈ as, H1 a = none) → Q (.ref p) H2) → te σ H1 Q
/-- a new object comes out -/
def EvB (te : TE) (σ : L2.St) (H : Hp) (o : HO) : Prop := ∀ H1, Ex H H1 → ∀ Q : VK, (∀ p H2, H1 p = none → Ex H1 H2 → H2 p = some o → Q (.ref p) H2) → te σ H1 Q
def Cwo (H : Hp) (f : Nat → Bool) (r : Nat → HO) (Dl : Addr) (i : Nat) (H' : Hp) : Prop := H Dl = none ∧ Ex H H' ∧ ∃ as, H' Dl = some (.lst (as.map V.ref)) ∧ Los H' as (((List.range i).filter f).map r) ∧ ∀ a ∈ as, H a = none ∧ a ≠ Dl
section
variable {K : PySem.W.Frag} {σ : L2.St} {H : Hp} {te ta tb : TE} {t : TT} {D : Ends} {tz : TS}
theorem cwo_turn {H H' : Hp} {f : Nat → Bool} {r : Nat → HO} {Dl : Addr} {i : Nat} {σ2 : L2.St} (p : Cwo H f r Dl i H') (hi : i < 50000) (ht : EvT t σ2 H (f i)) (he : f i = true → EvB te σ2 H (r i)) :
    t σ2 H' fun b H3 => if b = true then te σ2 H3 fun y H4 => ∃ acc, H4 Dl = some (.lst acc) ∧ acc.length < sizeLine ∧ Cwo H f r Dl (i + 1) (upd H4 Dl (.lst (acc ++ [y]))) else Cwo H f r Dl (i + 1) H3 := by
  obtain ⟨p1, p2, as, p3, p4, p5⟩ := p
  refine ht H' p2 _ fun H3 e3 => ?_
  have hl : as.length ≤ i := by
    rw [p4.len, List.length_map]
    exact Nat.le_trans (List.length_filter_le _ _) (by rw [List.length_range]; exact Nat.le_refl _)
  cases hf : f i with
  | true =>
    show te σ2 H3 fun y H4 => ∃ acc, H4 Dl = some (.lst acc) ∧ acc.length < sizeLine ∧ Cwo H f r Dl (i + 1) (upd H4 Dl (.lst (acc ++ [y])))
    refine he hf H3 (p2.trans e3) _ fun a H4 na e4 ha => ⟨as.map V.ref, e4 Dl _ (e3 Dl _ p3), sz_lt (by rw [List.length_map]; omega), p1, Ex.mut ((p2.trans e3).trans e4) p1, as ++ [a], ?_, ?_, ?_⟩
    · rw [upd_same, List.map_append]
      rfl
    · have ne : ∀ x ∈ as ++ [a], x ≠ Dl := fun x hx => by
        rcases List.mem_append.mp hx with h | h
        · exact (p5 x h).2
        · rw [List.mem_singleton.mp h]
          intro z
          rw [z, e3 Dl _ p3] at na
          cases na
      have z : Los H4 (as ++ [a]) ((((List.range i).filter f).map r) ++ [r i]) := ((p4.ex e3).ex e4).app ⟨ha, trivial⟩
      rw [List.range_succ, List.filter_append, List.filter_cons_of_pos (by rw [hf]), List.map_append]
      exact z.upd ne
    · intro x hx
      rcases List.mem_append.mp hx with h | h
      · exact p5 x h
      · rw [List.mem_singleton.mp h]
        refine ⟨fresh_back (p2.trans e3) na, fun z => ?_⟩
        rw [z, e3 Dl _ p3] at na
        cases na
  | false =>
    show Cwo H f r Dl (i + 1) H3
    refine ⟨p1, p2.trans e3, as, e3 Dl _ p3, ?_, p5⟩
    rw [List.range_succ, List.filter_append, List.filter_cons_of_neg (by rw [hf]; decide)]
    simpa using p4.ex e3
theorem ebs_lcR1 {ta : TA} {j : Nat} {vs : List Nat} {n : Int} (f : Nat → Bool) (r : Nat → HO) (h : EvA ta σ H [.int n]) (h0 : 0 ≤ n ∧ n ≤ 40000) (hw : ∀ x, wipe ((wipe σ vs).set j (some x)) vs = wipe σ vs)
    (ht : ∀ (i : Nat) H1, Ex H H1 → (i : Int) < n → EvT t ((wipe σ vs).set j (some (.int (i : Int)))) H1 (f i)) (he : ∀ (i : Nat) H1, Ex H H1 → (i : Int) < n → f i = true → EvB te ((wipe σ vs).set j (some (.int (i : Int)))) H1 (r i)) :
    EvBs (tLc (iRng1 ta) (gName j) t te vs) σ H (((List.range n.toNat).filter f).map r) := fun H0 e Q q => h H0 e _ fun H1 e1 => ⟨n, rfl, by omega, by omega, fun Dl hD =>
  lc_range (lo := 0) (n := n.toNat) (Cwo H1 f r Dl) ⟨hD, Ex.new hD, [], upd_same, trivial, fun _ h => nomatch h⟩ (fun i H' hi p => by
    have e0 : (0 : Int) + (i : Int) = (i : Int) := Int.zero_add _
    rw [e0]
    exact ⟨hw _, cwo_turn p (by omega) (ht i H1 (e.trans e1) (by omega)) (fun hf => he i H1 (e.trans e1) (by omega) hf)⟩) (fun H' p => q Dl p.2.2.choose H' (fresh_back e1 p.1) (e1.trans p.2.1) p.2.2.choose_spec.1 p.2.2.choose_spec.2.1 fun a ha => fresh_back e1 (p.2.2.choose_spec.2.2 a ha).1)⟩
theorem q_asgBs {i : Nat} {os : List HO} (h : EvBs te σ H os) (k : ∀ p as H1, H p = none → Ex H H1 → H1 p = some (.lst (as.map V.ref)) → Los H1 as os → tz D (σ.set i (some (.ref p))) H1) : tSeq (tAsg te (gName i)) tz D σ H := h H (Ex.refl H) _ fun p as H1 np e hp hl _ => k p as H1 np e hp hl
/-- over a list of pairs -/
theorem el_lcP {L : Addr} {ts : List Addr} {n : Nat} {x y : Nat → V} {tl : TE} {p r : Nat} {vs : List Nat} (f : Nat → Bool) (v : Nat → V) (h : Ev tl σ H (.ref L)) (hL : H L = some (.lst (ts.map V.ref))) (hP : Los H ts ((List.range n).map fun i => .tup [x i, y i])) (hz : n ≤ 40000) (hw : ∀ a b, wipe (((wipe σ vs).set p (some a)).set r (some b)) vs = wipe σ vs)
    (ht : ∀ (i : Nat) H1, Ex H H1 → i < n → EvT t (((wipe σ vs).set p (some (x i))).set r (some (y i))) H1 (f i)) (he : ∀ (i : Nat) H1, Ex H H1 → i < n → f i = true → Ev te (((wipe σ vs).set p (some (x i))).set r (some (y i))) H1 (v i)) :
    EvL (tLc (iList K tl) (gTup K 2 (gCons (gName p) (gCons (gName r) gNil))) t te vs) σ H (given n f v) := fun H0 e Q q => h H0 e _ fun H1 e1 => ⟨L, rfl, ⟨_, SqL.of ((e.trans e1) _ _ hL)⟩, fun Dl hD =>
  lc_list (xs := ts.map V.ref) (Cw H1 f v Dl) ⟨hD, Ex.new hD, upd_same⟩ (fun i H' _ c => SqL.of (c.2.1 _ _ ((e.trans e1) _ _ hL))) (fun i z H' hi c => by
    obtain ⟨a, o, rfl, ho, ha⟩ := (hP.ex (e.trans e1)).get hi
    have hn : i < n := by
      have := (List.getElem?_eq_some_iff.mp ho).1
      rwa [List.length_map, List.length_range] at this
    have eo : o = .tup [x i, y i] := by
      rw [List.getElem?_map, List.getElem?_range hn] at ho
      exact (Option.some.inj ho).symm
    subst eo
    exact ⟨a, _, rfl, .inl (.inl (c.2.1 _ _ ha)), rfl, _, _, rfl, _, _, rfl, rfl, hw _ _, cw_turn c (by omega) (ht i H1 (e.trans e1) hn) (fun hf => he i H1 (e.trans e1) hn hf)⟩) (fun H' c => by
    have z : (ts.map V.ref).length = n := by rw [List.length_map, hP.len, List.length_map, List.length_range]
    rw [z] at c
    exact q Dl H' (fresh_back e1 c.1) (e1.trans c.2.1) c.2.2)⟩
/-- (x, y) -/
theorem eb_two {x y : V} (ha : Ev ta σ H x) (hb : Ev tb σ H y) : EvB (tTup (tCons ta (tCons tb tNil))) σ H (.tup [x, y]) := fun H1 e Q k =>
  ha H1 e _ fun H2 e2 => hb H2 (e.trans e2) _ fun H3 e3 => ⟨by show 2 ≤ sizeLine; decide, fun p np => k p _ (fresh_back (e2.trans e3) np) ((e2.trans e3).trans (Ex.new np)) upd_same⟩
/-- l == l' -/
theorem ev_eqVL {xs ys : List Int} {p : Addr} (ha : Ev ta σ H (.ref p)) (hp : SqL K H p (iv xs)) (hb : EvL tb σ H (iv ys)) : Ev (tOp (rEqD K) ta tb) σ H (.bl (decide (xs = ys))) :=
  ev_opL ha hb fun q H1 hq e H2 e2 Q k => ⟨dI xs, dI ys, Dp.ints (ex_l (e.trans e2) hp), Dp.ints (SqL.of (e2 _ _ hq)), shaped_I _, shaped_I _, by rw [eqv_I]; exact k H2 (Ex.refl H2)⟩
theorem evd_is {d d' : PyData} (h : EvD K te σ H d) (e : d = d') : EvD K te σ H d' := e ▸ h
theorem given_ones (n : Nat) (f : Nat → Bool) : given n f (fun _ => V.int 1) = iv (((List.range n).filter f).map fun _ => 1) := by
  unfold given iv
  rw [List.map_map]
  rfl
/-- min(x, y), max(x, y) -/
theorem ev_mn {i j : Int} (ha : Ev ta σ H (.int i)) (hb : Ev tb σ H (.int j)) : Ev (tCB (fun xs H Q => ∃ i j, xs = [V.int i, V.int j] ∧ Q (V.int (if j < i then j else i)) H) (tCons ta (tCons tb tNil))) σ H (.int (min i j)) := fun H1 e Q q =>
  ha H1 e _ fun H2 e2 => hb H2 (e.trans e2) _ fun H3 e3 => ⟨i, j, rfl, by
    rw [show (if j < i then j else i) = min i j by split <;> omega]
    exact q H3 (e2.trans e3)⟩
theorem ev_mx {i j : Int} (ha : Ev ta σ H (.int i)) (hb : Ev tb σ H (.int j)) : Ev (tCB (fun xs H Q => ∃ i j, xs = [V.int i, V.int j] ∧ Q (V.int (if j > i then j else i)) H) (tCons ta (tCons tb tNil))) σ H (.int (max i j)) := fun H1 e Q q =>
  ha H1 e _ fun H2 e2 => hb H2 (e.trans e2) _ fun H3 e3 => ⟨i, j, rfl, by
    rw [show (if j > i then j else i) = max i j by split <;> omega]
    exact q H3 (e2.trans e3)⟩
end
end Hn

/-! MinM -/
/-! the least number of people: what is added, turned, longer -/
namespace Hn
open PySem L2
section
variable {ns : List Int} {g g' : Int → Int} {p q k : Int}
theorem Sum_le2 : ∀ {n : Nat} {f g : Int → Int}, (∀ i : Nat, i < n → f i ≤ g i) → Clk.Sum n f ≤ Clk.Sum n g
  | 0, _, _, _ => Int.le_refl 0
  | n + 1, f, g, h => by
    have a := Sum_le2 (n := n) (f := f) (g := g) fun i hi => h i (by omega)
    have b := h n (by omega)
    show Clk.Sum n f + f n ≤ Clk.Sum n g + g n
    omega
/-- marks at which nothing more is asked for: a plan that is enough -/
theorem feas_plan (v : Clk.Valid ns) (h : Feas ns g p) : ∃ s : Int → Int, s 0 = 0 ∧ s ns.length = p ∧ (∀ k : Nat, k < ns.length → s k ≤ s ((k : Int) + 1)) ∧ ∀ x : Int, g (x % (ns.length : Int)) ≤ Clk.th ns (per ns.length (ds s)) x := by
  have n0 := v.pos
  obtain ⟨R0, h0⟩ := h
  obtain ⟨R, r0, h1⟩ : ∃ R : Int → Int, R 0 = 0 ∧ ∀ k ∈ (stepsL ns g ns.length).map (ask p), R k.f + k.w ≤ R k.l := ⟨fun k => R0 k - R0 0, by show R0 0 - R0 0 = 0; omega, fun k hk => by
    have := h0 k hk
    show R0 k.f - R0 0 + k.w ≤ R0 k.l - R0 0
    omega⟩
  have s0 : sumsOf ns.length R p 0 = 0 := by rw [sumsOf_in (by omega)]; exact r0
  refine ⟨sumsOf ns.length R p, s0, sumsOf_end, fun k hk => ?_, fun x => ?_⟩
  · have z := feas_keep n0 h1 (k : Int)
    have qk := ext_at (p := p) (R := R) (n := (ns.length : Int)) (f := k) (q := 0) (by omega) (by omega)
    rw [show (0 : Int) * (ns.length : Int) + k = k by omega] at qk
    rw [sumsOf_in (by omega)]
    by_cases l : (k : Int) + 1 < ns.length
    · have q1 := ext_at (p := p) (R := R) (n := (ns.length : Int)) (f := (k : Int) + 1) (q := 0) (by omega) l
      rw [show (0 : Int) * (ns.length : Int) + ((k : Int) + 1) = k + 1 by omega] at q1
      rw [sumsOf_in l]
      omega
    · have e : (k : Int) + 1 = ns.length := by omega
      have q1 := ext_at (p := p) (R := R) (n := (ns.length : Int)) (f := 0) (q := 1) (by omega) (by omega)
      rw [show (1 : Int) * (ns.length : Int) + 0 = k + 1 by omega] at q1
      rw [e, sumsOf_end]
      omega
  · rw [Clk.th_ext v s0 sumsOf_end, ext_eq, ext_eq, ext_sumsOf n0, ext_sumsOf n0]
    have z := feas_need n0 h1 x
    omega
theorem Sum_ds (s : Int → Int) (s0 : s 0 = 0) : ∀ n : Nat, Clk.Sum n (ds s) = s n
  | 0 => s0.symm
  | n + 1 => by
    show Clk.Sum n (ds s) + (s ((n : Int) + 1) - s n) = s ((n + 1 : Nat) : Int)
    rw [Sum_ds s s0 n, show ((n + 1 : Nat) : Int) = (n : Int) + 1 by omega]
    omega
/-- by what begins -/
theorem feas_begins (v : Clk.Valid ns) (h : Feas ns g p) : ∃ f : Int → Int, (∀ x, f (x % (ns.length : Int)) = f x) ∧ (∀ x, 0 ≤ f x) ∧ Clk.Sum ns.length f = p ∧ ∀ x : Int, g (x % (ns.length : Int)) ≤ Clk.th ns f x := by
  have n0 := v.pos
  obtain ⟨s, s0, sp, up, en⟩ := feas_plan v h
  refine ⟨per ns.length (ds s), fun x => ?_, fun x => ?_, ?_, en⟩
  · show ds s (x % (ns.length : Int) % (ns.length : Int)) = ds s (x % (ns.length : Int))
    rw [Int.emod_emod_of_dvd _ (Int.dvd_refl _)]
  · obtain ⟨a, b⟩ := emod_in n0 x
    obtain ⟨k, hk⟩ := Int.eq_ofNat_of_zero_le a
    show 0 ≤ ds s (x % (ns.length : Int))
    rw [hk]
    have := up k (by omega)
    show 0 ≤ s ((k : Int) + 1) - s k
    omega
  · rw [← sp, ← Sum_ds s s0 ns.length]
    refine Clk.Sum_congr fun i hi => ?_
    show ds s ((i : Int) % (ns.length : Int)) = ds s i
    rw [Int.emod_eq_of_lt (by omega) (by omega)]
theorem begins_feas (v : Clk.Valid ns) {f : Int → Int} (pf : ∀ x, f (x % (ns.length : Int)) = f x) (f0 : ∀ x, 0 ≤ f x) (sp : Clk.Sum ns.length f = p) (en : ∀ x : Nat, x < ns.length → g x ≤ Clk.th ns f x) : Feas ns g p := by
  have n0 := v.pos
  have step : ∀ k : Nat, Clk.Sum ((k : Int) + 1).toNat f = Clk.Sum k f + f k := fun k => by
    rw [show ((k : Int) + 1).toNat = k + 1 by omega]
    rfl
  have d : ∀ k : Nat, ds (fun k => Clk.Sum k.toNat f) k = f k := fun k => by
    show Clk.Sum ((k : Int) + 1).toNat f - Clk.Sum ((k : Int)).toNat f = f k
    rw [step, Int.toNat_natCast]
    omega
  refine plan_feas v (s := fun k => Clk.Sum k.toNat f) rfl sp (fun k hk => ?_) fun x hx => ?_
  · show Clk.Sum ((k : Int)).toNat f ≤ Clk.Sum ((k : Int) + 1).toNat f
    rw [step, Int.toNat_natCast]
    have := f0 k
    omega
  · rw [Clk.th_congr (g := f) fun y => ?_]
    · exact en x hx
    · obtain ⟨a, b⟩ := emod_in n0 y
      obtain ⟨k, hk⟩ := Int.eq_ofNat_of_zero_le a
      show ds _ (y % (ns.length : Int)) = f y
      rw [hk, d, ← hk, pf]
theorem feas_less (h : ∀ x : Nat, x < ns.length → g x ≤ g' x) (hf : Feas ns g' p) : Feas ns g p := by
  obtain ⟨R, hR⟩ := hf
  refine ⟨R, fun k hk => ?_⟩
  obtain ⟨x, hx, e⟩ := mem_ask hk
  rcases e with rfl | rfl
  · exact hR _ (List.mem_map.mpr ⟨_, mem_stepsL.mpr ⟨x, hx, .inl rfl⟩, rfl⟩)
  · have z := hR (ask p (needL ns g' x)) (List.mem_map.mpr ⟨_, mem_stepsL.mpr ⟨x, hx, .inr rfl⟩, rfl⟩)
    have y := h x hx
    have z' : R (needL ns g x).f + (g' x - (needL ns g x).d * p) ≤ R (needL ns g x).l := z
    show R (needL ns g x).f + (g x - (needL ns g x).d * p) ≤ R (needL ns g x).l
    omega
theorem feas_add (hf : Feas ns g p) (hf' : Feas ns g' q) : Feas ns (fun x => g x + g' x) (p + q) := by
  obtain ⟨R, hR⟩ := hf
  obtain ⟨R', hR'⟩ := hf'
  refine ⟨fun x => R x + R' x, fun k hk => ?_⟩
  obtain ⟨x, hx, e⟩ := mem_ask hk
  rcases e with rfl | rfl
  · have z : R (keepL ns.length x).f + (0 - (keepL ns.length x).d * p) ≤ R (keepL ns.length x).l := hR _ (List.mem_map.mpr ⟨_, mem_stepsL.mpr ⟨x, hx, .inl rfl⟩, rfl⟩)
    have z' : R' (keepL ns.length x).f + (0 - (keepL ns.length x).d * q) ≤ R' (keepL ns.length x).l := hR' _ (List.mem_map.mpr ⟨_, mem_stepsL.mpr ⟨x, hx, .inl rfl⟩, rfl⟩)
    show R (keepL ns.length x).f + R' (keepL ns.length x).f + (0 - (keepL ns.length x).d * (p + q)) ≤ R (keepL ns.length x).l + R' (keepL ns.length x).l
    rw [Int.mul_add]
    omega
  · have z : R (needL ns g x).f + (g x - (needL ns g x).d * p) ≤ R (needL ns g x).l := hR _ (List.mem_map.mpr ⟨_, mem_stepsL.mpr ⟨x, hx, .inr rfl⟩, rfl⟩)
    have z' : R' (needL ns g x).f + (g' x - (needL ns g x).d * q) ≤ R' (needL ns g x).l := hR' _ (List.mem_map.mpr ⟨_, mem_stepsL.mpr ⟨x, hx, .inr rfl⟩, rfl⟩)
    show R (needL ns g x).f + R' (needL ns g x).f + (g x + g' x - (needL ns g x).d * (p + q)) ≤ R (needL ns g x).l + R' (needL ns g x).l
    rw [Int.mul_add]
    omega
theorem feas_mul {t : Int} (t0 : 0 ≤ t) (hf : Feas ns g p) : Feas ns (fun x => g x * t) (t * p) := by
  obtain ⟨R, hR⟩ := hf
  refine ⟨fun x => t * R x, fun k hk => ?_⟩
  obtain ⟨x, hx, e⟩ := mem_ask hk
  have m : ∀ a b d w : Int, a + (w - d * p) ≤ b → t * a + (w * t - d * (t * p)) ≤ t * b := fun a b d w h => by
    have z := Int.mul_le_mul_of_nonneg_left h t0
    rw [Int.mul_add, Int.mul_sub, show t * (d * p) = d * (t * p) by rw [← Int.mul_assoc, ← Int.mul_assoc, Int.mul_comm t d], Int.mul_comm t w] at z
    omega
  rcases e with rfl | rfl
  · have z := m _ _ _ _ (hR (ask p (keepL ns.length x)) (List.mem_map.mpr ⟨_, mem_stepsL.mpr ⟨x, hx, .inl rfl⟩, rfl⟩))
    have z' : t * R (keepL ns.length x).f + (0 * t - (keepL ns.length x).d * (t * p)) ≤ t * R (keepL ns.length x).l := z
    show t * R (keepL ns.length x).f + (0 - (keepL ns.length x).d * (t * p)) ≤ t * R (keepL ns.length x).l
    omega
  · exact m _ _ _ _ (hR (ask p (needL ns g x)) (List.mem_map.mpr ⟨_, mem_stepsL.mpr ⟨x, hx, .inr rfl⟩, rfl⟩))
theorem feas_div (n0 : 0 < ns.length) {t : Int} (t0 : 0 < t) (hf : Feas ns (fun x => g x * t) p) (hq : p ≤ t * q) : Feas ns g q := by
  obtain ⟨R, hR⟩ := feas_mono n0 hq hf
  refine ⟨fun x => R x / t, fun k hk => ?_⟩
  obtain ⟨x, hx, e⟩ := mem_ask hk
  have m : ∀ a b d w : Int, a + (w * t - d * (t * q)) ≤ b → a / t + (w - d * q) ≤ b / t := fun a b d w h => by
    rw [← Int.add_mul_ediv_right a (w - d * q) (show t ≠ 0 by omega)]
    refine Int.ediv_le_ediv t0 ?_
    rw [Int.sub_mul, show d * q * t = d * (t * q) by rw [Int.mul_assoc, Int.mul_comm q t]]
    exact h
  rcases e with rfl | rfl
  · have z : R (keepL ns.length x).f + (0 - (keepL ns.length x).d * (t * q)) ≤ R (keepL ns.length x).l := hR (ask (t * q) (keepL ns.length x)) (List.mem_map.mpr ⟨_, mem_stepsL.mpr ⟨x, hx, .inl rfl⟩, rfl⟩)
    exact m _ _ (keepL ns.length x).d 0 (by rw [Int.zero_mul]; exact z)
  · exact m _ _ (needL ns g x).d (g x) (hR (ask (t * q) (needL ns (fun x => g x * t) x)) (List.mem_map.mpr ⟨_, mem_stepsL.mpr ⟨x, hx, .inr rfl⟩, rfl⟩))
theorem feas_trn (v : Clk.Valid ns) (v' : Clk.Valid (Clk.trn ns k)) (hf : Feas ns g p) : Feas (Clk.trn ns k) (fun x => g ((x + k) % (ns.length : Int))) p := by
  have n0 := v.pos
  obtain ⟨f, pf, f0, sp, en⟩ := feas_begins v hf
  refine begins_feas (f := fun y => f (y + k)) v' (fun x => ?_) (fun x => f0 _) ?_ fun x hx => ?_
  · rw [Clk.trn_len, ← pf (x % (ns.length : Int) + k), ← pf (x + k), Int.emod_add_emod]
  · rw [Clk.trn_len, ← sp, ← sum_per n0 f k]
    exact Clk.Sum_congr fun i _ => (pf _).symm
  · rw [Clk.th_trn n0]
    exact en _
theorem feas_longer {ns' : List Int} (v : Clk.Valid ns) (v' : Clk.Valid ns') (hl : ns'.length = ns.length) (h : ∀ x, Clk.S ns x ≤ Clk.S ns' x) (hf : Feas ns g p) : Feas ns' g p := by
  obtain ⟨f, pf, f0, sp, en⟩ := feas_begins v hf
  refine begins_feas (f := f) v' (fun x => by rw [hl]; exact pf x) f0 (by rw [hl]; exact sp) fun x hx => ?_
  have z := en x
  rw [Int.emod_eq_of_lt (by omega) (by omega)] at z
  refine Int.le_trans z ?_
  unfold Clk.th
  rw [hl]
  refine Sum_le2 fun b hb => ?_
  refine Int.mul_le_mul_of_nonneg_left ?_ (f0 _)
  have := h ((x : Int) - b)
  unfold Clk.ind
  by_cases c : (b : Int) < Clk.S ns ((x : Int) - b)
  · rw [if_pos c, if_pos (by omega)]
    exact Int.le_refl _
  · rw [if_neg c]
    split <;> omega
end
end Hn
namespace Hn
open PySem L2
section
variable {g : Int → Int} {n : Nat} {b : Int}
theorem min_full (n0 : 0 < n) (top : n ≤ 48) (h : ∀ x : Nat, x < n → g x ≤ b) (j : Nat) (hj : j < n) (e : g j = b) (b0 : 0 ≤ b) : Min (evn n (n : Int)) g b := by
  have v := Clk.even_valid n0 top (c := (n : Int)) (by omega) (Int.le_refl _)
  have full : ∀ {f : Int → Int}, (∀ x, f (x % (n : Int)) = f x) → ∀ x, Clk.th (evn n (n : Int)) f x = Clk.Sum n f := fun pf x => Clk.th_full n0 pf x
  refine ⟨?_, fun p hp => ?_⟩
  · refine begins_feas (f := fun x => if x % (n : Int) = 0 then b else 0) v (fun x => ?_) (fun x => ?_) ?_ fun x hx => ?_
    · rw [evn_len, Int.emod_emod_of_dvd _ (Int.dvd_refl _)]
    · show 0 ≤ if x % (n : Int) = 0 then b else 0
      split <;> omega
    · rw [evn_len, Clk.Sum_congr (g := Stl.upI (fun _ => 0) (0 : Nat) b) fun i hi => ?_, Sum_upI, if_pos n0, Clk.Sum_nil]
      · show (0 : Int) - 0 + b = b
        omega
      · show (if (i : Int) % (n : Int) = 0 then b else 0) = _
        rw [Int.emod_eq_of_lt (by omega) (by omega)]
        by_cases z : (i : Int) = 0
        · rw [if_pos z, z]
          exact (Stl.upI_same).symm
        · rw [if_neg z, Stl.upI_ne (show ¬ (i : Int) = ((0 : Nat) : Int) by omega)]
    · rw [evn_len] at hx
      rw [full fun x => by rw [Int.emod_emod_of_dvd _ (Int.dvd_refl _)]]
      rw [Clk.Sum_congr (g := Stl.upI (fun _ => 0) (0 : Nat) b) fun i hi => ?_, Sum_upI, if_pos n0, Clk.Sum_nil]
      · show g x ≤ (0 : Int) - 0 + b
        have := h x hx
        omega
      · show (if (i : Int) % (n : Int) = 0 then b else 0) = _
        rw [Int.emod_eq_of_lt (by omega) (by omega)]
        by_cases z : (i : Int) = 0
        · rw [if_pos z, z]
          exact (Stl.upI_same).symm
        · rw [if_neg z, Stl.upI_ne (show ¬ (i : Int) = ((0 : Nat) : Int) by omega)]
  · obtain ⟨f, pf, f0, sp, en⟩ := feas_begins v hp
    rw [evn_len] at pf sp en
    have z := en j
    rw [Int.emod_eq_of_lt (by omega) (by omega), full pf, sp, e] at z
    exact z
theorem min_hours (n0 : 0 < n) (top : n ≤ 48) (low : ∀ x : Nat, x < n → 0 ≤ g x) : Min (evn n 1) g (Clk.Sum n g) := by
  have v := Clk.even_valid n0 top (c := 1) (by omega) (by omega)
  refine ⟨?_, fun p hp => ?_⟩
  · have z := total_feas (g := g) v fun x hx => low x (by rwa [evn_len] at hx)
    rwa [evn_len] at z
  · obtain ⟨f, pf, f0, sp, en⟩ := feas_begins v hp
    rw [evn_len] at pf sp en
    rw [← sp]
    refine Sum_le2 fun i hi => ?_
    have z := en i
    rw [Int.emod_eq_of_lt (by omega) (by omega)] at z
    exact Int.le_trans z (Int.le_of_eq (Clk.th_hour n0 f i))
/-- one more needed at one hour: at most one more -/
theorem min_up {ns : List Int} {c c' : Int} {j : Nat} (v : Clk.Valid ns) (hj : j < ns.length) {d : Int} (d0 : 0 ≤ d) (d1 : d ≤ 1) (m : Min ns g c) (m' : Min ns (Stl.upI g j (g j + d)) c') : c ≤ c' ∧ c' ≤ c + 1 := by
  refine ⟨m.2 _ (feas_less (fun x hx => ?_) m'.1), m'.2 _ ?_⟩
  · by_cases e : (x : Int) = j
    · rw [e, Stl.upI_same]
      omega
    · rw [Stl.upI_ne e]
      exact Int.le_refl _
  · have u := total_feas (g := Stl.upI (fun _ => 0) j 1) v fun x _ => by
      by_cases e : (x : Int) = j
      · rw [e, Stl.upI_same]
        decide
      · rw [Stl.upI_ne e]
        exact Int.le_refl _
    rw [Sum_upI, if_pos hj, Clk.Sum_nil] at u
    have z := feas_add m.1 u
    refine feas_less (fun x _ => ?_) z
    by_cases e : (x : Int) = j
    · rw [e, Stl.upI_same]
      show _ ≤ g j + Stl.upI (fun _ => 0) (j : Int) 1 j
      rw [Stl.upI_same]
      omega
    · rw [Stl.upI_ne e]
      show g x ≤ g x + Stl.upI (fun _ => 0) (j : Int) 1 x
      rw [Stl.upI_ne e]
      omega
end
end Hn

/-! RingS -/
/-! rings of different hours suffice -/
namespace Hn
open PySem L2
section
variable {ns : List Int} {g : Int → Int}
theorem lastH_app : ∀ {h : Int} {a : List Int} {x : Int} {c : List Int}, lastH h (a ++ x :: c) = lastH x c
  | _, [], _, _ => rfl
  | _, _ :: a, _, _ => lastH_app (a := a)
theorem hops_app : ∀ (h : Int) (a b : List Int), hops ns h (a ++ b) = hops ns h a + hops ns (lastH h a) b
  | h, [], b => by
    show hops ns h b = 0 + hops ns h b
    omega
  | h, k :: a, b => by
    show hop ns h k + hops ns k (a ++ b) = hop ns h k + hops ns k a + hops ns (lastH k a) b
    rw [hops_app k a b]
    omega
/-- an hour that comes twice: two rings -/
theorem hopSum_split (a b c : List Int) (x : Int) : hopSum ns (a ++ x :: (b ++ x :: c)) = hopSum ns (x :: b) + hopSum ns (a ++ x :: c) := by
  have e : lastH 0 (a ++ x :: (b ++ x :: c)) = lastH x c := by rw [lastH_app, lastH_app]
  have e2 : lastH 0 (a ++ x :: c) = lastH x c := lastH_app
  unfold hopSum
  rw [e, e2, hops_app, hops_app]
  show _ + (hop ns _ x + hops ns x (b ++ x :: c)) = hop ns (lastH x b) x + hops ns x b + (_ + (hop ns _ x + hops ns x c))
  rw [hops_app]
  show _ + (hop ns _ x + (_ + (hop ns (lastH x b) x + hops ns x c))) = _
  omega
theorem needS_split (a b c : List Int) (x : Int) : needS g (a ++ x :: (b ++ x :: c)) = needS g (x :: b) + needS g (a ++ x :: c) := by
  unfold needS
  simp only [List.map_append, List.map_cons, List.sum_append, List.sum_cons]
  omega
theorem windsI_split (n0 : 0 < ns.length) (a b c : List Int) (x : Int) : windsI ns (a ++ x :: (b ++ x :: c)) = windsI ns (x :: b) + windsI ns (a ++ x :: c) := by
  have h1 := windsI_mul n0 (a ++ x :: (b ++ x :: c)) (by simp)
  have h2 := windsI_mul n0 (x :: b) (by simp)
  have h3 := windsI_mul n0 (a ++ x :: c) (by simp)
  have s := hopSum_split (ns := ns) a b c x
  refine Int.eq_of_mul_eq_mul_right (show (ns.length : Int) ≠ 0 by omega) ?_
  rw [h1, Int.add_mul, h2, h3, s]
theorem bound_le (n0 : 0 < ns.length) (v : Clk.Valid ns) {r : List Int} (hr : r ≠ []) (B : Int) : boundI ns g r ≤ B ↔ needS g r ≤ B * windsI ns r := by
  have w := windsI_pos n0 v r hr
  have z := Int.le_ediv_iff_mul_le (a := -B) (b := -(needS g r)) (c := windsI ns r) (by omega)
  rw [Int.neg_mul] at z
  unfold boundI
  omega
theorem twice : ∀ {r : List Int}, ¬ r.Nodup → ∃ a x b c, r = a ++ x :: (b ++ x :: c)
  | [], h => absurd List.nodup_nil h
  | y :: t, h => by
    by_cases m : y ∈ t
    · obtain ⟨b, c, rfl⟩ := List.append_of_mem m
      exact ⟨[], y, b, c, rfl⟩
    · obtain ⟨a, x, b, c, rfl⟩ := twice fun z => h (List.nodup_cons.mpr ⟨m, z⟩)
      exact ⟨y :: a, x, b, c, rfl⟩
theorem simple_ring (n0 : 0 < ns.length) (v : Clk.Valid ns) : ∀ (k : Nat) {r : List Int}, r.length ≤ k → r ≠ [] → ∃ s, s ≠ [] ∧ s.Nodup ∧ (∀ x ∈ s, x ∈ r) ∧ boundI ns g r ≤ boundI ns g s
  | 0, r, h, hr => absurd (List.length_eq_zero_iff.mp (Nat.le_zero.mp h)) hr
  | k + 1, r, h, hr => by
    by_cases d : r.Nodup
    · exact ⟨r, hr, d, fun _ h => h, Int.le_refl _⟩
    · obtain ⟨a, x, b, c, rfl⟩ := twice d
      have l : (a ++ x :: (b ++ x :: c)).length = a.length + b.length + c.length + 2 := by
        simp only [List.length_append, List.length_cons]
        omega
      obtain ⟨s1, n1, d1, i1, b1⟩ := simple_ring n0 v k (r := x :: b) (by simp only [List.length_cons]; omega) (by simp)
      obtain ⟨s2, n2, d2, i2, b2⟩ := simple_ring n0 v k (r := a ++ x :: c) (by simp only [List.length_append, List.length_cons]; omega) (by simp)
      have w := windsI_split n0 a b c x
      have e := needS_split (g := g) a b c x
      by_cases t : boundI ns g (x :: b) ≤ boundI ns g (a ++ x :: c)
      · refine ⟨s2, n2, d2, fun y hy => ?_, Int.le_trans ((bound_le n0 v hr _).mpr ?_) b2⟩
        · have := i2 y hy
          simp only [List.mem_append, List.mem_cons] at this ⊢
          rcases this with h | h | h
          · exact .inl h
          · exact .inr (.inl h)
          · exact .inr (.inr (.inr (.inr h)))
        · rw [w, e, Int.mul_add]
          exact Int.add_le_add ((bound_le n0 v (by simp) _).mp t) ((bound_le n0 v (by simp) _).mp (Int.le_refl _))
      · refine ⟨s1, n1, d1, fun y hy => ?_, Int.le_trans ((bound_le n0 v hr _).mpr ?_) b1⟩
        · have := i1 y hy
          simp only [List.mem_append, List.mem_cons] at this ⊢
          rcases this with h | h
          · exact .inr (.inl h)
          · exact .inr (.inr (.inl h))
        · rw [w, e, Int.mul_add]
          exact Int.add_le_add ((bound_le n0 v (by simp) _).mp (Int.le_refl _)) ((bound_le n0 v (by simp) _).mp (by omega))
theorem hopSum_rot : ∀ (a b : List Int), hopSum ns (a ++ b) = hopSum ns (b ++ a)
  | [], b => by rw [List.append_nil]; rfl
  | y :: a, [] => by rw [List.append_nil]; rfl
  | y :: a, x :: b => by
    have e1 : lastH 0 ((y :: a) ++ x :: b) = lastH x b := lastH_app
    have e2 : lastH 0 ((x :: b) ++ y :: a) = lastH y a := lastH_app
    unfold hopSum
    rw [e1, e2, hops_app, hops_app]
    show hops ns (lastH x b) (y :: a) + hops ns (lastH y a) (x :: b) = hops ns (lastH y a) (x :: b) + hops ns (lastH x b) (y :: a)
    omega
theorem bound_rot (a b : List Int) : boundI ns g (a ++ b) = boundI ns g (b ++ a) := by
  have e : needS g (a ++ b) = needS g (b ++ a) := by
    unfold needS
    rw [List.map_append, List.map_append, List.sum_append, List.sum_append]
    omega
  unfold boundI windsI
  rw [hopSum_rot, e]
theorem least_of : ∀ {s : List Int}, s ≠ [] → ∃ m, m ∈ s ∧ ∀ x ∈ s, m ≤ x
  | [], h => absurd rfl h
  | [y], _ => ⟨y, List.mem_cons_self, fun x hx => by rw [List.mem_singleton.mp hx]; exact Int.le_refl _⟩
  | y :: z :: t, _ => by
    obtain ⟨m, hm, h⟩ := least_of (s := z :: t) (by simp)
    by_cases l : y ≤ m
    · exact ⟨y, List.mem_cons_self, fun x hx => by
        rcases List.mem_cons.mp hx with e | e
        · rw [e]
          exact Int.le_refl _
        · exact Int.le_trans l (h x e)⟩
    · exact ⟨m, List.mem_cons_of_mem _ hm, fun x hx => by
        rcases List.mem_cons.mp hx with e | e
        · rw [e]
          omega
        · exact h x e⟩
/-- begun at its least hour -/
theorem ring_first {s : List Int} (hs : s ≠ []) : ∃ m u, (∀ x ∈ m :: u, x ∈ s) ∧ (s.Nodup → (m :: u).Nodup) ∧ (∀ x ∈ u, m ≤ x) ∧ boundI ns g (m :: u) = boundI ns g s := by
  obtain ⟨m, hm, h⟩ := least_of hs
  obtain ⟨a, b, rfl⟩ := List.append_of_mem hm
  refine ⟨m, b ++ a, fun x hx => ?_, fun d => ?_, fun x hx => h x ?_, bound_rot (m :: b) a⟩
  · simp only [List.mem_append, List.mem_cons] at hx ⊢
    rcases hx with e | e | e
    · exact .inr (.inl e)
    · exact .inr (.inr e)
    · exact .inl e
  · exact (List.perm_append_comm (l₁ := a) (l₂ := m :: b)).nodup_iff.mp d
  · simp only [List.mem_append, List.mem_cons] at hx ⊢
    rcases hx with e | e
    · exact .inr (.inr e)
    · exact .inl e
/-- what so many cannot meet, a ring shows -/
theorem ring_ex {p : Int} (v : Clk.Valid ns) (hp : 0 ≤ p) (nf : ¬ Feas ns g p) : ∃ r : List Int, r ≠ [] ∧ (∀ k ∈ r, 0 ≤ k ∧ k < ns.length) ∧ p * windsI ns r < needS g r := by
  have n0 := v.pos
  have top := v.top
  have hin : ∀ k ∈ (stepsL ns g ns.length).map (ask p), (0 ≤ k.f ∧ k.f < ns.length) ∧ 0 ≤ k.l ∧ k.l < ns.length := fun k hk => by
    obtain ⟨j, hj, rfl⟩ := List.mem_map.mp hk
    have z := steps_in v j hj
    exact ⟨z.1, z.2.1⟩
  cases hm : (Stl.rnd ((stepsL ns g ns.length).map (ask p)) (fun _ => 0) ns.length).r with
  | none =>
    obtain ⟨r, hr⟩ : ∃ r, ns.length = r + 1 := ⟨ns.length - 1, by omega⟩
    rw [hr] at hm
    have z := (Stl.reached hm).1
    rw [← hr] at z
    exact absurd ⟨_, z⟩ nf
  | some m =>
    obtain ⟨ha, q, q0, q1, hq, _⟩ := Stl.turns hin n0 hm
    have z := Stl.round_pos (ls := (stepsL ns g ns.length).map (ask p)) (R0 := fun _ => 0) (n := ns.length) q0 (fun j => by rw [← Stl.bk_add]; exact ha _) hq
    have y := rnd_ring (g := g) (p := p) n0 v hp (nms := (Stl.bl (Stl.rnd ((stepsL ns g ns.length).map (ask p)) (fun _ => 0) ns.length).T (Stl.bk (Stl.rnd ((stepsL ns g ns.length).map (ask p)) (fun _ => 0) ns.length).T m ns.length) q).reverse.map Stl.Lk.nm) ⟨_, _, rfl, fun e => by
      have := z.2.2
      rw [e] at this
      exact absurd this (Int.lt_irrefl 0), by
      rw [List.length_reverse]
      have := Stl.bl_len (T := (Stl.rnd ((stepsL ns g ns.length).map (ask p)) (fun _ => 0) ns.length).T) (m := Stl.bk (Stl.rnd ((stepsL ns g ns.length).map (ask p)) (fun _ => 0) ns.length).T m ns.length) q
      omega, z.1, z.2.1, z.2.2⟩
    exact ⟨_, y⟩
/-- the greatest bound of rings of different hours is the least number of people -/
theorem ring_min (v : Clk.Valid ns) (low : ∀ x : Nat, x < ns.length → 0 ≤ g x) {b : Int} (mn : Min ns g b) : (∀ r : List Int, r ≠ [] → (∀ k ∈ r, 0 ≤ k ∧ k < ns.length) → boundI ns g r ≤ b) ∧ ∃ (m : Int) (u : List Int), (∀ k ∈ m :: u, 0 ≤ k ∧ k < ns.length) ∧ (m :: u).Nodup ∧ (∀ x ∈ u, m ≤ x) ∧ boundI ns g (m :: u) = b := by
  have n0 := v.pos
  have all : ∀ r : List Int, r ≠ [] → (∀ k ∈ r, 0 ≤ k ∧ k < ns.length) → boundI ns g r ≤ b := fun r hr hin => by
    obtain ⟨R, hR⟩ := mn.1
    have z := feas_ring n0 hR hr hin
    rw [Int.mul_comm] at z
    exact (bound_le n0 v hr b).mpr z
  refine ⟨all, ?_⟩
  have some_ : ∃ r : List Int, r ≠ [] ∧ (∀ k ∈ r, 0 ≤ k ∧ k < ns.length) ∧ b ≤ boundI ns g r := by
    by_cases b0 : b ≤ 0
    · refine ⟨[0], by simp, fun k hk => by rw [List.mem_singleton.mp hk]; omega, ?_⟩
      have z := (bound_le (g := g) n0 v (r := [0]) (by simp) (-1)).mp
      have w := windsI_pos n0 v [0] (by simp)
      have g0 : needS g [0] = g (0 : Nat) := by
        show g 0 + 0 = g 0
        omega
      have := low 0 n0
      by_cases c : boundI ns g [0] ≤ -1
      · have := z c
        omega
      · omega
    · obtain ⟨r, hr, hin, h⟩ := ring_ex (g := g) v (p := b - 1) (by omega) fun f => by
        have := mn.2 _ f
        omega
      refine ⟨r, hr, hin, ?_⟩
      by_cases c : boundI ns g r ≤ b - 1
      · have := (bound_le n0 v hr _).mp c
        omega
      · omega
  obtain ⟨r, hr, hin, hb⟩ := some_
  obtain ⟨s, s0, sd, si, sb⟩ := simple_ring (g := g) n0 v r.length (Nat.le_refl _) hr
  obtain ⟨m, u, h1, h2, h3, h4⟩ := ring_first (ns := ns) (g := g) s0
  have hin' : ∀ k ∈ m :: u, 0 ≤ k ∧ k < ns.length := fun k hk => hin _ (si _ (h1 _ hk))
  exact ⟨m, u, hin', h2 sd, h3, Int.le_antisymm (all _ (by simp) hin') (by omega)⟩
end
end Hn

/-! Few -/
/-! the least number of people as a value -/
namespace Hn
open PySem L2 Evl
section
variable {K : PySem.W.Frag} {CC CN : Addr} {n : Nat} {σ : L2.St} {H : Hp} {ta tb tc te tx : TE} {ns : List Int} {g : Int → Int} {E E2 : XK}
theorem min_ex (v : Clk.Valid ns) (low : ∀ x : Nat, x < ns.length → 0 ≤ g x) : ∃ b, Min ns g b := by
  have all : ∀ k : Nat, Feas ns g k → ∃ b, Min ns g b := fun k => by
    induction k using Nat.strongRecOn with
    | ind k ih =>
      intro hk
      by_cases h : ∃ j : Nat, j < k ∧ Feas ns g j
      · obtain ⟨j, hj, fj⟩ := h
        exact ih j hj fj
      · refine ⟨k, hk, fun p hp => ?_⟩
        obtain ⟨j, rfl⟩ := Int.eq_ofNat_of_zero_le (feas_nonneg v hp)
        by_cases l : j < k
        · exact absurd ⟨j, l, hp⟩ h
        · omega
  have t := total_feas v low
  obtain ⟨k, hk⟩ := Int.eq_ofNat_of_zero_le (Clk.Sum_nonneg low)
  rw [hk] at t
  exact all k t
theorem ev_few {b : Int} (ha : EvC K CC ta σ H ns) (hb : EvR K CN "_row" ns.length tb σ H g) (mn : Min ns g b) : Ev (tCall (spFewest K CC CN) [] E (tCons ta (tCons tb tNil))) σ H (.int b) := fun H1 e Q q =>
  ha H1 e _ fun c H2 e2 hC => hb H2 (e.trans e2) _ fun d H3 e3 hD => ⟨c, d, ns, g, rfl, hC.same e3, hD, fun b' H4 s4 mn' => by
    rw [mn'.one mn]
    exact q H4 ((e2.trans e3).trans s4)⟩
theorem et_chain2 {i j k : Int} (ha : Ev ta σ H (.int i)) (hb : Ev tb σ H (.int j)) (hc : Ev tc σ H (.int k)) (h1 : i ≤ j) (h2 : j ≤ k) :
    EvT (tTest (tChain (rI0 fun i j => V.bl (decide (i ≤ j))) (rI0 fun i j => V.bl (decide (i ≤ j))) ta tb tc)) σ H true := fun H1 e Q q =>
  ha H1 e _ fun H2 e2 => hb H2 (e.trans e2) _ fun H3 e3 => ⟨_, _, rfl, rfl, true, congrArg V.bl (decide_eq_true h1), by
    rw [if_pos rfl]
    exact hc H3 (e.trans (e2.trans e3)) _ fun H4 e4 => ⟨_, _, rfl, rfl, true, congrArg V.bl (decide_eq_true h2), q H4 (e2.trans (e3.trans e4))⟩⟩
theorem ev_maxI {p : Addr} {l : List Int} {m : Int} (ha : Ev ta σ H (.ref p)) (hp : SqL K H p (iv l)) (hm : m ∈ l) (hl : ∀ y ∈ l, y ≤ m) : Ev (tCB (rMax K) (tCons ta tNil)) σ H (.int m) := fun H1 e Q q =>
  ha H1 e _ fun H2 e2 => ⟨p, l, rfl, ex_l (e.trans e2) hp, List.length_pos_of_mem hm, fun m' hm' hl' => by
    rw [show m' = m from Int.le_antisymm (hl _ hm') (hl' _ hm)]
    exact q H2 e2⟩
theorem at_end {xs : List V} {x : V} : atI (xs ++ [x]) (-1) = some x := by
  have e : ixN (xs ++ [x]).length (-1) = some xs.length := by
    unfold ixN
    rw [if_neg (by omega), List.length_append]
    rw [if_pos (by show -((xs.length + 1 : Nat) : Int) ≤ -1; omega)]
    congr 1
    show (-1 + ((xs.length + 1 : Nat) : Int)).toNat = xs.length
    omega
  unfold atI
  rw [e]
  show (xs ++ [x])[xs.length]? = some x
  simp
theorem ev_boundL {ring : List Int} {r : Addr} (ha : EvC K CC ta σ H ns) (hb : EvR K CN "_row" ns.length tb σ H g) (hc : Ev tc σ H (.ref r)) (hr : SqL K H r (iv ring)) (ne : ring ≠ []) (len : ring.length ≤ 2500) (hin : ∀ k ∈ ring, 0 ≤ k ∧ k < ns.length) : Ev (tCall (spBound K CC CN) [] E (tCons ta (tCons tb (tCons tc tNil)))) σ H (.int (boundI ns g ring)) := fun H1 e Q q =>
  ha H1 e _ fun c H2 e2 hC => hb H2 (e.trans e2) _ fun d H3 e3 hD => hc H3 ((e.trans e2).trans e3) _ fun H4 e4 => ⟨c, d, r, ns, ring, g, rfl, (hC.same e3).same e4, hD.same e4, ex_l (e.trans (e2.trans (e3.trans e4))) hr, ne, len, hin, fun H5 s5 => q H5 (e2.trans (e3.trans (e4.trans s5)))⟩
end
end Hn

/-! TupM -/
/-! tuple * n for n from 1 on (once is the very tuple) -/
namespace Hn
open PySem PySem.Spec L2
open PyProof.Rows hiding St
theorem tuple_mul1 (l : Addr) (items : Array Value) (n : Nat) (dd : Option Addr) (sl : Array (Option Value)) (u : Tok) (hsz : items.size ≤ 100000) :
    Meets (Builtin.«tuple.__mul__» ⟨[.ref l, .int 1 u], []⟩) (fun _ R s => s.heap.get? l = some { cls := .type "tuple", dict := dd, data := .seq items n, slots := sl } ∧ R (.ok (.ret (Value.ref l))) s) :=
  .of_wp fun prog w A R s h => by
    obtain ⟨hp, g, d, tk, os⟩ := s
    obtain ⟨hl, h⟩ := h
    have f1 := AutoSeq1.idx_int
    wp_walk using wpAny_loadPart' hl
    exact ⟨_, rfl, h⟩
/-- t * k: t for k = 1, else a new one -/
def rRepK (K : PySem.W.Frag) : R2 := fun x y H Q => ∃ l k xs, x = .ref l ∧ y = .int k ∧ SqT K H l xs ∧ xs ≠ [] ∧ 1 ≤ k ∧ k ≤ 1000 ∧ xs.length ≤ 1000 ∧ (k = 1 → Q (.ref l) H) ∧ (2 ≤ k → ∀ p, H p = none → Q (.ref p) (upd H p (.tup (List.replicate k.toNat xs).flatten)))
theorem K_repT {X : Cx} {K : PySem.W.Frag} (hK : X.K = K) : OpR X (binaryOp .Mult) (rRepK K) := by
  subst hK
  intro pins s σ H x y v u Q I rx ry h
  obtain ⟨l, k, xs, rfl, rfl, hT, hne, h1, h2, hz, q1, q2⟩ := h
  by_cases k2 : 2 ≤ k
  · exact op_repT pins s σ H _ _ v u Q I rx ry ⟨l, k, xs, rfl, rfl, hT, hne, k2, h2, hz, q2 k2⟩
  · obtain rfl : k = 1 := by omega
    cases rx
    obtain ⟨t, rfl⟩ := ry
    obtain ⟨its, r, ⟨⟨cls, dd, data, sl⟩, ho, hc, n, hd⟩, hs⟩ := I.tuple hT
    simp only at hc hd
    subst hc hd
    have hle : its.length = xs.length := r.length.symm
    refine wpAny_binaryOp_repeat_ref (T := "tuple") (U := "int") (by decide) ⟨_, ho, rfl⟩ (fun s' => typeIs_int s' 1 t) noFill_tuple_mul F.fills_int_mul F.slot_int_rmul repeat_tuple F.slot_int_index.lookup
      (call_meets F.slot_int_rmul (typeIs_int s 1 t) F.entry_int_rmul (F.args_int_rmul_2 _ _) (int_rmul_tuple 1 t l its.toArray n dd sl)
        ⟨ho, rfl, ⟨_, ho, rfl⟩, call_meets F.slot_tuple_mul ⟨_, ho, rfl⟩ F.entry_tuple_mul (F.args_tuple_mul_2 _ _) (tuple_mul1 l its.toArray n dd sl t (by rw [List.size_toArray]; omega)) ⟨ho, ?_⟩⟩)
    exact ⟨.ref l, H, I, rfl, q1 rfl⟩
end Hn

/-! Hs -/
/-! houses: a clock, needs, and limits by the hour -/
namespace Hn
open PySem PySem.Spec L2 Evl
/-- a house: stays, needs, rooms, kept begins, doors -/
structure Hs where
  ns : List Int
  g : Int → Int
  r : Int → Option Int
  k : Int → Int
  d : Int → Option Int
abbrev Hs.n (h : Hs) : Nat := h.ns.length
structure HouseOk (h : Hs) : Prop where
  v : Clk.Valid h.ns
  g0 : ∀ i : Nat, i < h.n → 0 ≤ h.g i
  r0 : ∀ i : Nat, i < h.n → ∀ x, h.r i = some x → 0 ≤ x
  k0 : ∀ i : Nat, i < h.n → 0 ≤ h.k i
  d0 : ∀ i : Nat, i < h.n → ∀ x, h.d i = some x → 0 ≤ x
/-- a row of numbers that may lack -/
abbrev ovR (n : Nat) (f : Int → Option Int) : List V := (List.range n).map fun i : Nat => oV (f (i : Int))
theorem ovR_len {n : Nat} {f : Int → Option Int} : (ovR n f).length = n := by rw [List.length_map, List.length_range]
theorem ovR_get {n : Nat} {f : Int → Option Int} {i : Nat} (h : i < n) : (ovR n f)[i]? = some (oV (f (i : Int))) := by
  unfold ovR
  rw [List.getElem?_map, List.getElem?_range h]
  rfl
theorem at_ov {n : Nat} {f : Int → Option Int} {i : Int} (h0 : 0 ≤ i) (h1 : i < n) : atI (ovR n f) i = some (oV (f i)) := by
  obtain ⟨k, rfl⟩ := Int.eq_ofNat_of_zero_le h0
  exact atI_nat (ovR_get (by omega))
structure HouseAt (K : PySem.W.Frag) (CH CC CN : Addr) (H : Hp) (p : Addr) (h : Hs) : Prop where
  ok : HouseOk h
  ex : ∃ dx c f tr tk td : Addr, H p = some (.ins CH dx [("_clock", .ref c), ("_needs", .ref f), ("_rooms", .ref tr), ("_kept", .ref tk), ("_doors", .ref td)]) ∧ ClkAt K CC H c h.ns ∧ RowAt K CN "_row" H f (Clk.row h.n h.g) ∧
    SqT K H tr (ovR h.n h.r) ∧ SqT K H tk (iv (Clk.row h.n h.k)) ∧ SqT K H td (ovR h.n h.d)
section
variable {K : PySem.W.Frag} {CH CC CN b : Addr} {H H' : Hp} {p : Addr} {h : Hs}
theorem HouseAt.same (x : HouseAt K CH CC CN H p h) (e : Same H H') : HouseAt K CH CC CN H' p h := by
  obtain ⟨dx, c, f, tr, tk, td, h1, h2, h3, h4, h5, h6⟩ := x.ex
  exact ⟨x.ok, dx, c, f, tr, tk, td, e _ _ h1, h2.same e, h3.same e, Same.set e h4, Same.set e h5, Same.set e h6⟩
theorem sqT_but {a : Addr} {xs : List V} (g : ∃ ys, H b = some (.lst ys)) (e : But b H H') (h : SqT K H a xs) : SqT K H' a xs := by
  obtain ⟨ys, hb⟩ := g
  rcases h with (h | ⟨o, h⟩) | h
  · exact .inl (.inl (e _ _ (ne_of h hb fun z => nomatch z) h))
  · exact .inl (.inr ⟨o, e _ _ (ne_of h hb fun z => nomatch z) h⟩)
  · exact .inr h
theorem HouseAt.but (x : HouseAt K CH CC CN H p h) (g : ∃ ys, H b = some (.lst ys)) (e : But b H H') : HouseAt K CH CC CN H' p h := by
  obtain ⟨dx, c, f, tr, tk, td, h1, h2, h3, h4, h5, h6⟩ := x.ex
  obtain ⟨ys, hb⟩ := id g
  exact ⟨x.ok, dx, c, f, tr, tk, td, e _ _ (ne_of h1 hb fun z => nomatch z) h1, h2.but g e, h3.but g e, sqT_but g e h4, sqT_but g e h5, sqT_but g e h6⟩
theorem HouseAt.drew (x : HouseAt K CH CC CN H p h) (g : Bag H b) (e : Drew b H H') : HouseAt K CH CC CN H' p h := x.but g.lst e.but
end
theorem flat_rep1 (d : V) : ∀ n : Nat, (List.replicate n [d]).flatten = List.replicate n d
  | 0 => rfl
  | n + 1 => by
    rw [List.replicate_succ, List.flatten_cons, flat_rep1 d n, List.replicate_succ]
    rfl
/-- what is handed in for a row of limits: the row, or nothing where all are alike -/
def OptAt (K : PySem.W.Frag) (H : Hp) (x : V) (xs : List V) (dflt : V) : Prop := (x = .non ∧ xs = List.replicate xs.length dflt) ∨ ∃ a, x = .ref a ∧ (SqL K H a xs ∨ SqT K H a xs)
theorem seq_same {K : PySem.W.Frag} {H H' : Hp} {a : Addr} {xs : List V} (e : Same H H') (h : SqL K H a xs ∨ SqT K H a xs) : SqL K H' a xs ∨ SqT K H' a xs := h.elim (fun h => .inl (e.seq h)) fun h => .inr (Same.set e h)
theorem OptAt.same {K : PySem.W.Frag} {H H' : Hp} {x : V} {xs : List V} {d : V} (e : Same H H') (h : OptAt K H x xs d) : OptAt K H' x xs d := by
  rcases h with h | ⟨a, h1, h2⟩
  · exact .inl h
  · exact .inr ⟨a, h1, seq_same e h2⟩
/-! ### an object that is being made at b: all but it stays -/
section
variable {K : PySem.W.Frag} {b C dx : Addr} {H H' : Hp}
theorem sqT_butI {a : Addr} {xs : List V} {fs : List (Str × V)} (g : H b = some (.ins C dx fs)) (e : But b H H') (h : SqT K H a xs) : SqT K H' a xs := by
  rcases h with (h | ⟨o, h⟩) | h
  · exact .inl (.inl (e _ _ (ne_of h g fun z => nomatch z) h))
  · exact .inl (.inr ⟨o, e _ _ (ne_of h g fun z => nomatch z) h⟩)
  · exact .inr h
theorem sqL_butI {a : Addr} {xs : List V} {fs : List (Str × V)} (g : H b = some (.ins C dx fs)) (e : But b H H') (h : SqL K H a xs) : SqL K H' a xs := by
  rcases h with (h | ⟨o, h⟩) | h
  · exact .inl (.inl (e _ _ (ne_of h g fun z => nomatch z) h))
  · exact .inl (.inr ⟨o, e _ _ (ne_of h g fun z => nomatch z) h⟩)
  · exact .inr h
theorem clk_butI {CC c : Addr} {ns : List Int} (g : H b = some (.ins C dx [])) (e : But b H H') (x : ClkAt K CC H c ns) : ClkAt K CC H' c ns := by
  obtain ⟨dy, t, h1, h2⟩ := x.ex
  exact ⟨x.ok, dy, t, e _ _ (ne_of h1 g fun z => nomatch z) h1, sqT_butI g e h2⟩
theorem row_butI {CN f : Addr} {fn : Str} {ns : List Int} (g : H b = some (.ins C dx [])) (e : But b H H') (x : RowAt K CN fn H f ns) : RowAt K CN fn H' f ns := by
  obtain ⟨dy, t, h1, h2⟩ := x.ex
  exact ⟨x.pos, x.top, x.low, dy, t, e _ _ (ne_of h1 g fun z => nomatch z) h1, sqT_butI g e h2⟩
theorem opt_butI {x d : V} {xs : List V} (g : H b = some (.ins C dx [])) (e : But b H H') (h : OptAt K H x xs d) : OptAt K H' x xs d := by
  rcases h with h | ⟨a, h1, h2⟩
  · exact .inl h
  · exact .inr ⟨a, h1, h2.elim (fun h => .inl (sqL_butI g e h)) fun h => .inr (sqT_butI g e h)⟩
end
section
variable {K : PySem.W.Frag} {σ : L2.St} {H : Hp} {ta tb te th : TE} {D : Ends} {tz : TS} {E : XK}
/-- isinstance(o, C) of an object of C -/
theorem ev_isiC {a C dx : Addr} {fs : List (Str × V)} (ha : Ev ta σ H (.ref a)) (hi : H a = some (.ins C dx fs)) (cl : Cls K C) (ic : PySem.W.findIn K (.ref C) "__class__" = some (some (.builtin "object.__class__"))) (ig : PySem.W.specialIn K (.builtin "object.__class__") "__get__" = some (some (.builtin "getset_descriptor.__get__")))
    (it : PySem.W.takesIn K (.builtin "object.__class__") = some true) (ob : PySem.W.mroIn K C (.type "object") = some true) : Ev (tCB (rIsi K) (tCons ta (tCons (tC (.ref C)) tNil))) σ H (.bl true) := fun H1 e Q q =>
  ha H1 e _ fun H2 e2 => ⟨.ref a, .ref C, .ref C, .ref C, true, rfl, .own _, .base (.ins ((e.trans e2) _ _ hi) cl ic ig it ob), kit_self _ _, q H2 e2⟩
abbrev rNotN : R2 := fun x y H Q => y = V.non ∧ Q (V.bl (!decide (x = V.non))) H
theorem ev_notN {x : V} (h : Ev ta σ H x) : Ev (tOp rNotN ta (tC .non)) σ H (.bl (!decide (x = .non))) := fun H1 e Q q => h H1 e _ fun H2 e2 => ⟨rfl, q H2 e2⟩
abbrev rIsN : R2 := fun x y H Q => y = V.non ∧ Q (V.bl (decide (x = V.non))) H
theorem ev_isN {x : V} (h : Ev ta σ H x) : Ev (tOp rIsN ta (tC .non)) σ H (.bl (decide (x = .non))) := fun H1 e Q q => h H1 e _ fun H2 e2 => ⟨rfl, q H2 e2⟩
theorem et_optL {sp : Sp} {x d : V} {xs : List V} {n : Nat} (hx : Ev ta σ H x) (hh : Ev th σ H (.int (n : Nat))) (ho : OptAt K H x xs d) (hs : ∀ a H', Ex H H' → (SqL K H' a xs ∨ SqT K H' a xs) → ∀ (Q : VK) (E : XK), (∀ H2, Ex H' H2 → Q (.bl true) H2) → sp [.int (n : Nat), .ref a] H' Q E) :
    EvT (tAnd (tTest (tOp rNotN ta (tC .non))) (tNot (tB (tCall sp [] E (tCons th (tCons ta tNil)))))) σ H false := by
  rcases ho with ⟨rfl, _⟩ | ⟨a, rfl, ha⟩
  · exact et_is (et_and (a := false) (b := false) (et_test (ev_notN hx)) fun z => nomatch z) rfl
  · exact et_is (et_and (a := true) (b := false) (et_test (ev_notN hx)) fun _ => et_not (a := true) (et_B (ev_call (ea_cons hh (ea_cons hx ea_nil)) fun H1 e1 Q k E => hs a H1 e1 (seq_same e1 ha) Q E k))) rfl
theorem q_fld {v : V} {p C dx : Addr} {f : Str} {fs : List (Str × V)} (he : Ev te σ H v) (hs : Ev ta σ H (.ref p)) (hp : H p = some (.ins C dx fs)) (cl : Cls K C) (na : NoAttr K C f) (hl : fs.length < 1000) (k : ∀ H1, Ex H H1 → tz D σ (upd H1 p (.ins C dx (putF f v fs)))) : tSeq (sFld K ta te f) tz D σ H :=
  he H (Ex.refl H) _ fun H1 e1 => hs H1 e1 _ fun H2 e2 => ⟨p, C, dx, fs, rfl, (e1.trans e2) _ _ hp, cl, na, hl, k H2 (e1.trans e2)⟩
end
def spAreLimits (K : PySem.W.Frag) : Sp := fun vs H Q _ => ∃ (n : Int) (a : Addr) (xs : List V), vs = [.int n, .ref a] ∧ (SqL K H a xs ∨ SqT K H a xs) ∧ (xs.length : Int) = n ∧ xs.length ≤ 10000 ∧ (∀ x ∈ xs, x = .non ∨ ∃ i, x = .int i ∧ 0 ≤ i) ∧ ∀ H', Same H H' → Q (.bl true) H'
def spFilled (K : PySem.W.Frag) : Sp := fun vs H Q _ => ∃ (n : Nat) (x d : V) (xs : List V), vs = [.int (n : Nat), x, d] ∧ OptAt K H x xs d ∧ xs.length = n ∧ 0 < n ∧ n ≤ 100 ∧ ∀ t H', Same H H' → SqT K H' t xs → Q (.ref t) H'
def spHouseInit (K : PySem.W.Frag) (CH CC CN : Addr) : Sp := fun vs H Q _ => ∃ (p dx c f : Addr) (x y z : V) (h : Hs), vs = [.ref p, .ref c, .ref f, x, y, z] ∧ H p = some (.ins CH dx []) ∧ HouseOk h ∧ ClkAt K CC H c h.ns ∧ RowAt K CN "_row" H f (Clk.row h.n h.g) ∧
  OptAt K H x (ovR h.n h.r) .non ∧ OptAt K H y (iv (Clk.row h.n h.k)) (.int 0) ∧ OptAt K H z (ovR h.n h.d) .non ∧ ∀ H' : Hp, (∀ b o, b ≠ p → H b = some o → H' b = some o) → HouseAt K CH CC CN H' p h → Q .non H'
def spHsHours (K : PySem.W.Frag) (CH CC CN : Addr) : Sp := fun vs H Q _ => ∃ (p : Addr) (h : Hs), vs = [.ref p] ∧ HouseAt K CH CC CN H p h ∧ Q (.int (h.n : Nat)) H
def spHsClock (K : PySem.W.Frag) (CH CC CN : Addr) : Sp := fun vs H Q _ => ∃ (p : Addr) (h : Hs), vs = [.ref p] ∧ HouseAt K CH CC CN H p h ∧ ∀ c, ClkAt K CC H c h.ns → Q (.ref c) H
def spHsNeeds (K : PySem.W.Frag) (CH CC CN : Addr) : Sp := fun vs H Q _ => ∃ (p : Addr) (h : Hs), vs = [.ref p] ∧ HouseAt K CH CC CN H p h ∧ ∀ c, RowAt K CN "_row" H c (Clk.row h.n h.g) → Q (.ref c) H
/-- rooms(), kept(), doors(): a new list -/
def spHsRow (K : PySem.W.Frag) (CH CC CN : Addr) (row : Hs → List V) : Sp := fun vs H Q _ => ∃ (p : Addr) (h : Hs), vs = [.ref p] ∧ HouseAt K CH CC CN H p h ∧ ∀ l, H l = none → Q (.ref l) (upd H l (.lst (row h)))
end Hn

/-! Stp -/
/-! the steps of a house, and the table of them -/
namespace Hn
open PySem PySem.Spec L2 Evl
/-- a step and what is told of it -/
structure Tld where
  w : Str
  h : Int
  f : Int
  l : Int
  len : Int
  val : Int
def Tld.key (t : Tld) : List Key := [.inr t.w, .inl t.h]
def Tld.row (t : Tld) : List V := [.int t.f, .int t.l, .int t.len, .int t.val]
def Tld.two (t : Tld) : List V := [.str t.w, .int t.h]
theorem Tld.two_key (t : Tld) : t.two = t.key.map kV := rfl
def Hs.doorT (h : Hs) (i : Nat) : Option Tld := (h.d i).map fun x => ⟨"door", i, ((i : Int) + 1) % (h.n : Int), i, -1, -x⟩
def Hs.keepT (h : Hs) (i : Nat) : Option Tld := some ⟨"keep", i, i, ((i : Int) + 1) % (h.n : Int), 1, h.k i⟩
def Hs.needT (h : Hs) (i : Nat) : Option Tld := some ⟨"need", i, ((i : Int) + 1 - Clk.wd h.ns i) % (h.n : Int), ((i : Int) + 1) % (h.n : Int), Clk.wd h.ns i, h.g i⟩
def Hs.roomT (h : Hs) (i : Nat) : Option Tld := (h.r i).map fun x => ⟨"room", i, ((i : Int) + 1) % (h.n : Int), ((i : Int) + 1 - Clk.wd h.ns i) % (h.n : Int), -(Clk.wd h.ns i : Int), -x⟩
/-- so many hours' steps of one word -/
abbrev upto (f : Nat → Option Tld) (i : Nat) : List Tld := (List.range i).filterMap f
def Hs.told (h : Hs) : List Tld := upto h.doorT h.n ++ upto h.keepT h.n ++ upto h.needT h.n ++ upto h.roomT h.n
/-- f's steps are those of this word, each of its own hour -/
def Named (w : Str) (f : Nat → Option Tld) : Prop := ∀ i t, f i = some t → t.w = w ∧ t.h = (i : Int)
theorem named_door (h : Hs) : Named "door" h.doorT := fun i t e => by
  obtain ⟨x, _, rfl⟩ := Option.map_eq_some_iff.mp e
  exact ⟨rfl, rfl⟩
theorem named_keep (h : Hs) : Named "keep" h.keepT := fun i t e => by
  obtain rfl := Option.some.inj e
  exact ⟨rfl, rfl⟩
theorem named_need (h : Hs) : Named "need" h.needT := fun i t e => by
  obtain rfl := Option.some.inj e
  exact ⟨rfl, rfl⟩
theorem named_room (h : Hs) : Named "room" h.roomT := fun i t e => by
  obtain ⟨x, _, rfl⟩ := Option.map_eq_some_iff.mp e
  exact ⟨rfl, rfl⟩
theorem upto_next (f : Nat → Option Tld) (i : Nat) : upto f (i + 1) = upto f i ++ (f i).toList := by
  unfold upto
  rw [List.range_succ, List.filterMap_append]
  congr 1
theorem upto_len (f : Nat → Option Tld) (i : Nat) : (upto f i).length ≤ i := Nat.le_trans (List.length_filterMap_le _ _) (by rw [List.length_range]; exact Nat.le_refl _)
theorem mem_upto {f : Nat → Option Tld} {n : Nat} {t : Tld} : t ∈ upto f n ↔ ∃ i, i < n ∧ f i = some t := by
  unfold upto
  rw [List.mem_filterMap]
  constructor
  · rintro ⟨i, hi, e⟩
    exact ⟨i, List.mem_range.mp hi, e⟩
  · rintro ⟨i, hi, e⟩
    exact ⟨i, List.mem_range.mpr hi, e⟩
theorem told_len (h : Hs) : h.told.length ≤ 4 * h.n := by
  unfold Hs.told
  rw [List.length_append, List.length_append, List.length_append]
  have a := upto_len h.doorT h.n
  have b := upto_len h.keepT h.n
  have c := upto_len h.needT h.n
  have d := upto_len h.roomT h.n
  omega
/-! ### the table -/
/-- these entries tell these steps -/
def TabL (H : Hp) : List Tld → List (List Key × V) → Prop
  | [], [] => True
  | t :: L, (k, v) :: kvs => k = t.key ∧ (∃ a, v = .ref a ∧ H a = some (.tup t.row)) ∧ TabL H L kvs
  | _, _ => False
theorem TabL.len {H : Hp} : ∀ {L : List Tld} {kvs : List (List Key × V)}, TabL H L kvs → kvs.length = L.length
  | [], [], _ => rfl
  | _ :: _, (_, _) :: _, h => congrArg (· + 1) h.2.2.len
  | [], _ :: _, h => h.elim
  | _ :: _, [], h => h.elim
theorem TabL.mono {H H' : Hp} (e : ∀ a xs, H a = some (.tup xs) → H' a = some (.tup xs)) : ∀ {L : List Tld} {kvs : List (List Key × V)}, TabL H L kvs → TabL H' L kvs
  | [], [], _ => trivial
  | _ :: _, (_, _) :: _, ⟨h1, ⟨a, h2, h3⟩, h4⟩ => ⟨h1, ⟨a, h2, e _ _ h3⟩, h4.mono e⟩
  | [], _ :: _, h => h.elim
  | _ :: _, [], h => h.elim
theorem TabL.snoc {H : Hp} {t : Tld} {a : Addr} (ha : H a = some (.tup t.row)) : ∀ {L : List Tld} {kvs : List (List Key × V)}, TabL H L kvs → TabL H (L ++ [t]) (kvs ++ [(t.key, .ref a)])
  | [], [], _ => ⟨rfl, ⟨a, rfl, ha⟩, trivial⟩
  | _ :: _, (_, _) :: _, ⟨h1, h2, h3⟩ => ⟨h1, h2, h3.snoc ha⟩
  | [], _ :: _, h => h.elim
  | _ :: _, [], h => h.elim
theorem key_eq {s t : Tld} : s.key = t.key ↔ s.w = t.w ∧ s.h = t.h := by
  unfold Tld.key
  constructor
  · intro h
    injection h with h1 h2
    injection h2 with h3
    exact ⟨Sum.inr.inj h1, Sum.inl.inj h3⟩
  · rintro ⟨h1, h2⟩
    rw [h1, h2]
/-- what the table says of a key -/
theorem TabL.look {H : Hp} {w : Str} {h : Int} : ∀ {L : List Tld} {kvs : List (List Key × V)}, TabL H L kvs → (∃ t ∈ L, t.w = w ∧ t.h = h ∧ ∃ a, valV kvs [.inr w, .inl h] = some (.ref a) ∧ H a = some (.tup t.row)) ∨ ((∀ t ∈ L, ¬ (t.w = w ∧ t.h = h)) ∧ valV kvs [.inr w, .inl h] = none)
  | [], [], _ => .inr ⟨(fun t ht => nomatch ht), rfl⟩
  | t :: L, (k, v) :: kvs, ⟨h1, ⟨a, h2, h3⟩, h4⟩ => by
    subst h1 h2
    by_cases e : t.w = w ∧ t.h = h
    · obtain ⟨rfl, rfl⟩ := e
      exact .inl ⟨t, List.mem_cons_self, rfl, rfl, a, valV_pos rfl, h3⟩
    · have ne : ¬ t.key = [Sum.inr w, Sum.inl h] := fun z => by
        unfold Tld.key at z
        injection z with z1 z2
        injection z2 with z3
        exact e ⟨Sum.inr.inj z1, Sum.inl.inj z3⟩
      rw [valV_neg ne]
      rcases h4.look (w := w) (h := h) with ⟨s, hs, e1, e2, b, e3, e4⟩ | ⟨n1, n2⟩
      · exact .inl ⟨s, List.mem_cons_of_mem _ hs, e1, e2, b, e3, e4⟩
      · refine .inr ⟨fun s hs => ?_, n2⟩
        rcases List.mem_cons.mp hs with rfl | hs
        · exact e
        · exact n1 s hs
  | [], _ :: _, h => h.elim
  | _ :: _, [], h => h.elim
def TabAt (H : Hp) (p : Addr) (L : List Tld) : Prop := ∃ kvs, H p = some (.dT kvs) ∧ TabL H L kvs
section
variable {K : PySem.W.Frag} {H H' : Hp} {p b : Addr} {L : List Tld}
theorem TabAt.ex (e : Ex H H') (h : TabAt H p L) : TabAt H' p L := by
  obtain ⟨kvs, h1, h2⟩ := h
  exact ⟨kvs, e _ _ h1, h2.mono fun a xs => e a _⟩
theorem TabAt.but (e : But b H H') (n : p ≠ b) (hb : ∀ xs, H b ≠ some (.tup xs)) (h : TabAt H p L) : TabAt H' p L := by
  obtain ⟨kvs, h1, h2⟩ := h
  exact ⟨kvs, e _ _ n h1, h2.mono fun a xs ha => e a _ (fun z => hb xs (by rw [← z]; exact ha)) ha⟩
end
/-! ### evaluated -/
section
variable {K : PySem.W.Frag} {σ : L2.St} {H : Hp} {ta tb td ty tv te : TE} {D : Ends} {tu tz : TS} {p : Addr} {L : List Tld} {t : Tld}
/-- table[(w, h)] = (f, l, len, val), a new key -/
theorem s_tput (hv : EvU tv σ H t.row) (hd : Ev td σ H (.ref p)) (hy : EvU ty σ H t.two) (hp : TabAt H p L) (new : ∀ s ∈ L, ¬ (s.w = t.w ∧ s.h = t.h)) (hl : L.length < 10000) (k : ∀ H', But p H H' → TabAt H' p (L ++ [t]) → D.nx σ H') : sDPut td ty tv D σ H :=
  hv H (Ex.refl H) _ fun a H1 na e1 ha => hd H1 e1 _ fun H2 e2 => hy H2 (e1.trans e2) _ fun c H3 nc e3 hc => by
    obtain ⟨kvs, h1, h2⟩ := hp
    have hp3 := (e1.trans (e2.trans e3)) _ _ h1
    have vn : valV kvs t.key = none := by
      rcases h2.look (w := t.w) (h := t.h) with ⟨s, hs, e1, e2, _⟩ | ⟨_, n⟩
      · exact absurd ⟨e1, e2⟩ (new s hs)
      · exact n
    have tu : ∀ {x : Addr} {xs : List V}, H3 x = some (.tup xs) → x ≠ p := fun hx => ne_of hx hp3 fun z => nomatch z
    refine ⟨p, _, rfl, DPut.t (k := t.key) hp3 hc (Nat.lt_of_lt_of_le (by rw [h2.len]; exact hl) (by decide)), k _ ?_ ⟨_, upd_same, ?_⟩⟩
    · exact fun x o n h => by rw [upd_ne n]; exact (e1.trans (e2.trans e3)) _ _ h
    · rw [putK_new _ vn]
      have ha3 := (e2.trans e3) _ _ ha
      exact TabL.snoc (by rw [upd_ne (tu ha3)]; exact ha3) (h2.mono fun x xs hx => by
        have hx3 := (e1.trans (e2.trans e3)) _ _ hx
        rw [upd_ne (tu hx3)]
        exact hx3)
theorem q_tput (hv : EvU tv σ H t.row) (hd : Ev td σ H (.ref p)) (hy : EvU ty σ H t.two) (hp : TabAt H p L) (new : ∀ s ∈ L, ¬ (s.w = t.w ∧ s.h = t.h)) (hl : L.length < 10000) (k : ∀ H', But p H H' → TabAt H' p (L ++ [t]) → tz D σ H') : tSeq (sDPut td ty tv) tz D σ H :=
  s_tput (D := { D with nx := tz D }) hv hd hy hp new hl k
/-- table[step] -/
theorem ev_tget {c : Addr} (hd : Ev td σ H (.ref p)) (hy : Ev ty σ H (.ref c)) (hp : TabAt H p L) (hc : H c = some (.tup t.two)) (u : ∃ s ∈ L, s.w = t.w ∧ s.h = t.h) : ∃ s ∈ L, s.w = t.w ∧ s.h = t.h ∧ ∃ a, H a = some (.tup s.row) ∧ Ev (tDGet td ty) σ H (.ref a) := by
  obtain ⟨kvs, h1, h2⟩ := hp
  obtain ⟨s0, hs0, q1, q2⟩ := u
  rcases h2.look (w := t.w) (h := t.h) with ⟨s, hs, e1, e2, a, e3, e4⟩ | ⟨n, _⟩
  · exact ⟨s, hs, e1, e2, a, e4, fun H1 e Q q => hd H1 e _ fun H2 e2 => hy H2 (e.trans e2) _ fun H3 e3' => ⟨p, _, rfl, by
      have g := DGet.t (k := t.key) ((e.trans (e2.trans e3')) _ _ h1) ((e.trans (e2.trans e3')) _ _ hc)
      rwa [show valV kvs t.key = some (.ref a) from e3] at g, q H3 (e2.trans e3')⟩⟩
  · exact absurd ⟨q1, q2⟩ (n s0 hs0)
/-- for a, b in enumerate(l), l a new list -/
theorem q_enumN {i j : Nat} {xs : List V} (h : EvL te σ H xs) (Pv : Addr → Nat → L2.St → Hp → Prop) (h0 : ∀ l H1, H l = none → Ex H H1 → H1 l = some (.lst xs) → Pv l 0 σ H1) (hl : ∀ l i σ' H', Pv l i σ' H' → SqL K H' l xs) (mono : ∀ l i σ' H' H'', Pv l i σ' H' → Ex H' H'' → Pv l i σ' H'')
    (hs : ∀ l (m : Nat) x σ' H', xs[m]? = some x → Pv l m σ' H' → tu { D with nx := Pv l (m + 1), ct := Pv l (m + 1), bk := tz D } ((σ'.set i (some (.int (m : Nat)))).set j (some x)) H') (hd : ∀ l σ' H', Pv l xs.length σ' H' → tz D σ' H') :
    tSeq (tFor (iEnum K (tCons te tNil)) (gTup K 2 (gCons (gName i) (gCons (gName j) gNil))) tu) tz D σ H :=
  h H (Ex.refl H) _ fun l H1 nl e1 hl1 => ⟨l, xs, rfl, SqL.of hl1, for_enumL (K := K) (a := l) (xs := xs) (D := { D with nx := tz D }) (Pv l) (h0 l H1 nl e1 hl1) (fun m σ' H' hp => hl l m σ' H' hp)
    (fun m hm σ' H' T hp nT => ⟨T, _, rfl, .inl (.inl upd_same), rfl, _, _, rfl, _, _, rfl, rfl, hs l m _ σ' _ (List.getElem?_eq_getElem hm) (mono l m σ' H' _ hp (Ex.new nT))⟩) (fun σ' H' hp => hd l σ' H' hp)⟩
theorem q_enumV {i j : Nat} {l : Addr} {xs : List V} (h : Ev te σ H (.ref l)) (hx : SqL K H l xs) (Pv : Nat → L2.St → Hp → Prop) (h0 : ∀ H1, Ex H H1 → Pv 0 σ H1) (hl : ∀ i σ' H', Pv i σ' H' → SqL K H' l xs) (mono : ∀ i σ' H' H'', Pv i σ' H' → Ex H' H'' → Pv i σ' H'')
    (hs : ∀ (m : Nat) x σ' H', xs[m]? = some x → Pv m σ' H' → tu { D with nx := Pv (m + 1), ct := Pv (m + 1), bk := tz D } ((σ'.set i (some (.int (m : Nat)))).set j (some x)) H') (hd : ∀ σ' H', Pv xs.length σ' H' → tz D σ' H') :
    tSeq (tFor (iEnum K (tCons te tNil)) (gTup K 2 (gCons (gName i) (gCons (gName j) gNil))) tu) tz D σ H :=
  h H (Ex.refl H) _ fun H1 e1 => ⟨l, xs, rfl, ex_l e1 hx, for_enumL (K := K) (a := l) (xs := xs) (D := { D with nx := tz D }) Pv (h0 H1 e1) (fun m σ' H' hp => hl m σ' H' hp)
    (fun m hm σ' H' T hp nT => ⟨T, _, rfl, .inl (.inl upd_same), rfl, _, _, rfl, _, _, rfl, rfl, hs m _ σ' _ (List.getElem?_eq_getElem hm) (mono m σ' H' _ hp (Ex.new nT))⟩) (fun σ' H' hp => hd σ' H' hp)⟩
/-- a, b = v, l -/
theorem q_par2LV' {i j : Nat} {x : V} {ys : List V} (ha : Ev ta σ H x) (hb : EvL tb σ H ys) (k : ∀ q H1, H q = none → Ex H H1 → H1 q = some (.lst ys) → tz D ((σ.set i (some x)).set j (some (.ref q))) H1) :
    tSeq (tAsg (tTup (tCons ta (tCons tb tNil))) (gTup K 2 (gCons (gName i) (gCons (gName j) gNil)))) tz D σ H :=
  ha H (Ex.refl H) _ fun H1 e1 => hb H1 e1 _ fun q H2 nq e2 hq => ⟨by show 2 ≤ sizeLine; decide, fun t nt => ⟨t, _, rfl, .inl (.inl upd_same), rfl, _, _, rfl, _, _, rfl, rfl, k q _ (fresh_back e1 nq) ((e1.trans e2).trans (Ex.new nt)) ((Ex.new nt) _ _ hq)⟩⟩
/-- a, b = l, l' : both are told as new -/
theorem q_parLL {i j : Nat} {xs ys : List V} (ha : EvL ta σ H xs) (hb : EvL tb σ H ys) (k : ∀ p q H1, H p = none → H q = none → Ex H H1 → H1 p = some (.lst xs) → H1 q = some (.lst ys) → tz D ((σ.set i (some (.ref p))).set j (some (.ref q))) H1) : tSeq (tPar i j (tCons ta (tCons tb tNil))) tz D σ H :=
  ha H (Ex.refl H) _ fun p H1 np e1 hp => hb H1 e1 _ fun q H2 nq e2 hq => ⟨_, _, rfl, k p q H2 np (fresh_back e1 nq) (e1.trans e2) (e2 _ _ hp) hq⟩
/-- what comes next is a new key -/
theorem new_key {w : Str} {f : Nat → Option Tld} (nm : Named w f) {L0 : List Tld} (h0 : ∀ s ∈ L0, s.w ≠ w) {i : Nat} {t : Tld} (e : f i = some t) : ∀ s ∈ L0 ++ upto f i, ¬ (s.w = t.w ∧ s.h = t.h) := fun s hs ⟨z1, z2⟩ => by
  obtain ⟨w1, w2⟩ := nm i t e
  rcases List.mem_append.mp hs with h | h
  · exact h0 s h (z1.trans w1)
  · obtain ⟨j, hj, ej⟩ := mem_upto.mp h
    obtain ⟨_, w3⟩ := nm j s ej
    omega
end
def spAllTold (K : PySem.W.Frag) (CH CC CN : Addr) : Sp := fun vs H Q _ => ∃ (p : Addr) (h : Hs), vs = [.ref p] ∧ HouseAt K CH CC CN H p h ∧ ∀ t H', H t = none → Same H H' → TabAt H' t h.told → Q (.ref t) H'
section
variable {K : PySem.W.Frag} {CH CC CN : Addr} {σ : L2.St} {H : Hp} {ta : TE} {h : Hs} {E : XK} {p : Addr}
theorem ev_hsHours (ha : Ev ta σ H (.ref p)) (hp : HouseAt K CH CC CN H p h) : Ev (tProp CH (spHsHours K CH CC CN) [] E ta) σ H (.int (h.n : Nat)) := fun H1 e Q q => ha H1 e _ fun H2 e2 => by
  have hp2 := hp.same (e.trans e2)
  obtain ⟨dx, c, f, tr, tk, td, h1, _⟩ := hp2.ex
  exact ⟨p, dx, _, rfl, h1, p, h, rfl, hp2, q H2 e2⟩
theorem ec_hsClock (ha : Ev ta σ H (.ref p)) (hp : HouseAt K CH CC CN H p h) : EvC K CC (tProp CH (spHsClock K CH CC CN) [] E ta) σ H h.ns := fun H1 e Q q => ha H1 e _ fun H2 e2 => by
  have hp2 := hp.same (e.trans e2)
  obtain ⟨dx, c, f, tr, tk, td, h1, _⟩ := hp2.ex
  exact ⟨p, dx, _, rfl, h1, p, h, rfl, hp2, fun c hc => q c H2 e2 hc⟩
theorem er_hsNeeds (ha : Ev ta σ H (.ref p)) (hp : HouseAt K CH CC CN H p h) : EvR K CN "_row" h.n (tProp CH (spHsNeeds K CH CC CN) [] E ta) σ H h.g := fun H1 e Q q => ha H1 e _ fun H2 e2 => by
  have hp2 := hp.same (e.trans e2)
  obtain ⟨dx, c, f, tr, tk, td, h1, _⟩ := hp2.ex
  exact ⟨p, dx, _, rfl, h1, p, h, rfl, hp2, fun c hc => q c H2 e2 hc⟩
theorem el_hsRow {row : Hs → List V} {m : Str} (ha : Ev ta σ H (.ref p)) (hp : HouseAt K CH CC CN H p h) (hm : ∀ c f tr tk td : Addr, List.lookup m [("_clock", V.ref c), ("_needs", .ref f), ("_rooms", .ref tr), ("_kept", .ref tk), ("_doors", .ref td)] = none) : EvL (tMeth CH m (spHsRow K CH CC CN row) [] E ta tNil) σ H (row h) := fun H1 e Q q => ha H1 e _ fun H2 e2 => by
  have hp2 := hp.same (e.trans e2)
  obtain ⟨dx, c, f, tr, tk, td, h1, _⟩ := hp2.ex
  exact ⟨p, dx, _, rfl, h1, hm c f tr tk td, p, h, rfl, hp2, fun l nl => q l _ (fresh_back e2 nl) (e2.trans (Ex.new nl)) upd_same⟩
end
end Hn

/-! Way -/
/-! ways: rows of steps, evaluated -/
namespace Hn
open PySem PySem.Spec L2 Evl
abbrev SP := Str × Int
def stO (s : SP) : HO := .tup [.str s.1, .int s.2]
def Tld.sp (t : Tld) : SP := (t.w, t.h)
/-- at l: a list of steps, each a tuple -/
def WayAt (H : Hp) (l : Addr) (ss : List SP) : Prop := ∃ as : List Addr, H l = some (.lst (as.map V.ref)) ∧ Los H as (ss.map stO)
theorem WayAt.ex {H H' : Hp} {l : Addr} {ss : List SP} (e : Ex H H') (h : WayAt H l ss) : WayAt H' l ss := by
  obtain ⟨as, h1, h2⟩ := h
  exact ⟨as, e _ _ h1, h2.ex e⟩
theorem Los.but {H H' : Hp} {b : Addr} (e : But b H H') : ∀ {as : List Addr} {os : List HO}, Los H as os → (∀ a ∈ as, a ≠ b) → Los H' as os
  | [], [], _, _ => trivial
  | a :: as, _ :: _, h, n => ⟨e _ _ (n a (List.mem_cons_self ..)) h.1, h.2.but e fun x hx => n x (List.mem_cons_of_mem _ hx)⟩
  | [], _ :: _, h, _ => h.elim
  | _ :: _, [], h, _ => h.elim
theorem Los.mem {H : Hp} : ∀ {as : List Addr} {os : List HO} {a : Addr}, Los H as os → a ∈ as → ∃ o ∈ os, H a = some o
  | a :: as, o :: os, x, h, m => by
    rcases List.mem_cons.mp m with rfl | m
    · exact ⟨o, List.mem_cons_self, h.1⟩
    · obtain ⟨o', m', e⟩ := h.2.mem m
      exact ⟨o', List.mem_cons_of_mem _ m', e⟩
  | [], _, _, _, m => nomatch m
  | _ :: _, [], _, h, _ => h.elim
theorem WayAt.but {H H' : Hp} {l b : Addr} {ss : List SP} (e : But b H H') (n : l ≠ b) (hb : ∀ xs, H b ≠ some (.tup xs)) (h : WayAt H l ss) : WayAt H' l ss := by
  obtain ⟨as, h1, h2⟩ := h
  refine ⟨as, e _ _ n h1, h2.but e fun a ha z => ?_⟩
  obtain ⟨o, ho, e⟩ := h2.mem ha
  obtain ⟨s, _, rfl⟩ := List.mem_map.mp ho
  exact hb _ (by rw [← z]; exact e)
theorem WayAt.len {H : Hp} {l : Addr} {ss : List SP} (h : WayAt H l ss) : ∃ as : List Addr, H l = some (.lst (as.map V.ref)) ∧ as.length = ss.length := by
  obtain ⟨as, h1, h2⟩ := h
  have := h2.len
  rw [List.length_map] at this
  exact ⟨as, h1, this⟩
/-- what is told of a step -/
def Hs.tell (h : Hs) (s : SP) : Option Tld := h.told.find? fun t => decide (t.w = s.1) && decide (t.h = s.2)
def Hs.tellD (h : Hs) (s : SP) : Tld := (h.tell s).getD ⟨s.1, s.2, 0, 0, 0, 0⟩
def turnsH (h : Hs) (ss : List SP) : Int := (ss.map fun s => (h.tellD s).len).sum / (h.n : Int)
def valueH (h : Hs) (ss : List SP) : Int := (ss.map fun s => (h.tellD s).val).sum
/-- the step ahead, the last one ahead of the first -/
def aheadS (ss : List SP) (i : Nat) : SP := (ss.getLastD ("", 0) :: ss).getD i ("", 0)
def chainB (h : Hs) (ss : List SP) : Bool := (List.range ss.length).all fun i => decide ((h.tellD (aheadS ss i)).l = (h.tellD (ss.getD i ("", 0))).f)
def isWayB (h : Hs) (ss : List SP) : Bool := !decide (ss = []) && (ss.all (fun s => (h.tell s).isSome) && chainB h ss)
/-- what a table says, o told of the key -/
def Says (H : Hp) (o : Option Tld) (v : Option V) : Prop := match o with
  | some t => ∃ a, v = some (.ref a) ∧ H a = some (.tup t.row)
  | none => v = none
theorem TabL.find {H : Hp} {w : Str} {x : Int} : ∀ {L : List Tld} {kvs : List (List Key × V)}, TabL H L kvs → Says H (L.find? fun t => decide (t.w = w) && decide (t.h = x)) (valV kvs [.inr w, .inl x])
  | [], [], _ => rfl
  | t :: L, (k, v) :: kvs, ⟨h1, ⟨a, h2, h3⟩, h4⟩ => by
    subst h1 h2
    by_cases e : t.w = w ∧ t.h = x
    · obtain ⟨rfl, rfl⟩ := e
      rw [List.find?_cons_of_pos (by simp)]
      exact ⟨a, valV_pos rfl, h3⟩
    · have ne : ¬ t.key = [Sum.inr w, Sum.inl x] := fun z => by
        unfold Tld.key at z
        injection z with z1 z2
        injection z2 with z3
        exact e ⟨Sum.inr.inj z1, Sum.inl.inj z3⟩
      rw [List.find?_cons_of_neg (by simpa using e), valV_neg ne]
      exact h4.find
  | [], _ :: _, h => h.elim
  | _ :: _, [], h => h.elim
section
variable {K : PySem.W.Frag} {σ : L2.St} {H : Hp} {ta tb td ty te tl : TE} {D : Ends} {tz : TS} {p c : Addr} {h : Hs} {s : SP}
/-- step in table -/
theorem ev_tin (hy : Ev ty σ H (.ref c)) (hd : Ev td σ H (.ref p)) (hp : TabAt H p h.told) (hc : H c = some (stO s)) : Ev (tDIn ty td) σ H (.bl (h.tell s).isSome) := fun H1 e Q q =>
  hy H1 e _ fun H2 e2 => hd H2 (e.trans e2) _ fun H3 e3 => by
    have e03 := e.trans (e2.trans e3)
    obtain ⟨kvs, h1, h2⟩ := hp.ex e03
    have g := DGet.t (k := [.inr s.1, .inl s.2]) h1 (e03 _ _ hc)
    have z := h2.find (w := s.1) (x := s.2)
    refine ⟨p, _, rfl, g, ?_⟩
    have q' := q H3 (e2.trans e3)
    unfold Hs.tell at q'
    cases f : h.told.find? fun t => decide (t.w = s.1) && decide (t.h = s.2) with
    | none =>
      rw [f] at z q'
      rw [z]
      exact q'
    | some t =>
      rw [f] at z q'
      obtain ⟨a, z1, _⟩ := z
      rw [z1]
      exact q'
/-- table[step], then its item -/
theorem ev_titem {i : Int} {v : V} (hd : Ev td σ H (.ref p)) (hy : Ev ty σ H (.ref c)) (hp : TabAt H p h.told) (hc : H c = some (stO s)) (hs : (h.tell s).isSome = true) (hb : ∀ H1, Ex H H1 → Ev tb σ H1 (.int i)) (hv : atI (h.tellD s).row i = some v) : Ev (tOp (rIxT K) (tDGet td ty) tb) σ H v := fun H1 e Q q =>
  hd H1 e _ fun H2 e2 => hy H2 (e.trans e2) _ fun H3 e3 => by
    have e03 := e.trans (e2.trans e3)
    obtain ⟨kvs, h1, h2⟩ := hp.ex e03
    have g := DGet.t (k := [.inr s.1, .inl s.2]) h1 (e03 _ _ hc)
    have z := h2.find (w := s.1) (x := s.2)
    unfold Hs.tellD at hv
    unfold Hs.tell at hs hv
    cases f : h.told.find? fun t => decide (t.w = s.1) && decide (t.h = s.2) with
    | none =>
      rw [f] at hs
      cases hs
    | some t =>
      rw [f] at z hv
      obtain ⟨a, z1, z2⟩ := z
      refine ⟨p, .ref a, rfl, by rw [← z1]; exact g, hb H3 e03 H3 (Ex.refl H3) _ fun H4 e4 => rv_ixT (SqT.of z2) hv H4 e4 _ fun H5 e5 => q H5 (e2.trans (e3.trans (e4.trans e5)))⟩
/-- a comprehension over enumerate(l) -/
theorem el_lcE {a : Addr} {xs : List V} {i j : Nat} (f : Nat → V) (hij : i ≠ j) (h : Ev tl σ H (.ref a)) (hx : SqL K H a xs) (hz : xs.length ≤ 10000)
    (he : ∀ (m : Nat) (x : V) H1, Ex H H1 → xs[m]? = some x → Ev te (((wipe σ [i, j]).set i (some (.int (m : Nat)))).set j (some x)) H1 (f m)) :
    EvL (tLc (iEnum K (tCons tl tNil)) (gTup K 2 (gCons (gName i) (gCons (gName j) gNil))) tYes te [i, j]) σ H ((List.range xs.length).map f) := fun H0 e Q q => h H0 e _ fun H1 e1 => ⟨a, xs, rfl, ex_l (e.trans e1) hx, fun Dl nD =>
  lc_enumL (K := K) f hij (ex_l (e.trans e1) hx) nD hz (fun m hm H2 R s2 k => he m _ H2 ((e.trans e1).trans s2) (List.getElem?_eq_getElem hm) H2 (Ex.refl H2) _ fun H3 e3 => k H3 e3) fun H2 s2 hD => q Dl H2 (fresh_back e1 nD) (e1.trans s2) hD⟩
theorem bools_given (n : Nat) (b : Nat → Bool) : given n (fun _ => true) (fun i => V.bl (b i)) = bv ((List.range n).map b) := by
  unfold given bv
  rw [List.filter_eq_self.mpr fun _ _ => rfl, List.map_map]
  rfl
/-- all([..]) -/
theorem ev_allB {bs : List Bool} (h : EvL te σ H (bv bs)) : Ev (tCB (rAll K) (tCons te tNil)) σ H (.bl (bs.all id)) := fun H1 e Q q => h H1 e _ fun l H2 _ e2 hl => ⟨l, bs, rfl, SqL.of hl, q H2 e2⟩
/-- isinstance(t, tuple), isinstance(l, list), isinstance(w, str) -/
theorem ev_isiTup {xs : List V} (ha : Ev ta σ H (.ref c)) (hc : H c = some (.tup xs)) : Ev (tCB (rIsi K) (tCons ta (tCons (tC (.ty "tuple")) tNil))) σ H (.bl true) := fun H1 e Q q =>
  ha H1 e _ fun H2 e2 => ⟨.ref c, .ty "tuple", .type "tuple", .type "tuple", true, rfl, .ty _, .base (.tup ((e.trans e2) _ _ hc)), kit_ty (by decide +kernel), q H2 e2⟩
theorem ev_isiLst {xs : List V} (ha : Ev ta σ H (.ref c)) (hc : H c = some (.lst xs)) : Ev (tCB (rIsi K) (tCons ta (tCons (tC (.ty "list")) tNil))) σ H (.bl true) := fun H1 e Q q =>
  ha H1 e _ fun H2 e2 => ⟨.ref c, .ty "list", .type "list", .type "list", true, rfl, .ty _, .base (.lst ((e.trans e2) _ _ hc)), kit_ty (by decide +kernel), q H2 e2⟩
theorem ev_isiStr {x : Str} (ha : Ev ta σ H (.str x)) : Ev (tCB (rIsi K) (tCons ta (tCons (tC (.ty "str")) tNil))) σ H (.bl true) := fun H1 e Q q =>
  ha H1 e _ fun H2 e2 => ⟨.str x, .ty "str", .type "str", .type "str", true, rfl, .ty _, .base (.str x), kit_ty (by decide +kernel), q H2 e2⟩
theorem ev_lenT {xs : List V} (ha : Ev ta σ H (.ref c)) (hc : H c = some (.tup xs)) : Ev (tCB (rLenK K) (tCons ta tNil)) σ H (.int xs.length) := fun H1 e Q q =>
  ha H1 e _ fun H2 e2 => ⟨c, xs, rfl, .inr (SqT.of ((e.trans e2) _ _ hc)), q H2 e2⟩
/-- a, b = t -/
theorem q_un2T {i j : Nat} {x y : V} (ha : Ev ta σ H (.ref c)) (hc : H c = some (.tup [x, y])) (k : ∀ H1, Ex H H1 → tz D ((σ.set i (some x)).set j (some y)) H1) : tSeq (tAsg ta (gTup K 2 (gCons (gName i) (gCons (gName j) gNil)))) tz D σ H :=
  ha H (Ex.refl H) _ fun H1 e1 => ⟨c, _, rfl, SqT.of (e1 _ _ hc), rfl, _, _, rfl, _, _, rfl, rfl, k H1 e1⟩
/-- l.extend(l'), l' a new list of new objects -/
theorem q_extBs {l : Addr} {xs : List V} {os : List HO} (hl : H l = some (.lst xs)) (ha : Ev ta σ H (.ref l)) (h : EvBs te σ H os) (hz : xs.length + os.length ≤ 10000) (k : ∀ as H1, Ex H H1 → Los H1 as os → (∀ a ∈ as, H a = none) → tz D σ (upd H1 l (.lst (xs ++ as.map V.ref)))) :
    tSeq (tDrop (tBM K "list" rExtend ta (tCons te tNil))) tz D σ H :=
  ha H (Ex.refl H) _ fun H1 e1 => ⟨.inl ⟨rfl, xs, SqL.of (e1 _ _ hl)⟩, h H1 e1 _ fun p as H2 np e2 hp hr fr => ⟨l, p, xs, as.map V.ref, rfl, rfl, (e1.trans e2) _ _ hl, hp, by
    rw [List.length_map, hr.len]
    exact sz_of (by omega), k as H2 (e1.trans e2) hr fun a ha => fresh_back e1 (fr a ha)⟩⟩
end
def spIsStep : Sp := fun vs H Q _ => ∃ (p c : Addr) (h : Hs) (s : SP), vs = [.ref p, .ref c] ∧ TabAt H p h.told ∧ H c = some (stO s) ∧ ∀ H', Ex H H' → Q (.bl (h.tell s).isSome) H'
def spIsWay (K : PySem.W.Frag) (CH CC CN : Addr) : Sp := fun vs H Q _ => ∃ (p l : Addr) (h : Hs) (ss : List SP), vs = [.ref p, .ref l] ∧ HouseAt K CH CC CN H p h ∧ WayAt H l ss ∧ ss.length ≤ 5000 ∧ ∀ H', Ex H H' → Q (.bl (isWayB h ss)) H'
def spOnWay (K : PySem.W.Frag) (CH CC CN : Addr) (g : Hs → List SP → Int) : Sp := fun vs H Q _ => ∃ (p l : Addr) (h : Hs) (ss : List SP), vs = [.ref p, .ref l] ∧ HouseAt K CH CC CN H p h ∧ WayAt H l ss ∧ ss.length ≤ 5000 ∧ (∀ s ∈ ss, (h.tell s).isSome = true) ∧ ∀ H', Ex H H' → Q (.int (g h ss)) H'
section
variable {K : PySem.W.Frag} {CH CC CN : Addr} {σ : L2.St} {H : Hp} {ta : TE} {h : Hs} {E : XK} {p : Addr}
/-- table = all_told(house) -/
theorem q_table {D : Ends} {tz : TS} {i : Nat} (ha : Ev ta σ H (.ref p)) (hp : HouseAt K CH CC CN H p h) (k : ∀ t H1, Ex H H1 → TabAt H1 t h.told → tz D (σ.set i (some (.ref t))) H1) : tSeq (tAsg (tCall (spAllTold K CH CC CN) [] E (tCons ta tNil)) (gName i)) tz D σ H :=
  ha H (Ex.refl H) _ fun H1 e1 => ⟨p, h, rfl, hp.same e1, fun t H2 _ s2 ht => k t H2 (e1.trans s2) ht⟩
end
/-! ### rings' ways -/
def keepsS (n : Nat) (b : Int) (m : Nat) : List SP := (List.range m).map fun i : Nat => (("keep" : Str), (b + (i : Int)) % (n : Int))
def hopN (h : Hs) (prev k : Int) : Nat := ((k + 1 - Clk.wd h.ns k - (prev + 1)) % (h.n : Int)).toNat
def ringS (h : Hs) : Int → List Int → List SP
  | _, [] => []
  | prev, k :: r => keepsS h.n (prev + 1) (hopN h prev k) ++ [(("need" : Str), k)] ++ ringS h k r
theorem ringS_app (h : Hs) : ∀ (a b : List Int) (prev : Int), ringS h prev (a ++ b) = ringS h prev a ++ ringS h (lastH prev a) b
  | [], _, _ => rfl
  | k :: a, b, prev => by
    show keepsS _ _ _ ++ [(("need" : Str), k)] ++ ringS h k (a ++ b) = keepsS _ _ _ ++ [(("need" : Str), k)] ++ ringS h k a ++ ringS h (lastH k a) b
    rw [ringS_app h a b k, ← List.append_assoc]
theorem hopN_le (h : Hs) (n0 : 0 < h.n) (prev k : Int) : hopN h prev k < h.n := by
  have a := Int.emod_nonneg (k + 1 - Clk.wd h.ns k - (prev + 1)) (show (h.n : Int) ≠ 0 by omega)
  have b := Int.emod_lt_of_pos (k + 1 - Clk.wd h.ns k - (prev + 1)) (show 0 < (h.n : Int) by omega)
  unfold hopN
  omega
theorem ringS_len (h : Hs) (n0 : 0 < h.n) : ∀ (r : List Int) (prev : Int), (ringS h prev r).length ≤ h.n * r.length
  | [], _ => Nat.le_refl _
  | k :: r, prev => by
    have a := ringS_len h n0 r k
    have b := hopN_le h n0 prev k
    show (keepsS _ _ _ ++ [(("need" : Str), k)] ++ ringS h k r).length ≤ _
    rw [List.length_append, List.length_append, List.length_cons, List.length_cons, Nat.mul_succ]
    unfold keepsS
    rw [List.length_map, List.length_range]
    show hopN h prev k + 1 + _ ≤ _
    omega
theorem at_last : ∀ (r : List Int) (a : Int) {i : Nat}, i < r.length → (a :: r).getD i 0 = lastH a (r.take i)
  | _, _, 0, _ => rfl
  | k :: r, a, i + 1, h => at_last r k (i := i) (by
    rw [List.length_cons] at h
    omega)
theorem ringS_next (h : Hs) (prev : Int) (r : List Int) {i : Nat} (hi : i < r.length) : ringS h prev (r.take (i + 1)) = ringS h prev (r.take i) ++ (keepsS h.n ((prev :: r).getD i 0 + 1) (hopN h ((prev :: r).getD i 0) (r.getD i 0)) ++ [(("need" : Str), r.getD i 0)]) := by
  rw [List.take_add_one, List.getElem?_eq_getElem hi, ringS_app, at_last r prev hi, List.getD_eq_getElem?_getD, List.getElem?_eq_getElem hi]
  show _ ++ (keepsS _ _ _ ++ [(("need" : Str), r[i])] ++ []) = _
  rw [List.append_nil]
  rfl
theorem keepsS_len (n : Nat) (b : Int) (m : Nat) : (keepsS n b m).length = m := by
  unfold keepsS
  rw [List.length_map, List.length_range]
def spRingWay (K : PySem.W.Frag) (CH CC CN : Addr) : Sp := fun vs H Q _ => ∃ (p r : Addr) (h : Hs) (ring : List Int), vs = [.ref p, .ref r] ∧ HouseAt K CH CC CN H p h ∧ SqL K H r (iv ring) ∧ ring.length ≤ 100 ∧ (∀ k ∈ ring, 0 ≤ k ∧ k < h.n) ∧
  ∀ H' l, H l = none → Same H H' → WayAt H' l (ringS h (lastH 0 ring) ring) → Q (.ref l) H'
end Hn

/-! TxtL -/
/-! texts: joined, of numbers, how long, shown -/
namespace Hn
open PySem PySem.Spec L2 Evl
open PyProof.Rows hiding St
abbrev numT (i : Int) : Str := Str.ofString (toString i)
/-- signs that repr can show -/
def Plain (x : Str) : Prop := ∀ c ∈ x.cps.toList, c < 0x110000
theorem plain_of (s : String) : Plain (Str.ofString s) := fun c hc => by
  rw [Str.ofString_eq_toList] at hc
  simp only [List.mem_map] at hc
  obtain ⟨ch, _, rfl⟩ := hc
  have v := ch.valid
  show ch.val.toNat < 0x110000
  rcases v with v | v
  · have v' : ch.val.toNat < 0xd800 := v
    omega
  · exact v.2
theorem plain_app {x y : Str} (hx : Plain x) (hy : Plain y) : Plain (x ++ y) := fun c hc => by
  have e : (x ++ y).cps.toList = x.cps.toList ++ y.cps.toList := by
    show (x.cps ++ y.cps).toList = _
    rw [Array.toList_append]
  rw [e] at hc
  rcases List.mem_append.mp hc with h | h
  · exact hx c h
  · exact hy c h
theorem plain_join {s : Str} (hs : Plain s) : ∀ {ts : List Str}, (∀ t ∈ ts, Plain t) → Plain (Str.join s ts)
  | [], _ => fun c hc => by cases hc
  | [t], h => h t (List.mem_cons_self ..)
  | t :: u :: r, h => plain_app (plain_app (h t (List.mem_cons_self ..)) hs) (plain_join hs fun x hx => h x (List.mem_cons_of_mem _ hx))
theorem str_assoc (x y z : Str) : (x ++ y) ++ z = x ++ (y ++ z) := by
  show Str.mk ((x.cps ++ y.cps) ++ z.cps) = Str.mk (x.cps ++ (y.cps ++ z.cps))
  rw [Array.append_assoc]
theorem str_none (x : Str) : x ++ Str.ofString "" = x := by
  show Str.mk (x.cps ++ #[]) = x
  rw [Array.append_empty]
theorem none_str (x : Str) : Str.empty ++ x = x := by
  show Str.mk (#[] ++ x.cps) = x
  rw [Array.empty_append]
/-- each behind a blank, or joined by blanks -/
theorem join_each (s : Str) : ∀ {ts : List Str}, ts ≠ [] → Str.join (Str.ofString "") (ts.map fun t => s ++ t) = s ++ Str.join s ts
  | [], h => absurd rfl h
  | [t], _ => rfl
  | t :: u :: r, _ => by
    show (s ++ t) ++ Str.ofString "" ++ Str.join (Str.ofString "") ((u :: r).map fun t => s ++ t) = s ++ (t ++ s ++ Str.join s (u :: r))
    rw [join_each s (ts := u :: r) (fun z => nomatch z), str_none, str_assoc, str_assoc]
theorem join_len {s : Str} {m : Nat} : ∀ {ts : List Str}, (∀ t ∈ ts, t.length ≤ m) → (Str.join s ts).length ≤ ts.length * (m + s.length)
  | [], _ => Nat.zero_le _
  | [t], h => by
    have := h t (List.mem_cons_self ..)
    show t.length ≤ 1 * (m + s.length)
    omega
  | t :: u :: r, h => by
    have h1 := h t (List.mem_cons_self ..)
    have h2 := join_len (s := s) (ts := u :: r) fun x hx => h x (List.mem_cons_of_mem _ hx)
    show ((t ++ s) ++ Str.join s (u :: r)).length ≤ ((u :: r).length + 1) * (m + s.length)
    rw [strLen_append, strLen_append, Nat.succ_mul]
    omega
theorem sum_len {m : Nat} : ∀ {ts : List Str}, (∀ t ∈ ts, t.length ≤ m) → (ts.map (·.length)).sum ≤ ts.length * m
  | [], _ => Nat.zero_le _
  | t :: r, h => by
    have h1 := h t (List.mem_cons_self ..)
    have h2 := sum_len (ts := r) fun x hx => h x (List.mem_cons_of_mem _ hx)
    rw [List.map_cons, List.sum_cons, List.length_cons, Nat.succ_mul]
    omega
theorem num_len {i : Int} (h0 : 0 ≤ i) (h1 : i < 10 ^ 102) : (numT i).length ≤ 102 := toString_length_le h0 (by decide) h1
theorem Fine.str {x : Str} {m : Nat} (hp : Plain x) (hl : x.length ≤ m) : Fine 0 (10 * m + 2) (.str x) := ⟨by
  show x.cps.all (· < 0x110000) = true
  rw [← Array.all_toList]
  exact List.all_eq_true.mpr fun c hc => decide_eq_true (hp c hc), rfl, rfl, Nat.le_refl _, by
  have z := StrLaws.reprText_len x fun c hc => by have := hp c hc; omega
  show (reprText x).length ≤ _
  omega⟩
theorem Fine.tuple {n m k : Nat} {ds : List PyData} (h : ∀ d ∈ ds, Fine n m d) (hk : ds.length ≤ k) : Fine (n + 1) (k * (m + 2) + 2) (.tuple ds) where
  lay := lay_all fun d hd => (h d hd).lay
  show_ := showable_all fun d hd => (h d hd).show_
  nod := noDict_all fun d hd => (h d hd).nod
  dep := Nat.succ_le_succ (depth_all fun d hd => (h d hd).dep)
  len := by
    have h1 := fmt_text (PyData.shownAll ds)
    have h2 := piled_top ds fun d hd => (h d hd).len
    have h3 : ds.length * (m + 2) ≤ k * (m + 2) := Nat.mul_le_mul_right _ hk
    show (tupleText (PyData.shownAll ds)).length ≤ _
    omega
section
variable {K : PySem.W.Frag} {σ : L2.St} {H : Hp} {ta tb tc te : TE}
theorem ev_addS {x y : Str} (ha : Ev ta σ H (.str x)) (hb : Ev tb σ H (.str y)) (hl : x.length + y.length ≤ 16777216) : Ev (tOp (fun x y H Q => ∃ i j, x = V.str i ∧ y = V.str j ∧ i.length + j.length ≤ sizeLine ∧ Q (V.str (i ++ j)) H) ta tb) σ H (.str (x ++ y)) :=
  ev_op ha hb fun H1 _ Q q => ⟨x, y, rfl, rfl, by rw [sizeLine_eq]; exact hl, q H1 (Ex.refl H1)⟩
theorem ev_join {a : Str} {ys : List Str} (ha : Ev ta σ H (.str a)) (hb : EvL tb σ H (ys.map V.str)) (hl : (ys.map (·.length)).sum + ys.length * a.length ≤ 16777216) :
    Ev (tM1 (fun x xs H Q => ∃ a p, ∃ ys : List Str, x = .str a ∧ xs = [.ref p] ∧ (SqL K H p (ys.map V.str) ∨ SqT K H p (ys.map V.str)) ∧ (ys.map (·.length)).sum + ys.length * a.length ≤ 16777216 ∧ Q (.str (Txt.join a ys)) H) ta tb) σ H (.str (Str.join a ys)) := fun H1 e Q q =>
  ha H1 e _ fun H2 e2 => ⟨⟨a, rfl⟩, hb H2 (e.trans e2) _ fun p H3 _ e3 hp => ⟨a, p, ys, rfl, rfl, .inl (SqL.of hp), hl, by
    rw [TL.join_eq]
    exact q H3 (e2.trans e3)⟩⟩
theorem ev_strI {i : Int} (h : Ev ta σ H (.int i)) (h0 : 0 ≤ i) (h1 : i < 10 ^ 102) : Ev (tCB (fun xs H Q => ∃ i, xs = [V.int i] ∧ i.natAbs.log2 < 1920 ∧ Q (V.str (Str.ofString (toString i))) H) (tCons ta tNil)) σ H (.str (numT i)) :=
  ev_cb (ea_cons h ea_nil) fun H1 _ Q q => ⟨i, rfl, log2_small h0 h1, q H1 (Ex.refl H1)⟩
/-- "-" if i is None else .. -/
theorem ev_dash {i : Int} {v : V} {tx : TE} (h : Ev ta σ H (.int i)) (hb : Ev tb σ H v) : Ev (tIf (tTest (tOp (fun x y H Q => y = V.non ∧ Q (V.bl (decide (x = V.non))) H) ta (tC .non))) tx tb) σ H v :=
  ev_if (b := false) (et_is (et_test (ev_op h ev_c fun H1 _ Q q => ⟨rfl, q H1 (Ex.refl H1)⟩)) (decide_eq_false fun z => by cases z)) (fun h => nomatch h) fun _ => hb
theorem ev_fmtI {i : Int} (h : Ev ta σ H (.int i)) (h0 : 0 ≤ i) (h1 : i < 10 ^ 102) : Ev (tFmt ta) σ H (.str (numT i)) := fun H1 e Q q => h H1 e _ fun H2 e2 => .inr ⟨i, rfl, log2_small h0 h1, q H2 e2⟩
theorem ev_fmtS {x : Str} (h : Ev ta σ H (.str x)) (hl : x.length ≤ 16777216) : Ev (tFmt ta) σ H (.str x) := fun H1 e Q q => h H1 e _ fun H2 e2 => .inl ⟨x, rfl, by rw [sizeLine_eq]; exact hl, q H2 e2⟩
theorem ev_js3 {x y z : Str} (ha : Ev ta σ H (.str x)) (hb : Ev tb σ H (.str y)) (hc : Ev tc σ H (.str z)) (hl : x.length + y.length + z.length ≤ 16777216) : Ev (fun σ H Q => tJs [ta, tb, tc] Str.empty σ H fun out H1 => Q (.str out) H1) σ H (.str ((x ++ y) ++ z)) := fun H1 e Q q =>
  ha H1 e _ fun H2 e2 => ⟨x, rfl, by rw [none_str, sizeLine_eq]; omega, by
    rw [none_str]
    exact hb H2 (e.trans e2) _ fun H3 e3 => ⟨y, rfl, by rw [strLen_append, sizeLine_eq]; omega, hc H3 (e.trans (e2.trans e3)) _ fun H4 e4 => ⟨z, rfl, by rw [strLen_append, strLen_append, sizeLine_eq]; omega, q H4 (e2.trans (e3.trans e4))⟩⟩⟩
theorem given_all {α : Type} (g : α → V) (d : α) (L : List α) : given L.length (fun _ => true) (fun i => g (L.getD i d)) = L.map g := by
  have z := given_choose (fun _ : α => true) g d L
  rw [List.filter_eq_self.mpr fun _ _ => rfl] at z
  exact z
end
/-- numbers joined by blanks -/
def txNums (xs : List Int) : Str := Str.join (Str.ofString " ") (xs.map numT)
theorem nums_len {xs : List Int} (hl : xs.length ≤ 50) (h : ∀ x ∈ xs, 0 ≤ x ∧ x < 10 ^ 102) : (txNums xs).length ≤ 6000 := by
  have z := join_len (s := Str.ofString " ") (m := 102) (ts := xs.map numT) fun t ht => by
    obtain ⟨i, hi, rfl⟩ := List.mem_map.mp ht
    exact num_len (h i hi).1 (h i hi).2
  have e : (Str.ofString " ").length = 1 := rfl
  rw [List.length_map, e] at z
  unfold txNums
  omega
theorem nums_plain (xs : List Int) : Plain (txNums xs) := plain_join (plain_of _) fun t ht => by
  obtain ⟨i, _, rfl⟩ := List.mem_map.mp ht
  exact plain_of _
/-- the text of a step -/
def txStep (p : Str × Int) : Str := (p.1 ++ Str.ofString " ") ++ numT p.2
def txWay (ps : List (Str × Int)) : Str := Str.join (Str.ofString ", ") (ps.map txStep)
def FitP (p : Str × Int) : Prop := p.1.length ≤ 10 ∧ Plain p.1 ∧ 0 ≤ p.2 ∧ p.2 < 100
theorem step_len {p : Str × Int} (h : FitP p) : (txStep p).length ≤ 113 := by
  unfold txStep
  have z := num_len h.2.2.1 (by have := h.2.2.2; omega)
  have e : (Str.ofString " ").length = 1 := rfl
  have := h.1
  rw [strLen_append, strLen_append, e]
  omega
theorem way_len {ps : List (Str × Int)} (hl : ps.length ≤ 100) (h : ∀ p ∈ ps, FitP p) : (txWay ps).length ≤ 11500 := by
  have z := join_len (s := Str.ofString ", ") (m := 113) (ts := ps.map txStep) fun t ht => by
    obtain ⟨p, hp, rfl⟩ := List.mem_map.mp ht
    exact step_len (h p hp)
  have e : (Str.ofString ", ").length = 2 := rfl
  rw [List.length_map, e] at z
  unfold txWay
  omega
theorem way_plain {ps : List (Str × Int)} (h : ∀ p ∈ ps, FitP p) : Plain (txWay ps) := plain_join (plain_of _) fun t ht => by
  obtain ⟨p, hp, rfl⟩ := List.mem_map.mp ht
  exact plain_app (plain_app (h p hp).2.1 (plain_of _)) (plain_of _)
end Hn

/-! World -/
/-! the laws' worlds: the rows of a house; what is told of its steps; rings' ways are ways -/
namespace Hn
open PySem PySem.Spec L2 Evl
/-- at w: the five rows of h, none of them the list at b -/
def WorldAt (b : Addr) (H : Hp) (w : Addr) (h : Hs) : Prop := ∃ x1 x2 x3 x4 x5 : Addr, H w = some (.tup [.ref x1, .ref x2, .ref x3, .ref x4, .ref x5]) ∧ H x1 = some (.lst (iv h.ns)) ∧ H x2 = some (.lst (iv (Clk.row h.n h.g))) ∧ H x3 = some (.lst (ovR h.n h.r)) ∧
  H x4 = some (.lst (iv (Clk.row h.n h.k))) ∧ H x5 = some (.lst (ovR h.n h.d)) ∧ x1 ≠ b ∧ x2 ≠ b ∧ x3 ≠ b ∧ x4 ≠ b ∧ x5 ≠ b
theorem WorldAt.ex {b : Addr} {H H' : Hp} {w : Addr} {h : Hs} (x : WorldAt b H w h) (e : Ex H H') : WorldAt b H' w h := by
  obtain ⟨x1, x2, x3, x4, x5, h0, h1, h2, h3, h4, h5, n⟩ := x
  exact ⟨x1, x2, x3, x4, x5, e _ _ h0, e _ _ h1, e _ _ h2, e _ _ h3, e _ _ h4, e _ _ h5, n⟩
theorem WorldAt.but {b : Addr} {H H' : Hp} {w : Addr} {h : Hs} (x : WorldAt b H w h) (g : ∃ xs, H b = some (.lst xs)) (e : But b H H') : WorldAt b H' w h := by
  obtain ⟨x1, x2, x3, x4, x5, h0, h1, h2, h3, h4, h5, n1, n2, n3, n4, n5⟩ := x
  obtain ⟨xs, hb⟩ := g
  exact ⟨x1, x2, x3, x4, x5, e _ _ (ne_of h0 hb fun z => nomatch z) h0, e _ _ n1 h1, e _ _ n2 h2, e _ _ n3 h3, e _ _ n4 h4, e _ _ n5 h5, n1, n2, n3, n4, n5⟩
theorem WorldAt.drew {b : Addr} {H H' : Hp} {w : Addr} {h : Hs} (x : WorldAt b H w h) (g : Bag H b) (e : Drew b H H') : WorldAt b H' w h := x.but g.lst e.but
/-- its numbers are below this -/
structure Small (h : Hs) (m : Int) : Prop where
  g : ∀ i : Nat, i < h.n → h.g i ≤ m
  r : ∀ i : Nat, i < h.n → ∀ x, h.r i = some x → x ≤ m
  k : ∀ i : Nat, i < h.n → h.k i ≤ m
  d : ∀ i : Nat, i < h.n → ∀ x, h.d i = some x → x ≤ m
/-! ### what is told, word by word -/
theorem find_named {w : Str} {f : Nat → Option Tld} (nm : Named w f) (v : Str) (x : Int) : ∀ n : Nat, (upto f n).find? (fun t => decide (t.w = v) && decide (t.h = x)) = if v = w ∧ 0 ≤ x ∧ x < n then f x.toNat else none
  | 0 => by
    rw [if_neg (by omega)]
    rfl
  | n + 1 => by
    rw [upto_next, List.find?_append, find_named nm v x n]
    by_cases e : v = w ∧ 0 ≤ x ∧ x < n
    · rw [if_pos e, if_pos ⟨e.1, e.2.1, by omega⟩]
      cases hf : f n with
      | none => simp
      | some t =>
        have z := nm n t hf
        have : (t.w = v ∧ t.h = x) = False := by
          refine propext ⟨fun q => ?_, fun q => q.elim⟩
          omega
        have p : (decide (t.w = v) && decide (t.h = x)) = false := by
          rw [← Bool.decide_and, decide_eq_false (by rw [this]; exact id)]
        show Option.or _ (List.find? _ [t]) = _
        rw [List.find?_cons_of_neg (by rw [p]; decide)]
        simp
    · rw [if_neg e]
      show Option.or none _ = _
      rw [Option.none_or]
      cases hf : f n with
      | none =>
        by_cases e2 : v = w ∧ 0 ≤ x ∧ x < (n + 1 : Nat)
        · rw [if_pos e2]
          have en : x.toNat = n := by
            have : ¬ x < n := fun z => e ⟨e2.1, e2.2.1, z⟩
            omega
          rw [en, hf]
          rfl
        · rw [if_neg e2]
          rfl
      | some t =>
        obtain ⟨z1, z2⟩ := nm n t hf
        by_cases e2 : v = w ∧ 0 ≤ x ∧ x < (n + 1 : Nat)
        · have en : x = (n : Int) := by
            have : ¬ x < n := fun z => e ⟨e2.1, e2.2.1, z⟩
            omega
          rw [if_pos e2, show x.toNat = n by omega, hf]
          show List.find? _ [t] = _
          rw [List.find?_cons_of_pos (by simp [z1, z2, en, e2.1])]
        · rw [if_neg e2]
          show List.find? _ [t] = _
          rw [List.find?_cons_of_neg (by
            intro q
            simp only [Bool.and_eq_true, decide_eq_true_eq] at q
            apply e2
            refine ⟨by rw [← q.1, z1], ?_, ?_⟩ <;> omega)]
          rfl
theorem word_ne : ¬ (("keep" : Str) = "door") ∧ ¬ (("need" : Str) = "door") ∧ ¬ (("room" : Str) = "door") ∧ ¬ (("need" : Str) = "keep") ∧ ¬ (("room" : Str) = "keep") ∧ ¬ (("room" : Str) = "need") := by decide
theorem tell_word (h : Hs) (v : Str) (x : Int) : h.tell (v, x) = if 0 ≤ x ∧ x < h.n then (if v = "door" then h.doorT x.toNat else if v = "keep" then h.keepT x.toNat else if v = "need" then h.needT x.toNat else if v = "room" then h.roomT x.toNat else none) else none := by
  unfold Hs.tell Hs.told
  rw [List.find?_append, List.find?_append, List.find?_append, find_named (named_door h), find_named (named_keep h), find_named (named_need h), find_named (named_room h)]
  obtain ⟨n1, n2, n3, n4, n5, n6⟩ := word_ne
  dsimp only
  by_cases e : 0 ≤ x ∧ x < (h.n : Int)
  · by_cases e1 : v = "door"
    · subst e1
      simp only [e, n1, n2, n3, Ne.symm n1, Ne.symm n2, Ne.symm n3, true_and, and_true, false_and, if_true, if_false, Option.or_none]
    · by_cases e2 : v = "keep"
      · subst e2
        simp only [e, n1, n4, n5, Ne.symm n1, Ne.symm n4, Ne.symm n5, true_and, and_true, false_and, if_true, if_false, Option.or_none, Option.none_or]
      · by_cases e3 : v = "need"
        · subst e3
          simp only [e, n2, n4, n6, Ne.symm n2, Ne.symm n4, Ne.symm n6, true_and, and_true, false_and, if_true, if_false, Option.or_none, Option.none_or]
        · by_cases e4 : v = "room"
          · subst e4
            simp only [e, n3, n5, n6, Ne.symm n3, Ne.symm n5, Ne.symm n6, true_and, and_true, false_and, if_true, if_false, Option.or_none, Option.none_or]
          · simp only [e1, e2, e3, e4, false_and, if_false, Option.or_none]
            rw [if_pos e]
  · rw [if_neg e, if_neg (fun z => e z.2), if_neg (fun z => e z.2), if_neg (fun z => e z.2), if_neg (fun z => e z.2)]
    rfl
theorem tell_keep (h : Hs) {x : Int} (h0 : 0 ≤ x) (h1 : x < h.n) : h.tell ("keep", x) = some ⟨"keep", x, x, (x + 1) % (h.n : Int), 1, h.k x⟩ := by
  rw [tell_word, if_pos ⟨h0, h1⟩, if_neg word_ne.1, if_pos rfl]
  unfold Hs.keepT
  rw [Int.toNat_of_nonneg h0]
theorem tell_need (h : Hs) {x : Int} (h0 : 0 ≤ x) (h1 : x < h.n) : h.tell ("need", x) = some ⟨"need", x, (x + 1 - Clk.wd h.ns x) % (h.n : Int), (x + 1) % (h.n : Int), Clk.wd h.ns x, h.g x⟩ := by
  rw [tell_word, if_pos ⟨h0, h1⟩, if_neg word_ne.2.1, if_neg word_ne.2.2.2.1, if_pos rfl]
  unfold Hs.needT
  rw [Int.toNat_of_nonneg h0]
theorem tellD_of {h : Hs} {s : SP} {t : Tld} (e : h.tell s = some t) : h.tellD s = t := by
  unfold Hs.tellD
  rw [e]
  rfl
/-! ### from mark to mark -/
def PathS (h : Hs) : Int → List SP → Int → Prop
  | a, [], b => a = b
  | a, s :: ss, b => (h.tell s).isSome = true ∧ (h.tellD s).f = a ∧ PathS h (h.tellD s).l ss b
theorem PathS.app {h : Hs} : ∀ {ss us : List SP} {a b c : Int}, PathS h a ss b → PathS h b us c → PathS h a (ss ++ us) c
  | [], _, _, _, _, e, p => by
    obtain rfl : _ = _ := e
    exact p
  | _ :: _, _, _, _, _, ⟨h1, h2, h3⟩, p => ⟨h1, h2, h3.app p⟩
theorem PathS.known {h : Hs} : ∀ {ss : List SP} {a b : Int}, PathS h a ss b → ∀ s ∈ ss, (h.tell s).isSome = true
  | [], _, _, _, _, m => nomatch m
  | s :: ss, _, _, ⟨h1, _, h3⟩, x, m => by
    rcases List.mem_cons.mp m with rfl | m
    · exact h1
    · exact h3.known x m
theorem PathS.links {h : Hs} : ∀ {ss : List SP} {a b : Int}, PathS h a ss b → (∀ i, i < ss.length → (if i = 0 then a else (h.tellD (ss.getD (i - 1) ("", 0))).l) = (h.tellD (ss.getD i ("", 0))).f) ∧ (ss ≠ [] → (h.tellD (ss.getLastD ("", 0))).l = b)
  | [], _, _, _ => ⟨fun i hi => absurd hi (Nat.not_lt_zero i), fun z => absurd rfl z⟩
  | s :: ss, a, b, ⟨h1, h2, h3⟩ => by
    obtain ⟨k1, k2⟩ := h3.links
    refine ⟨fun i hi => ?_, fun _ => ?_⟩
    · cases i with
      | zero => exact h2.symm
      | succ i =>
        have z := k1 i (by rw [List.length_cons] at hi; omega)
        cases i with
        | zero => exact z
        | succ i => exact z
    · cases ss with
      | nil =>
        obtain rfl : _ = _ := h3
        rfl
      | cons u us => exact k2 (fun z => nomatch z)
theorem way_of_path {h : Hs} {ss : List SP} {m : Int} (p : PathS h m ss m) (ne : ss ≠ []) : isWayB h ss = true := by
  obtain ⟨k1, k2⟩ := p.links
  unfold isWayB chainB
  rw [decide_eq_false ne, List.all_eq_true.mpr fun s hs => p.known s hs]
  show (List.range ss.length).all _ = true
  rw [List.all_eq_true]
  intro i hi
  have hi := List.mem_range.mp hi
  have z := k1 i hi
  refine decide_eq_true ?_
  cases i with
  | zero =>
    show (h.tellD (ss.getLastD ("", 0))).l = _
    rw [k2 ne]
    exact z
  | succ i => exact z
theorem keeps_path (h : Hs) (n0 : 0 < h.n) (b : Int) : ∀ m : Nat, PathS h (b % (h.n : Int)) (keepsS h.n b m) ((b + (m : Int)) % (h.n : Int))
  | 0 => by
    show b % (h.n : Int) = (b + ((0 : Nat) : Int)) % (h.n : Int)
    rw [show b + ((0 : Nat) : Int) = b by omega]
  | m + 1 => by
    have e : keepsS h.n b (m + 1) = keepsS h.n b m ++ [(("keep" : Str), (b + (m : Int)) % (h.n : Int))] := by
      unfold keepsS
      rw [List.range_succ, List.map_append]
      rfl
    rw [e]
    refine (keeps_path h n0 b m).app ?_
    have x0 := Int.emod_nonneg (b + (m : Int)) (show (h.n : Int) ≠ 0 by omega)
    have x1 := Int.emod_lt_of_pos (b + (m : Int)) (show 0 < (h.n : Int) by omega)
    have t := tell_keep h x0 x1
    refine ⟨by rw [t]; rfl, by rw [tellD_of t], ?_⟩
    rw [tellD_of t]
    show ((b + (m : Int)) % (h.n : Int) + 1) % (h.n : Int) = (b + ((m + 1 : Nat) : Int)) % (h.n : Int)
    rw [Int.emod_add_emod]
    congr 1
    omega
theorem ring_path (h : Hs) (n0 : 0 < h.n) : ∀ (r : List Int) (prev : Int), (∀ k ∈ r, 0 ≤ k ∧ k < h.n) → PathS h ((prev + 1) % (h.n : Int)) (ringS h prev r) ((lastH prev r + 1) % (h.n : Int))
  | [], _, _ => rfl
  | k :: r, prev, hin => by
    obtain ⟨k0, k1⟩ := hin k List.mem_cons_self
    have p1 := keeps_path h n0 (prev + 1) (hopN h prev k)
    have t := tell_need h k0 k1
    have p3 := ring_path h n0 r k fun x hx => hin x (List.mem_cons_of_mem _ hx)
    show PathS h _ (keepsS _ _ _ ++ [(("need" : Str), k)] ++ ringS h k r) _
    refine (p1.app (us := [(("need" : Str), k)]) (c := (k + 1) % (h.n : Int)) ⟨by rw [t]; rfl, ?_, ?_⟩).app p3
    · rw [tellD_of t]
      show (k + 1 - Clk.wd h.ns k) % (h.n : Int) = (prev + 1 + (hopN h prev k : Int)) % (h.n : Int)
      unfold hopN
      rw [Int.toNat_of_nonneg (Int.emod_nonneg _ (by omega)), Int.add_emod_emod]
      congr 1
      omega
    · rw [tellD_of t]
      rfl
theorem ringS_ne {h : Hs} {r : List Int} (hr : r ≠ []) (prev : Int) : ringS h prev r ≠ [] := by
  cases r with
  | nil => exact absurd rfl hr
  | cons k r =>
    show keepsS _ _ _ ++ [(("need" : Str), k)] ++ ringS h k r ≠ []
    simp
theorem ringS_way (h : Hs) (n0 : 0 < h.n) {r : List Int} (hr : r ≠ []) (hin : ∀ k ∈ r, 0 ≤ k ∧ k < h.n) : isWayB h (ringS h (lastH 0 r) r) = true := by
  have p := ring_path h n0 r (lastH 0 r) hin
  rw [lastH_ne (h := lastH 0 r) (h' := 0) hr] at p
  exact way_of_path p (ringS_ne hr _)
theorem lens_app (h : Hs) (a b : List SP) : ((a ++ b).map fun s => (h.tellD s).len).sum = (a.map fun s => (h.tellD s).len).sum + (b.map fun s => (h.tellD s).len).sum := by
  rw [List.map_append, List.sum_append]
theorem keeps_lens (h : Hs) (n0 : 0 < h.n) (b : Int) : ∀ m : Nat, ((keepsS h.n b m).map fun s => (h.tellD s).len).sum = (m : Int)
  | 0 => rfl
  | m + 1 => by
    have e : keepsS h.n b (m + 1) = keepsS h.n b m ++ [(("keep" : Str), (b + (m : Int)) % (h.n : Int))] := by
      unfold keepsS
      rw [List.range_succ, List.map_append]
      rfl
    have x0 := Int.emod_nonneg (b + (m : Int)) (show (h.n : Int) ≠ 0 by omega)
    have x1 := Int.emod_lt_of_pos (b + (m : Int)) (show 0 < (h.n : Int) by omega)
    rw [e, lens_app, keeps_lens h n0 b m]
    show (m : Int) + ((h.tellD _).len + 0) = _
    rw [tellD_of (tell_keep h x0 x1)]
    show (m : Int) + (1 + 0) = ((m + 1 : Nat) : Int)
    omega
theorem ring_lens (h : Hs) (n0 : 0 < h.n) : ∀ (r : List Int) (prev : Int), (∀ k ∈ r, 0 ≤ k ∧ k < h.n) → ((ringS h prev r).map fun s => (h.tellD s).len).sum = hops h.ns prev r
  | [], _, _ => rfl
  | k :: r, prev, hin => by
    obtain ⟨k0, k1⟩ := hin k List.mem_cons_self
    show ((keepsS _ _ _ ++ [(("need" : Str), k)] ++ ringS h k r).map fun s => (h.tellD s).len).sum = hop h.ns prev k + hops h.ns k r
    rw [lens_app, lens_app, keeps_lens h n0, ring_lens h n0 r k fun x hx => hin x (List.mem_cons_of_mem _ hx)]
    show ((hopN h prev k : Int)) + ((h.tellD (("need" : Str), k)).len + 0) + _ = _
    rw [tellD_of (tell_need h k0 k1)]
    unfold hopN hop
    rw [Int.toNat_of_nonneg (Int.emod_nonneg _ (by omega)), show k + 1 - (Clk.wd h.ns k : Int) - (prev + 1) = k - Clk.wd h.ns k - prev by omega]
    show (k - (Clk.wd h.ns k : Int) - prev) % (h.n : Int) + ((Clk.wd h.ns k : Int) + 0) + _ = (Clk.wd h.ns k : Int) + (k - Clk.wd h.ns k - prev) % (h.n : Int) + _
    omega
theorem ring_turns (h : Hs) (n0 : 0 < h.n) {r : List Int} (hin : ∀ k ∈ r, 0 ≤ k ∧ k < h.n) : turnsH h (ringS h (lastH 0 r) r) = windsI h.ns r := by
  unfold turnsH windsI hopSum
  rw [ring_lens h n0 r _ hin]
/-! ### ways as data -/
abbrev dS (s : SP) : PyData := .tuple [.str s.1, .int s.2]
abbrev dW (ss : List SP) : PyData := .list (ss.map dS)
theorem Los.dps {K : PySem.W.Frag} {H : Hp} : ∀ {as : List Addr} {ss : List SP}, Los H as (ss.map stO) → DpAll K H (as.map V.ref) (ss.map dS)
  | [], [], _ => .nil
  | _ :: _, _ :: _, h => .cons (.tup (SqT.of h.1) (.cons (.str _) (.cons (.int _) .nil))) h.2.dps
  | [], _ :: _, h => h.elim
  | _ :: _, [], h => h.elim
theorem WayAt.dp {K : PySem.W.Frag} {H : Hp} {l : Addr} {ss : List SP} (h : WayAt H l ss) : Dp K H (.ref l) (dW ss) := by
  obtain ⟨as, h1, h2⟩ := h
  exact .lst (SqL.of h1) h2.dps
theorem word_plain {w : Str} (h : w = "door" ∨ w = "keep" ∨ w = "need" ∨ w = "room") : Fine 0 102 (.str w) := by
  rcases h with rfl | rfl | rfl | rfl <;> exact ⟨by decide +kernel, by decide +kernel, by decide +kernel, by decide, by decide +kernel⟩
theorem fineS {s : SP} (h : s.1 = "door" ∨ s.1 = "keep" ∨ s.1 = "need" ∨ s.1 = "room") (h0 : 0 ≤ s.2) (h1 : s.2 ≤ 100) : Fine 1 210 (dS s) := by
  refine (Fine.tuple (n := 0) (m := 102) (k := 2) (fun d hd => ?_) (by show 2 ≤ 2; decide)).mono (by decide) (by decide)
  rcases List.mem_cons.mp hd with rfl | hd
  · exact word_plain h
  · obtain rfl := List.mem_singleton.mp hd
    exact Fine.int h0 h1
theorem fineW {ss : List SP} (hw : ∀ s ∈ ss, (s.1 = "door" ∨ s.1 = "keep" ∨ s.1 = "need" ∨ s.1 = "room") ∧ 0 ≤ s.2 ∧ s.2 ≤ 100) (hl : ss.length ≤ 5000) : Fine 2 1100000 (dW ss) := by
  refine (Fine.list (n := 1) (m := 210) (k := 5000) (fun d hd => ?_) (by rw [List.length_map]; exact hl)).mono (by decide) (by decide)
  obtain ⟨s, hs, rfl⟩ := List.mem_map.mp hd
  obtain ⟨h1, h2, h3⟩ := hw s hs
  exact fineS h1 h2 h3
theorem known_word {h : Hs} {s : SP} (n48 : h.n ≤ 48) (e : (h.tell s).isSome = true) : (s.1 = "door" ∨ s.1 = "keep" ∨ s.1 = "need" ∨ s.1 = "room") ∧ 0 ≤ s.2 ∧ s.2 ≤ 100 := by
  rw [show s = (s.1, s.2) from rfl, tell_word] at e
  by_cases c : 0 ≤ s.2 ∧ s.2 < (h.n : Int)
  · rw [if_pos c] at e
    refine ⟨?_, c.1, by omega⟩
    by_cases e1 : s.1 = "door"
    · exact .inl e1
    · by_cases e2 : s.1 = "keep"
      · exact .inr (.inl e2)
      · by_cases e3 : s.1 = "need"
        · exact .inr (.inr (.inl e3))
        · by_cases e4 : s.1 = "room"
          · exact .inr (.inr (.inr e4))
          · rw [if_neg e1, if_neg e2, if_neg e3, if_neg e4] at e
            cases e
  · rw [if_neg c] at e
    cases e
/-! ### promises of the laws' own defs -/
def spWorld : Sp := fun vs H Q _ => ∃ (b : Addr) (n : Nat), vs = [.ref b, .int (n : Nat)] ∧ Bag H b ∧ 0 < n ∧ n ≤ 48 ∧ ∀ H' w h, H w = none → Drew b H H' → WorldAt b H' w h → HouseOk h → h.n = n → Small h (10 ^ 31) → Q (.ref w) H'
def spMade (K : PySem.W.Frag) (CH CC CN : Addr) : Sp := fun vs H Q _ => ∃ (b w : Addr) (h : Hs), vs = [.ref w] ∧ WorldAt b H w h ∧ HouseOk h ∧ ∀ H' p, H p = none → Ex H H' → HouseAt K CH CC CN H' p h → Q (.ref p) H'
def spRows : Sp := fun vs H Q _ => ∃ (b w : Addr) (h : Hs), vs = [.ref w] ∧ WorldAt b H w h ∧ h.n ≤ 48 ∧ ∀ H' l, H l = none → Ex H H' → WayAt H' l (h.told.map Tld.sp) → Q (.ref l) H'
def spRow (K : PySem.W.Frag) : Sp := fun vs H Q _ => ∃ (b w c : Addr) (h : Hs) (s : SP) (t : Tld), vs = [.ref w, .ref c] ∧ WorldAt b H w h ∧ HouseOk h ∧ H c = some (stO s) ∧ h.tell s = some t ∧ ∀ H' r, H r = none → Ex H H' → H' r = some (.tup t.row) → Q (.ref r) H'
def spMeasure (K : PySem.W.Frag) : Sp := fun vs H Q _ => ∃ (b w l : Addr) (h : Hs) (ss : List SP), vs = [.ref w, .ref l] ∧ WorldAt b H w h ∧ HouseOk h ∧ WayAt H l ss ∧ ss.length ≤ 5000 ∧ (∀ s ∈ ss, (h.tell s).isSome = true) ∧
  ∀ H' r, H r = none → Ex H H' → H' r = some (.tup [.int (turnsH h ss), .int (valueH h ss)]) → Q (.ref r) H'
def spLIsWay : Sp := fun vs H Q _ => ∃ (b w l : Addr) (h : Hs) (ss : List SP), vs = [.ref w, .ref l] ∧ WorldAt b H w h ∧ HouseOk h ∧ WayAt H l ss ∧ ss.length ≤ 5000 ∧ isWayB h ss = true ∧ ∀ H', Ex H H' → Q (.bl true) H'
def spRingSteps (K : PySem.W.Frag) : Sp := fun vs H Q _ => ∃ (l r : Addr) (h : Hs) (ring : List Int), vs = [.ref l, .ref r] ∧ SqL K H l (iv h.ns) ∧ Clk.Valid h.ns ∧ SqL K H r (iv ring) ∧ ring ≠ [] ∧ ring.length ≤ 100 ∧ (∀ k ∈ ring, 0 ≤ k ∧ k < h.n) ∧
  ∀ H' t, H t = none → Ex H H' → WayAt H' t (ringS h (lastH 0 ring) ring) → Q (.ref t) H'
section
variable {K : PySem.W.Frag} {σ : L2.St} {H : Hp} {ta tb : TE} {D : Ends} {tz : TS} {b w : Addr} {h : Hs}
/-- five names of a world -/
theorem q_world {i1 i2 i3 i4 i5 : Nat} (ha : Ev ta σ H (.ref w)) (hw : WorldAt b H w h) (k : ∀ x1 x2 x3 x4 x5 H1, Ex H H1 → H1 x1 = some (.lst (iv h.ns)) → H1 x2 = some (.lst (iv (Clk.row h.n h.g))) → H1 x3 = some (.lst (ovR h.n h.r)) → H1 x4 = some (.lst (iv (Clk.row h.n h.k))) → H1 x5 = some (.lst (ovR h.n h.d)) →
    tz D (((((σ.set i1 (some (.ref x1))).set i2 (some (.ref x2))).set i3 (some (.ref x3))).set i4 (some (.ref x4))).set i5 (some (.ref x5))) H1) : tSeq (tAsg ta (gTup K 5 (gCons (gName i1) (gCons (gName i2) (gCons (gName i3) (gCons (gName i4) (gCons (gName i5) gNil))))))) tz D σ H :=
  ha H (Ex.refl H) _ fun H1 e1 => by
    obtain ⟨x1, x2, x3, x4, x5, h0, h1, h2, h3, h4, h5, _⟩ := hw.ex e1
    exact ⟨w, _, rfl, SqT.of h0, rfl, _, _, rfl, _, _, rfl, _, _, rfl, _, _, rfl, _, _, rfl, rfl, k x1 x2 x3 x4 x5 H1 e1 h1 h2 h3 h4 h5⟩
/-- the first row of a world -/
theorem ev_world0 (ha : Ev ta σ H (.ref w)) (hw : WorldAt b H w h) : ∃ x1 : Addr, H x1 = some (.lst (iv h.ns)) ∧ x1 ≠ b ∧ Ev (tOp (rIxT K) ta (tC (.int 0))) σ H (.ref x1) := by
  obtain ⟨x1, x2, x3, x4, x5, h0, h1, _, _, _, _, n1, _⟩ := hw
  exact ⟨x1, h1, n1, ev_op ha ev_c (rv_ixT (SqT.of h0) rfl)⟩
end
end Hn

/-! WorldE -/
/-! what the laws do with worlds, evaluated -/
namespace Hn
open PySem PySem.Spec L2 Evl
/-- a list of objects comes out -/
def EvWs (te : TE) (σ : L2.St) (H : Hp) (os : List HO) : Prop :=
  ∀ H1, Ex H H1 → ∀ Q : VK, (∀ p as H2, Ex H1 H2 → H2 p = some (.lst (as.map V.ref)) → Los H2 as os → Q (.ref p) H2) → te σ H1 Q
/-- a new list of objects comes out -/
def EvWf (te : TE) (σ : L2.St) (H : Hp) (os : List HO) : Prop :=
  ∀ H1, Ex H H1 → ∀ Q : VK, (∀ p as H2, H1 p = none → Ex H1 H2 → H2 p = some (.lst (as.map V.ref)) → Los H2 as os → Q (.ref p) H2) → te σ H1 Q
section
variable {K : PySem.W.Frag} {σ : L2.St} {H : Hp} {te ta tb : TE} {t : TT} {D : Ends} {tz : TS} {os qs : List HO}
theorem EvBs.wf (h : EvBs te σ H os) : EvWf te σ H os := fun H1 e Q q => h H1 e _ fun p as H2 np e2 hp hl _ => q p as H2 np e2 hp hl
theorem EvWf.ws (h : EvWf te σ H os) : EvWs te σ H os := fun H1 e Q q => h H1 e _ fun p as H2 _ e2 hp hl => q p as H2 e2 hp hl
theorem ews_var {i : Nat} {p : Addr} {as : List Addr} (h : σ[i]? = some (some (.ref p))) (hp : H p = some (.lst (as.map V.ref))) (hl : Los H as os) : EvWs (tVar i) σ H os := fun H1 e Q q => ⟨_, h, q p as H1 (Ex.refl H1) (e _ _ hp) (hl.ex e)⟩
theorem ewf_cat (ha : EvWs ta σ H os) (hb : EvBs tb σ H qs) (hz : os.length + qs.length ≤ 10000) : EvWf (tOp rCat ta tb) σ H (os ++ qs) := fun H1 e Q k =>
  ha H1 e _ fun p as H2 e2 hp hl => hb H2 (e.trans e2) _ fun r bs H3 _ e3 hr hm _ => ⟨p, r, _, _, rfl, rfl, e3 _ _ hp, hr, sz_of (by rw [List.length_map, List.length_map, hl.len, hm.len]; omega), fun l nl => k l (as ++ bs) _ (fresh_back (e2.trans e3) nl) ((e2.trans e3).trans (Ex.new nl)) (by rw [upd_same, List.map_append]) (((hl.ex e3).app hm).ex (Ex.new nl))⟩
theorem q_asgWf {i : Nat} (h : EvWf te σ H os) (k : ∀ p as H1, H p = none → Ex H H1 → H1 p = some (.lst (as.map V.ref)) → Los H1 as os → tz D (σ.set i (some (.ref p))) H1) : tSeq (tAsg te (gName i)) tz D σ H := h H (Ex.refl H) _ fun p as H1 np e hp hl => k p as H1 np e hp hl
theorem s_retWf (h : EvWf te σ H os) (k : ∀ p as H1, H p = none → Ex H H1 → H1 p = some (.lst (as.map V.ref)) → Los H1 as os → D.rt (.ref p) H1) : tRet te D σ H := h H (Ex.refl H) _ fun p as H1 np e hp hl => k p as H1 np e hp hl
/-- over a list of the numbers below n -/
theorem ebs_lcI {l : Addr} {n : Nat} {tl : TE} {j : Nat} {vs : List Nat} (f : Nat → Bool) (r : Nat → HO) (h : Ev tl σ H (.ref l)) (hl : H l = some (.lst (iv (Clk.row n fun x => x)))) (hz : n ≤ 40000) (hw : ∀ x, wipe ((wipe σ vs).set j (some x)) vs = wipe σ vs)
    (ht : ∀ (i : Nat) H1, Ex H H1 → i < n → EvT t ((wipe σ vs).set j (some (.int (i : Int)))) H1 (f i)) (he : ∀ (i : Nat) H1, Ex H H1 → i < n → f i = true → EvB te ((wipe σ vs).set j (some (.int (i : Int)))) H1 (r i)) :
    EvBs (tLc (iList K tl) (gName j) t te vs) σ H (((List.range n).filter f).map r) := fun H0 e Q q => h H0 e _ fun H1 e1 => ⟨l, rfl, ⟨_, SqL.of ((e.trans e1) _ _ hl)⟩, fun Dl hD =>
  lc_list (xs := iv (Clk.row n fun x => x)) (Cwo H1 f r Dl) ⟨hD, Ex.new hD, [], upd_same, trivial, fun _ h => nomatch h⟩ (fun i H' _ p => SqL.of (p.2.1 _ _ ((e.trans e1) _ _ hl))) (fun i x H' hi p => by
    have il : i < n := by
      have := (List.getElem?_eq_some_iff.mp hi).1
      rwa [iv_len, Clk.row_len] at this
    have ex : x = .int (i : Int) := by
      unfold iv at hi
      rw [List.getElem?_map, Clk.row_get il] at hi
      exact (Option.some.inj hi).symm
    subst ex
    exact ⟨hw _, cwo_turn p (by omega) (ht i H1 (e.trans e1) il) (fun hf => he i H1 (e.trans e1) il hf)⟩) (fun H' p => by
    have z : (iv (Clk.row n fun x => x)).length = n := by rw [iv_len, Clk.row_len]
    rw [z] at p
    exact q Dl p.2.2.choose H' (fresh_back e1 p.1) (e1.trans p.2.1) p.2.2.choose_spec.1 p.2.2.choose_spec.2.1 fun a ha => fresh_back e1 (p.2.2.choose_spec.2.2 a ha).1)⟩
/-- objects made of objects -/
theorem ebs_lcO {l : Addr} {as : List Addr} {tl : TE} {j : Nat} {vs : List Nat} (r : Nat → HO) (h : Ev tl σ H (.ref l)) (hl : H l = some (.lst (as.map V.ref))) (hr : Los H as os) (hz : os.length ≤ 40000) (hw : ∀ x, wipe ((wipe σ vs).set j (some x)) vs = wipe σ vs)
    (he : ∀ (i : Nat) (a : Addr) (o : HO) H1, Ex H H1 → os[i]? = some o → H1 a = some o → EvB te ((wipe σ vs).set j (some (.ref a))) H1 (r i)) :
    EvBs (tLc (iList K tl) (gName j) tYes te vs) σ H ((List.range os.length).map r) := fun H0 e Q q => h H0 e _ fun H1 e1 => ⟨l, rfl, ⟨_, SqL.of ((e.trans e1) _ _ hl)⟩, fun Dl hD =>
  lc_list (xs := as.map V.ref) (Cwo H1 (fun _ => true) r Dl) ⟨hD, Ex.new hD, [], upd_same, trivial, fun _ h => nomatch h⟩ (fun i H' _ p => SqL.of (p.2.1 _ _ ((e.trans e1) _ _ hl))) (fun i x H' hi p => by
    obtain ⟨a, o, rfl, ho, ha⟩ := (hr.ex (e.trans e1)).get hi
    have il := (List.getElem?_eq_some_iff.mp ho).1
    exact ⟨hw _, cwo_turn p (by omega) (fun H4 e4 Q k => k H4 (Ex.refl H4)) (fun _ => he i a o H1 (e.trans e1) ho ha)⟩) (fun H' p => by
    have z : (as.map V.ref).length = os.length := by rw [List.length_map, hr.len]
    rw [z] at p
    obtain ⟨p1, p2, bs, p3, p4, p5⟩ := p
    rw [List.filter_eq_self.mpr fun _ _ => rfl] at p4
    exact q Dl bs H' (fresh_back e1 p1) (e1.trans p2) p3 p4 fun a ha => fresh_back e1 (p5 a ha).1)⟩
/-- list(range(len(l))) -/
theorem el_rgLen {l : Addr} {xs : List V} {n : Nat} (ha : Ev ta σ H (.ref l)) (hl : SqL K H l xs) (hn : xs.length = n) (n1 : n ≤ 10000) : EvL (tLstRg (tRg1 (tCB (rLenK K) (tCons ta tNil)))) σ H (iv (Clk.row n fun x => x)) := fun H1 e Q q =>
  ha H1 e _ fun H2 e2 => ⟨l, xs, rfl, .inl (ex_l (e.trans e2) hl), _, rfl, RgOk.of_le (by decide) (by omega) (by decide) (by omega), fun p np => q p _ (fresh_back e2 np) (e2.trans (Ex.new np)) (by
    rw [upd_same, hn]
    unfold rgV iv Clk.row
    rw [List.map_map, show ((n : Int) - 0).toNat = n by omega]
    congr 2
    apply List.map_congr_left
    intro i _
    show V.int (0 + (i : Int)) = V.int (i : Int)
    rw [Int.zero_add])⟩
theorem upto_sp {w : Str} {F : Nat → Option Tld} (nm : Named w F) : ∀ n : Nat, (upto F n).map (fun t => stO t.sp) = ((List.range n).filter fun i => (F i).isSome).map fun i : Nat => stO (w, (i : Int))
  | 0 => rfl
  | n + 1 => by
    rw [upto_next, List.map_append, upto_sp nm n, List.range_succ, List.filter_append, List.map_append]
    congr 1
    cases e : F n with
    | none =>
      rw [List.filter_cons_of_neg (by rw [e]; decide)]
      rfl
    | some t =>
      rw [List.filter_cons_of_pos (by rw [e]; rfl)]
      obtain ⟨z1, z2⟩ := nm n t e
      show [stO (t.w, t.h)] = [stO (w, (n : Int))]
      rw [z1, z2]
/-- a, b = x, y -/
theorem q_parVV {i j : Nat} {x y : V} (ha : Ev ta σ H x) (hb : Ev tb σ H y) (k : ∀ H1, Ex H H1 → tz D ((σ.set i (some x)).set j (some y)) H1) : tSeq (tPar i j (tCons ta (tCons tb tNil))) tz D σ H :=
  ha H (Ex.refl H) _ fun H1 e1 => hb H1 e1 _ fun H2 e2 => ⟨_, _, rfl, k _ (e1.trans e2)⟩
theorem q_parVL {i j : Nat} {x : V} {ys : List V} (ha : Ev ta σ H x) (hb : EvL tb σ H ys) (k : ∀ q H1, H q = none → Ex H H1 → H1 q = some (.lst ys) → tz D ((σ.set i (some x)).set j (some (.ref q))) H1) : tSeq (tPar i j (tCons ta (tCons tb tNil))) tz D σ H :=
  ha H (Ex.refl H) _ fun H1 e1 => hb H1 e1 _ fun q H2 nq e2 hq => ⟨_, _, rfl, k q _ (fresh_back e1 nq) (e1.trans e2) hq⟩
theorem keepsS_next (n : Nat) (b : Int) (m : Nat) : keepsS n b (m + 1) = keepsS n b m ++ [(("keep" : Str), (b + (m : Int)) % (n : Int))] := by
  unfold keepsS
  rw [List.range_succ, List.map_append]
  rfl
/-- the mark is the goal after so many hours, and no earlier -/
theorem hop_end (h : Hs) (n0 : 0 < h.n) (pv k : Int) {j : Nat} (hj : j ≤ hopN h pv k) : (pv + 1 + (j : Int)) % (h.n : Int) = (k - Clk.wd h.ns k + 1) % (h.n : Int) ↔ j = hopN h pv k := by
  have a := hopN_le h n0 pv k
  have a0 := Int.emod_nonneg (k + 1 - Clk.wd h.ns k - (pv + 1)) (show (h.n : Int) ≠ 0 by omega)
  have e : ((hopN h pv k : Nat) : Int) = (k + 1 - Clk.wd h.ns k - (pv + 1)) % (h.n : Int) := Int.toNat_of_nonneg a0
  have z : (pv + 1 + (hopN h pv k : Int)) % (h.n : Int) = (k - Clk.wd h.ns k + 1) % (h.n : Int) := by
    rw [e, Int.add_emod_emod]
    congr 1
    omega
  constructor
  · intro x
    rw [← z, Int.emod_eq_emod_iff_emod_sub_eq_zero] at x
    have y : (pv + 1 + (j : Int) - (pv + 1 + (hopN h pv k : Int))) = -(((hopN h pv k - j : Nat)) : Int) := by omega
    rw [y] at x
    have d := Int.dvd_neg.mp (Int.dvd_of_emod_eq_zero x)
    have w := Int.emod_eq_zero_of_dvd d
    rw [Int.emod_eq_of_lt (by omega) (by omega)] at w
    omega
  · rintro rfl
    exact z
theorem et_eqS {x y : Str} (ha : Ev ta σ H (.str x)) (hb : Ev tb σ H (.str y)) : EvT (tTest (tOp rEq ta tb)) σ H (decide (x = y)) := by
  refine et_is (et_test (ev_op ha hb fun H1 _ Q q => ⟨rfl, q H1 (Ex.refl H1)⟩)) ?_
  by_cases e : x = y
  · subst e
    rw [decide_eq_true rfl, decide_eq_true rfl]
  · rw [decide_eq_false e, decide_eq_false fun z => e (by injection z)]
end
/-! what rings' ways are worth -/
theorem sum_bd {α : Type} (f : α → Int) (M : Int) : ∀ l : List α, (∀ x ∈ l, 0 ≤ f x ∧ f x ≤ M) → 0 ≤ (l.map f).sum ∧ (l.map f).sum ≤ (l.length : Int) * M
  | [], _ => by simp
  | a :: l, h => by
    have h1 := h a List.mem_cons_self
    have h2 := sum_bd f M l fun x hx => h x (List.mem_cons_of_mem _ hx)
    rw [List.map_cons, List.sum_cons, List.length_cons]
    have e : (((l.length + 1 : Nat)) : Int) * M = (l.length : Int) * M + M := by
      rw [show (((l.length + 1 : Nat)) : Int) = (l.length : Int) + 1 by omega, Int.add_mul, Int.one_mul]
    rw [e]
    omega
def KN (n : Nat) (s : SP) : Prop := 0 ≤ s.2 ∧ s.2 < (n : Int) ∧ (s.1 = "keep" ∨ s.1 = "need")
theorem ring_kn (h : Hs) (n0 : 0 < h.n) : ∀ (r : List Int) (prev : Int), (∀ k ∈ r, 0 ≤ k ∧ k < h.n) → ∀ s ∈ ringS h prev r, KN h.n s
  | [], _, _, _, m => nomatch m
  | k :: r, prev, hin, s, m => by
    obtain ⟨k0, k1⟩ := hin k List.mem_cons_self
    have m : s ∈ keepsS h.n (prev + 1) (hopN h prev k) ++ [(("need" : Str), k)] ++ ringS h k r := m
    rcases List.mem_append.mp m with m | m
    · rcases List.mem_append.mp m with m | m
      · unfold keepsS at m
        obtain ⟨i, _, rfl⟩ := List.mem_map.mp m
        exact ⟨Int.emod_nonneg _ (by omega), Int.emod_lt_of_pos _ (by omega), .inl rfl⟩
      · obtain rfl := List.mem_singleton.mp m
        exact ⟨k0, k1, .inr rfl⟩
    · exact ring_kn h n0 r k (fun x hx => hin x (List.mem_cons_of_mem _ hx)) s m
theorem kn_tell {h : Hs} (ok : HouseOk h) (sm : Small h (10 ^ 31)) {s : SP} (k : KN h.n s) : (0 ≤ (h.tellD s).len ∧ (h.tellD s).len ≤ 48) ∧ 0 ≤ (h.tellD s).val ∧ (h.tellD s).val ≤ 10 ^ 31 := by
  obtain ⟨w, x⟩ := s
  obtain ⟨x0, x1, hw⟩ := k
  obtain ⟨i, rfl⟩ := Int.eq_ofNat_of_zero_le x0
  have hi : i < h.n := Int.ofNat_lt.mp x1
  have t : h.n ≤ 48 := ok.v.top
  rcases hw with e | e
  · obtain rfl : w = "keep" := e
    rw [tellD_of (tell_keep h x0 x1)]
    exact ⟨⟨by show (0 : Int) ≤ 1; decide, by show (1 : Int) ≤ 48; decide⟩, ok.k0 i hi, sm.k i hi⟩
  · obtain rfl : w = "need" := e
    rw [tellD_of (tell_need h x0 x1)]
    have z := Clk.wd_le h.ns (i : Int)
    have t2 : h.ns.length ≤ 48 := t
    refine ⟨⟨?_, ?_⟩, ok.g0 i hi, sm.g i hi⟩
    · show (0 : Int) ≤ (Clk.wd h.ns (i : Int) : Nat)
      omega
    · show ((Clk.wd h.ns (i : Int) : Nat) : Int) ≤ 48
      omega
theorem kn_value {h : Hs} (ok : HouseOk h) (sm : Small h (10 ^ 31)) {ss : List SP} (k : ∀ s ∈ ss, KN h.n s) (l : ss.length ≤ 5000) : (0 ≤ turnsH h ss ∧ turnsH h ss < 10 ^ 102) ∧ 0 ≤ valueH h ss ∧ valueH h ss < 10 ^ 102 := by
  have a := sum_bd (fun s => (h.tellD s).len) 48 ss fun s hs => (kn_tell ok sm (k s hs)).1
  have b := sum_bd (fun s => (h.tellD s).val) (10 ^ 31) ss fun s hs => (kn_tell ok sm (k s hs)).2
  unfold turnsH valueH
  refine ⟨⟨Int.ediv_nonneg a.1 (by omega), ?_⟩, b.1, by omega⟩
  have z := Int.ediv_le_self (h.n : Int) a.1
  omega
end Hn

/-! Drw -/
/-! rows that are drawn, one behind another -/
namespace Hn
open PySem L2
theorem lc_drawNewR {b : Addr} {lo : Int} {n : Nat} {te : TE} {j : Nat} {σ : L2.St} {H1 : Hp} {D : Addr} {Qd : Hp → Prop} (Pr : Nat → List Int → Prop) (hb : Bag H1 b) (nD : H1 D = none) (hz : n ≤ 10000)
    (he : ∀ i (_ : i < n) (H : Hp) (R : VK), Drew b H1 H → (∀ H4 p ns, Drew b H H4 → H p = none → H4 p = some (.lst (iv ns)) → Pr i ns → R (.ref p) H4) → te ((wipe σ [j]).set j (some (.int (lo + i)))) H R)
    (hd : ∀ H (as : List Addr) (rows : List (List Int)), Drew b H1 H → H D = some (.lst (as.map V.ref)) → as.length = n → rows.length = n → (∀ k (h : k < as.length) (h2 : k < rows.length), H as[k] = some (.lst (iv rows[k])) ∧ Pr k rows[k]) → Qd H) : LcG (Itr lo n) (gName j) tYes te [j] σ H1 D Qd := by
  refine lc_range (lo := lo) (n := n) (fun i H => ∃ (as : List Addr) (rows : List (List Int)), Drew b H1 H ∧ H D = some (.lst (as.map V.ref)) ∧ as.length = i ∧ rows.length = i ∧ ∀ k (h : k < as.length) (h2 : k < rows.length), as[k] ≠ D ∧ as[k] ≠ b ∧ H as[k] = some (.lst (iv rows[k])) ∧ Pr k rows[k])
    ⟨[], [], Drew.of hb (same_new nD), upd_same, rfl, rfl, fun k h => nomatch h⟩ (fun i H hi ⟨as, rows, d, hD, hl, hl2, hp⟩ => ?_) (fun H ⟨as, rows, d, hD, hl, hl2, hp⟩ => hd H as rows d hD hl hl2 fun k h h2 => ⟨(hp k h h2).2.2.1, (hp k h h2).2.2.2⟩)
  refine ⟨wipe_one _ _ _, he i hi H _ d fun H4 p ns d4 np hp4 pv => ?_⟩
  have hDb : D ≠ b := hb.ne nD
  have hD4 := d4.but _ _ hDb hD
  have npD : p ≠ D := (ne_of_none hD np).symm
  have npb : p ≠ b := d.bag.ne np
  refine ⟨as.map V.ref, hD4, by rw [List.length_map]; exact small_line (by omega), as ++ [p], rows ++ [ns], (d.trans d4).put nD, ?_, by rw [List.length_append, hl]; rfl, by rw [List.length_append, hl2]; rfl, fun k h h2 => ?_⟩
  · rw [upd_same, List.map_append]
    rfl
  · rw [List.length_append] at h h2
    by_cases hk : k < as.length
    · have hk2 : k < rows.length := by omega
      rw [List.getElem_append_left hk, List.getElem_append_left hk2]
      obtain ⟨q1, q2, q3, q4⟩ := hp k hk hk2
      exact ⟨q1, q2, by rw [upd_ne q1]; exact d4.but _ _ q2 q3, q4⟩
    · have e : k = as.length := by
        have : [p].length = 1 := rfl
        omega
      subst e
      have e2 : as.length = rows.length := by omega
      rw [List.getElem_append_right (Nat.le_refl _), List.getElem_append_right (by omega)]
      simp only [Nat.sub_self, List.getElem_cons_zero, e2]
      rw [← e2, hl]
      exact ⟨npD, npb, by rw [upd_ne npD]; exact hp4, pv⟩
end Hn

/-! DrwE -/
/-! draws, evaluated: what is drawn is not told, only what it keeps -/
namespace Hn
open PySem PySem.Spec L2 Evl
def EvDr (b : Addr) (te : TE) (σ : L2.St) (H : Hp) (P : Int → Prop) : Prop := ∀ Q : VK, (∀ H1 v, Drew b H H1 → P v → Q (.int v) H1) → te σ H Q
def EtDr (b : Addr) (t : TT) (σ : L2.St) (H : Hp) : Prop := ∀ Q : Bool → Hp → Prop, (∀ H1 c, Drew b H H1 → Q c H1) → t σ H Q
section
variable {K : PySem.W.Frag} {b : Addr} {σ : L2.St} {H : Hp} {ta tb te : TE} {t u : TT} {P P1 P2 : Int → Prop} {D : Ends} {tz tu : TS}
theorem Drew.ex {H1 H2 : Hp} (d : Drew b H H1) (e : Ex H1 H2) : Drew b H H2 := d.same e
theorem evdr_is (h : EvDr b te σ H P) (k : ∀ v, P v → P1 v) : EvDr b te σ H P1 := fun Q q => h Q fun H1 v d p => q H1 v d (k v p)
theorem evdr_ev {x : Int} (g : Bag H b) (h : Ev te σ H (.int x)) : EvDr b te σ H (· = x) := fun Q q => h H (Ex.refl H) Q fun H1 e => q H1 x ((Drew.refl g).ex e) rfl
theorem etdr_et {c : Bool} (g : Bag H b) (h : EvT t σ H c) : EtDr b t σ H := fun Q q => h H (Ex.refl H) Q fun H1 e => q H1 c ((Drew.refl g).ex e)
theorem evdr_op {f : Int → Int → Int} {r : R2} (ha : EvDr b ta σ H P1) (hb : ∀ H1, Drew b H H1 → EvDr b tb σ H1 P2) (hr : ∀ x y H1, P1 x → P2 y → RV r (.int x) (.int y) H1 (.int (f x y))) (hp : ∀ x y, P1 x → P2 y → P (f x y)) : EvDr b (tOp r ta tb) σ H P := fun Q q =>
  ha _ fun H1 x d1 p1 => hb H1 d1 _ fun H2 y d2 p2 => hr x y H2 p1 p2 H2 (Ex.refl H2) _ fun H3 e3 => q H3 _ ((d1.trans d2).ex e3) (hp x y p1 p2)
theorem etdr_op {r : R2} {c : Int} {f : Int → Bool} (h : EvDr b ta σ H P) (hr : ∀ v H1, RV r (.int v) (.int c) H1 (.bl (f v))) : EtDr b (tTest (tOp r ta (tC (.int c)))) σ H := fun Q k =>
  h _ fun H1 v d _ => hr v H1 H1 (Ex.refl H1) _ fun H2 e2 => ⟨_, rfl, k H2 _ (d.ex e2)⟩
/-- int(c), c drawn -/
theorem evdr_01 {r : R2} {c : Int} {f : Int → Bool} (h : EvDr b ta σ H P) (hr : ∀ v H1, RV r (.int v) (.int c) H1 (.bl (f v))) :
    EvDr b (tCB (fun xs H Q => (∃ i, xs = [V.int i] ∧ Q (V.int i) H) ∨ ∃ k, xs = [V.bl k] ∧ Q (V.int (if k = true then 1 else 0)) H) (tCons (tOp r ta (tC (.int c))) tNil)) σ H fun v => v = 0 ∨ v = 1 := fun Q k =>
  h _ fun H1 v d _ => hr v H1 H1 (Ex.refl H1) _ fun H2 e2 => .inr ⟨_, rfl, k H2 _ (d.ex e2) (by cases f v <;> simp)⟩
theorem etdr_and (h1 : EtDr b t σ H) (h2 : ∀ H1, Drew b H H1 → EtDr b u σ H1) : EtDr b (tAnd t u) σ H := fun Q q => h1 _ fun H1 c d1 => by
  cases c with
  | true => exact h2 H1 d1 _ fun H2 c d2 => q H2 c (d1.trans d2)
  | false => exact q H1 false d1
theorem q_ifDr (h : EtDr b t σ H) (h1 : ∀ H1, Drew b H H1 → tu { D with nx := tz D } σ H1) (h2 : ∀ H1, Drew b H H1 → tz D σ H1) : tSeq (tIfS t tu tNext) tz D σ H := h _ fun H1 c d => by
  cases c with
  | true => exact h1 H1 d
  | false => exact h2 H1 d
theorem s_ifDr (h : EtDr b t σ H) (h1 : ∀ H1, Drew b H H1 → tu D σ H1) (h2 : ∀ H1, Drew b H H1 → D.nx σ H1) : tIfS t tu tNext D σ H := h _ fun H1 c d => by
  cases c with
  | true => exact h1 H1 d
  | false => exact h2 H1 d
theorem s_setDr {l : Addr} {xs : List V} {i k j : Nat} (h : EvDr b te σ H P) (hl : H l = some (.lst xs)) (nl : l ≠ b) (ho : σ[i]? = some (some (.ref l))) (hi : σ[k]? = some (some (.int (j : Nat)))) (hj : j < xs.length) (kk : ∀ H1 v, Drew b H H1 → P v → D.nx σ (upd H1 l (.lst (xs.set j (.int v))))) :
    tAsg te (gSub (tVar i) (tVar k) rSetL) D σ H := h _ fun H1 v d p => ⟨_, ho, _, hi, l, xs, (j : Int), j, rfl, rfl, d.but _ _ nl hl, ixN_nat hj, kk H1 v d p⟩
theorem q_setDr {l : Addr} {xs : List V} {i k j : Nat} (h : EvDr b te σ H P) (hl : H l = some (.lst xs)) (nl : l ≠ b) (ho : σ[i]? = some (some (.ref l))) (hi : σ[k]? = some (some (.int (j : Nat)))) (hj : j < xs.length) (kk : ∀ H1 v, Drew b H H1 → P v → tz D σ (upd H1 l (.lst (xs.set j (.int v))))) :
    tSeq (tAsg te (gSub (tVar i) (tVar k) rSetL)) tz D σ H := s_setDr (D := { D with nx := tz D }) h hl nl ho hi hj kk
theorem q_ifSetDr {M : Hp → Prop} {l : Addr} {xs : List V} {i k j : Nat} (ht : EtDr b t σ H) (h : ∀ H1, Drew b H H1 → EvDr b te σ H1 P) (hl : H l = some (.lst xs)) (nl : l ≠ b) (ho : σ[i]? = some (some (.ref l))) (hi : σ[k]? = some (some (.int (j : Nat)))) (hj : j < xs.length)
    (m1 : ∀ H1 v, Drew b H H1 → P v → M (upd H1 l (.lst (xs.set j (.int v))))) (m2 : ∀ H1, Drew b H H1 → M H1) (kk : ∀ H1, M H1 → tz D σ H1) : tSeq (tIfS t (tAsg te (gSub (tVar i) (tVar k) rSetL)) tNext) tz D σ H :=
  q_ifDr ht (fun H1 d1 => s_setDr (h H1 d1) (d1.but _ _ nl hl) nl ho hi hj fun H2 v d2 p => kk _ (m1 H2 v (d1.trans d2) p)) fun H1 d => kk _ (m2 H1 d)
theorem s_ifSetDr {l : Addr} {xs : List V} {i k j : Nat} (ht : EtDr b t σ H) (h : ∀ H1, Drew b H H1 → EvDr b te σ H1 P) (hl : H l = some (.lst xs)) (nl : l ≠ b) (ho : σ[i]? = some (some (.ref l))) (hi : σ[k]? = some (some (.int (j : Nat)))) (hj : j < xs.length)
    (m1 : ∀ H1 v, Drew b H H1 → P v → D.nx σ (upd H1 l (.lst (xs.set j (.int v))))) (m2 : ∀ H1, Drew b H H1 → D.nx σ H1) : tIfS t (tAsg te (gSub (tVar i) (tVar k) rSetL)) tNext D σ H :=
  s_ifDr ht (fun H1 d1 => s_setDr (h H1 d1) (d1.but _ _ nl hl) nl ho hi hj fun H2 v d2 p => m1 H2 v (d1.trans d2) p) m2
theorem q_asgDr {i : Nat} (h : EvDr b te σ H P) (k : ∀ H1 v, Drew b H H1 → P v → tz D (σ.set i (some (.int v))) H1) : tSeq (tAsg te (gName i)) tz D σ H := h _ fun H1 v d p => k H1 v d p
theorem ev_intB {x : Bool} (h : Ev ta σ H (.bl x)) : Ev (tCB (fun xs H Q => (∃ i, xs = [V.int i] ∧ Q (V.int i) H) ∨ ∃ k, xs = [V.bl k] ∧ Q (V.int (if k = true then 1 else 0)) H) (tCons ta tNil)) σ H (.int (if x = true then 1 else 0)) := fun H1 e Q q =>
  h H1 e _ fun H2 e2 => .inr ⟨x, rfl, q H2 e2⟩
end
theorem ovR_at {n : Nat} {f : Int → Option Int} {i : Nat} (h : i < (ovR n f).length) : (ovR n f)[i] = oV (f (i : Int)) := by
  have z := ovR_get (f := f) (i := i) (n := n) (by rwa [ovR_len] at h)
  rw [List.getElem?_eq_getElem h] at z
  exact Option.some.inj z
theorem ovR_set {n : Nat} {f : Int → Option Int} {j : Nat} (x : Int) : (ovR n f).set j (.int x) = ovR n (Stl.upI f (j : Int) (some x)) := by
  apply List.ext_getElem
  · rw [List.length_set, ovR_len, ovR_len]
  · intro i h1 h2
    rw [List.getElem_set, ovR_at (n := n) (f := Stl.upI f (j : Int) (some x)), ovR_at]
    by_cases e : j = i
    · subst e
      rw [if_pos rfl, Stl.upI_same]
      rfl
    · rw [if_neg e, Stl.upI_ne (by omega)]
theorem ovR_none (n : Nat) : List.replicate n V.non = ovR n fun _ => none := by
  unfold ovR
  show _ = (List.range n).map fun _ => V.non
  rw [List.map_const', List.length_range]
theorem row_const (n : Nat) (x : Int) : List.replicate n (V.int x) = iv (Clk.row n fun _ => x) := by
  unfold iv Clk.row
  rw [List.map_map]
  show _ = (List.range n).map fun _ => V.int x
  rw [List.map_const', List.length_range]
end Hn

/-! CmpAny -/
/-! o == x by an own __eq__, whatever x is -/
namespace Hn
open PySem PySem.Spec L2
def rCmpAny (K : PySem.W.Frag) (C : Addr) (sp : Sp) (E : XK) : R2 := fun x y H Q => ∃ a dx fs tb, x = .ref a ∧ H a = some (.ins C dx fs) ∧ TyX K H y tb ∧ PySem.W.notFirst K C tb = true ∧ sp [.ref a, y] H (fun v H' => ∃ k, v = .bl k ∧ Q (.bl k) H') E
section
variable {X : Cx} {CX : CXT} {k : Nat} {C f : Addr} {fd : FuncData} {ps : List Str} {sp : Sp} {E : XK}
theorem op_eqAny (hm : Meth X.K C "__eq__" f) (F : FnOk X.prog X.w X.K X.mg X.base CX k f fd ps sp) (hr : Room k X.A) (hb : Binds X.K fd ps []) (hx : Passes CX X E) : OpR X (compareOp .Eq) (rCmpAny X.K C sp E) := by
  intro pins s σ H x y v u Q I rx ry q
  obtain ⟨a, dx, fs, tb, rfl, ha, ty, hn, q⟩ := q
  cases rx
  obtain ⟨mA, J, _⟩ := ins_get I.hok ha
  obtain ⟨od, J, _⟩ := J.look
  obtain ⟨m, hF⟩ := I.fr
  obtain ⟨P, Z, p, _⟩ := kit_of I ry ty
  show wpAny (model X.prog X.w) X.A (richCompare .Eq (.ref a) u) (EP X pins σ Q) X.xe s
  refine PySem.W.cmp_K (op := .Eq) (tb := tb) hr.units0 hF I.ok.mod.kin J (Z.ty _ _ I.kIn p) hn hm.at_ hm.fn ?_
  have r2 : Vals [V.ref a, y] [Value.ref a, u] := .cons rfl (.cons ry .nil)
  refine wpAny_mono (run_fn (dvs := []) F hr hb .nil hx I r2 q) (fun r s' z => ?_) fun _ _ e => e
  obtain ⟨v, H', I', rv, kk, rfl, q'⟩ := z
  cases rv
  exact ⟨.bl kk, H', I', rfl, q'⟩
theorem K_eqAny {K : PySem.W.Frag} (h : X.K = K) (hm : Meth X.K C "__eq__" f) (F : FnOk X.prog X.w X.K X.mg X.base CX k f fd ps sp) (hr : Room k X.A) (hb : Binds X.K fd ps []) (hx : Passes CX X E) : OpR X (compareOp .Eq) (rCmpAny K C sp E) := by subst h; exact op_eqAny hm F hr hb hx
end
theorem nf_list {K : PySem.W.Frag} {C : Addr} : PySem.W.notFirst K C (.type "list") = true := by
  unfold PySem.W.notFirst
  rw [show PySem.W.subIn K (.type "list") (.ref C) = some false from rfl]
  rfl
theorem nf_int {K : PySem.W.Frag} {C : Addr} : PySem.W.notFirst K C (.type "int") = true := by
  unfold PySem.W.notFirst
  rw [show PySem.W.subIn K (.type "int") (.ref C) = some false from rfl]
  rfl
end Hn

/-! HsEq -/
/-! houses alike; rows that may lack, as data -/
namespace Hn
open PySem PySem.Spec L2 Evl
def dO : Option Int → PyData
  | some i => .int i
  | none => .none
abbrev ovO (n : Nat) (f : Int → Option Int) : List (Option Int) := (List.range n).map fun i : Nat => f (i : Int)
theorem ovR_O (n : Nat) (f : Int → Option Int) : ovR n f = (ovO n f).map oV := by
  unfold ovR ovO
  rw [List.map_map]
  rfl
theorem eqvAll_O : ∀ a b : List (Option Int), PyData.eqvAll (a.map dO) (b.map dO) = decide (a = b)
  | [], [] => rfl
  | [], y :: r => rfl
  | x :: r, [] => rfl
  | x :: r, y :: t => by
    show (PyData.eqv (dO x) (dO y) && PyData.eqvAll (r.map dO) (t.map dO)) = decide (x :: r = y :: t)
    rw [eqvAll_O r t]
    have e : PyData.eqv (dO x) (dO y) = decide (x = y) := by
      cases x with
      | none => cases y <;> rfl
      | some i =>
        cases y with
        | none => rfl
        | some j =>
          show (i == j) = _
          by_cases h : i = j
          · subst h
            simp
          · simp [h]
    rw [e]
    by_cases h : x = y
    · subst h
      simp
    · simp [h]
theorem dpAll_O {K : PySem.W.Frag} {H : Hp} : ∀ l : List (Option Int), DpAll K H (l.map oV) (l.map dO)
  | [] => .nil
  | none :: l => .cons .non (dpAll_O l)
  | some i :: l => .cons (.int i) (dpAll_O l)
theorem shaped_O (l : List (Option Int)) : SeqAt.shaped (.list (l.map dO)) = true := shaped_list fun d hd => by
  obtain ⟨x, _, rfl⟩ := List.mem_map.mp hd
  cases x with
  | none => exact ⟨rfl, by decide⟩
  | some i => exact ⟨rfl, by show (0 : Nat) ≤ 10; decide⟩
theorem eqv_tupO (a b : List (Option Int)) : PyData.eqv (.tuple (a.map dO)) (.tuple (b.map dO)) = decide (a = b) := eqvAll_O a b
theorem eqv_listO (a b : List (Option Int)) : PyData.eqv (.list (a.map dO)) (.list (b.map dO)) = decide (a = b) := eqvAll_O a b
/-- two houses alike -/
def hEqB (a b : Hs) : Bool := decide (a.ns = b.ns) && (decide (Clk.row a.n a.g = Clk.row b.n b.g) && (decide (ovO a.n a.r = ovO b.n b.r) && (decide (Clk.row a.n a.k = Clk.row b.n b.k) && decide (ovO a.n a.d = ovO b.n b.d))))
theorem hEqB_self (a : Hs) : hEqB a a = true := by
  unfold hEqB
  simp
theorem hEqB_comm (a b : Hs) : hEqB a b = hEqB b a := by
  unfold hEqB
  congr 1
  · exact decide_eq_decide.mpr eq_comm
  congr 1
  · exact decide_eq_decide.mpr eq_comm
  congr 1
  · exact decide_eq_decide.mpr eq_comm
  congr 1
  · exact decide_eq_decide.mpr eq_comm
  · exact decide_eq_decide.mpr eq_comm
def spHouseEq (K : PySem.W.Frag) (CH CC CN : Addr) : Sp := fun vs H Q _ => ∃ (p : Addr) (y : V) (h : Hs), vs = [.ref p, y] ∧ HouseAt K CH CC CN H p h ∧
  ((∃ q h2, y = .ref q ∧ HouseAt K CH CC CN H q h2 ∧ ∀ H', Ex H H' → Q (.bl (hEqB h h2)) H') ∨ (∃ t, TyX K H y t ∧ PySem.W.kitOne K t (.ref CH) = some false ∧ ∀ H', Ex H H' → Q (.bl false) H'))
section
variable {K : PySem.W.Frag} {CH CC CN C dx p q : Addr} {σ : L2.St} {H : Hp} {ta tb : TE} {h h2 : Hs} {E : XK} {f : Str} {fs : List (Str × V)}
theorem ev_andV {a b : Bool} (ha : Ev ta σ H (.bl a)) (hb : a = true → Ev tb σ H (.bl b)) : Ev (tAndV ta tb) σ H (.bl (a && b)) := fun H1 e Q k =>
  ha H1 e _ fun H2 e2 => ⟨a, rfl, by
    cases a with
    | true => exact hb rfl H2 (e.trans e2) _ fun H3 e3 => k H3 (e2.trans e3)
    | false => exact k H2 e2⟩
theorem ev_fld {v : V} (ha : Ev ta σ H (.ref p)) (hp : H p = some (.ins C dx fs)) (cl : Cls K C) (na : NoAttr K C f) (hv : List.lookup f fs = some v) : Ev (tFld K ta f) σ H v := fun H1 e Q k =>
  ha H1 e _ fun H2 e2 => ⟨p, C, dx, fs, v, rfl, (e.trans e2) _ _ hp, cl, na, hv, k H2 e2⟩
theorem ev_eqH (ha : Ev ta σ H (.ref p)) (hp : HouseAt K CH CC CN H p h) (hb : Ev tb σ H (.ref q)) (hq : HouseAt K CH CC CN H q h2) {neg : Bool} : Ev (tOp (rCmpOwn CH (spHouseEq K CH CC CN) E neg) ta tb) σ H (.bl (if neg then !hEqB h h2 else hEqB h h2)) := fun H1 e Q k =>
  ha H1 e _ fun H2 e2 => hb H2 (e.trans e2) _ fun H3 e3 => by
    have hp3 := hp.same (e.trans (e2.trans e3))
    have hq3 := hq.same (e.trans (e2.trans e3))
    obtain ⟨dx, c, f, tr, tk, td, h1, _⟩ := hp3.ex
    obtain ⟨dy, c', f', tr', tk', td', g1, _⟩ := hq3.ex
    exact ⟨p, q, dx, dy, _, _, rfl, rfl, h1, g1, p, .ref q, h, rfl, hp3, .inl ⟨q, h2, rfl, hq3, fun H4 e4 => ⟨_, rfl, k H4 (e2.trans (e3.trans e4))⟩⟩⟩
theorem ev_eqHx {y : V} {t : Value} (ha : Ev ta σ H (.ref p)) (hp : HouseAt K CH CC CN H p h) (hb : ∀ H1, Ex H H1 → ∀ Q : VK, (∀ y t H2, Ex H1 H2 → TyX K H2 y t → PySem.W.notFirst K CH t = true → PySem.W.kitOne K t (.ref CH) = some false → Q y H2) → tb σ H1 Q) : Ev (tOp (rCmpAny K CH (spHouseEq K CH CC CN) E) ta tb) σ H (.bl false) := fun H1 e Q k =>
  ha H1 e _ fun H2 e2 => hb H2 (e.trans e2) _ fun y t H3 e3 ty nf ko => by
    have hp3 := hp.same (e.trans (e2.trans e3))
    obtain ⟨dx, c, f, tr, tk, td, h1, _⟩ := hp3.ex
    exact ⟨p, dx, _, t, rfl, h1, ty, nf, p, y, h, rfl, hp3, .inr ⟨t, ty, ko, fun H4 e4 => ⟨_, rfl, k H4 (e2.trans (e3.trans e4))⟩⟩⟩
/-- five names of a world; none of them is b -/
theorem q_worldB {D : Ends} {tz : TS} {i1 i2 i3 i4 i5 : Nat} {b w : Addr} (ha : Ev ta σ H (.ref w)) (hw : WorldAt b H w h) (k : ∀ x1 x2 x3 x4 x5 H1, Ex H H1 → H1 x1 = some (.lst (iv h.ns)) → H1 x2 = some (.lst (iv (Clk.row h.n h.g))) → H1 x3 = some (.lst (ovR h.n h.r)) → H1 x4 = some (.lst (iv (Clk.row h.n h.k))) → H1 x5 = some (.lst (ovR h.n h.d)) →
    x1 ≠ b ∧ x2 ≠ b ∧ x3 ≠ b ∧ x4 ≠ b ∧ x5 ≠ b → tz D (((((σ.set i1 (some (.ref x1))).set i2 (some (.ref x2))).set i3 (some (.ref x3))).set i4 (some (.ref x4))).set i5 (some (.ref x5))) H1) : tSeq (tAsg ta (gTup K 5 (gCons (gName i1) (gCons (gName i2) (gCons (gName i3) (gCons (gName i4) (gCons (gName i5) gNil))))))) tz D σ H :=
  ha H (Ex.refl H) _ fun H1 e1 => by
    obtain ⟨x1, x2, x3, x4, x5, h0, h1, h2, h3, h4, h5, n⟩ := hw.ex e1
    exact ⟨w, _, rfl, SqT.of h0, rfl, _, _, rfl, _, _, rfl, _, _, rfl, _, _, rfl, _, _, rfl, rfl, k x1 x2 x3 x4 x5 H1 e1 h1 h2 h3 h4 h5 n⟩
end
end Hn

/-! Near -/
/-! worlds near a world -/
namespace Hn
open PySem PySem.Spec L2 Evl
/-- a world whose rows are at addresses that are ok -/
def WorldF (okA : Addr → Prop) (H : Hp) (w : Addr) (h : Hs) : Prop := ∃ x1 x2 x3 x4 x5 : Addr, H w = some (.tup [.ref x1, .ref x2, .ref x3, .ref x4, .ref x5]) ∧ H x1 = some (.lst (iv h.ns)) ∧ H x2 = some (.lst (iv (Clk.row h.n h.g))) ∧ H x3 = some (.lst (ovR h.n h.r)) ∧
  H x4 = some (.lst (iv (Clk.row h.n h.k))) ∧ H x5 = some (.lst (ovR h.n h.d)) ∧ okA x1 ∧ okA x2 ∧ okA x3 ∧ okA x4 ∧ okA x5
theorem WorldF.world {okA : Addr → Prop} {b : Addr} {H : Hp} {w : Addr} {h : Hs} (x : WorldF okA H w h) (k : ∀ a, okA a → a ≠ b) : WorldAt b H w h := by
  obtain ⟨x1, x2, x3, x4, x5, h0, h1, h2, h3, h4, h5, n1, n2, n3, n4, n5⟩ := x
  exact ⟨x1, x2, x3, x4, x5, h0, h1, h2, h3, h4, h5, k _ n1, k _ n2, k _ n3, k _ n4, k _ n5⟩
theorem WorldF.but {okA : Addr → Prop} {L : Addr} {H H' : Hp} {w : Addr} {h : Hs} (x : WorldF okA H w h) (k : ∀ a, okA a → a ≠ L) (g : ∃ xs, H L = some (.lst xs)) (e : But L H H') : WorldF okA H' w h := by
  obtain ⟨x1, x2, x3, x4, x5, h0, h1, h2, h3, h4, h5, n1, n2, n3, n4, n5⟩ := x
  obtain ⟨xs, hb⟩ := g
  exact ⟨x1, x2, x3, x4, x5, e _ _ (ne_of h0 hb fun z => nomatch z) h0, e _ _ (k _ n1) h1, e _ _ (k _ n2) h2, e _ _ (k _ n3) h3, e _ _ (k _ n4) h4, e _ _ (k _ n5) h5, n1, n2, n3, n4, n5⟩
/-- worlds unlike h -/
def NearL (okA : Addr → Prop) (h : Hs) (H : Hp) (as : List Addr) : Prop := ∀ a ∈ as, ∃ h', WorldF okA H a h' ∧ HouseOk h' ∧ hEqB h h' = false
theorem NearL.but {okA : Addr → Prop} {L : Addr} {H H' : Hp} {h : Hs} {as : List Addr} (x : NearL okA h H as) (k : ∀ a, okA a → a ≠ L) (g : ∃ xs, H L = some (.lst xs)) (e : But L H H') : NearL okA h H' as := fun a ha => by
  obtain ⟨h', h1, h2, h3⟩ := x a ha
  exact ⟨h', h1.but k g e, h2, h3⟩
theorem NearL.snoc {okA : Addr → Prop} {H : Hp} {h h' : Hs} {as : List Addr} {a : Addr} (x : NearL okA h H as) (h1 : WorldF okA H a h') (h2 : HouseOk h') (h3 : hEqB h h' = false) : NearL okA h H (as ++ [a]) := fun c hc => by
  rcases List.mem_append.mp hc with hc | hc
  · exact x c hc
  · obtain rfl := List.mem_singleton.mp hc
    exact ⟨h', h1, h2, h3⟩
def spNear : Sp := fun vs H Q _ => ∃ (b w : Addr) (h : Hs), vs = [.ref b, .ref w] ∧ Bag H b ∧ WorldAt b H w h ∧ HouseOk h ∧ ∀ H' l (as : List Addr), H l = none → Drew b H H' → H' l = some (.lst (as.map V.ref)) → (∀ a ∈ as, ∃ h', WorldAt b H' a h' ∧ HouseOk h' ∧ hEqB h h' = false) → Q (.ref l) H'
/-! other stays, another number at one hour -/
theorem near_stays {h : Hs} {ns : List Int} (ne : ¬ h.ns = ns) : hEqB h { h with ns := ns } = false := by
  unfold hEqB
  show (decide (h.ns = ns) && _) = false
  rw [decide_eq_false ne]
  rfl
theorem rot_valid {ns : List Int} (v : Clk.Valid ns) : Clk.Valid (ns.drop 1 ++ ns.take 1) := by
  by_cases e : ns.length = 1
  · have z : ns.drop 1 ++ ns.take 1 = ns := by
      rw [List.drop_of_length_le (by omega), List.take_of_length_le (by omega)]
      rfl
    rw [z]
    exact v
  · have p := v.pos
    have z := Clk.cut_trn (ns := ns) p 1
    rw [Int.emod_eq_of_lt (by decide) (by omega)] at z
    have z : ns.drop 1 ++ ns.take 1 = Clk.trn ns 1 := z
    rw [z]
    exact Clk.valid_trn v 1
theorem other_len {h : Hs} {ns : List Int} (ok : HouseOk h) (v : Clk.Valid ns) (e : ns.length = h.n) : HouseOk { h with ns := ns } := by
  have e' : ns.length = h.ns.length := e
  exact ⟨v, fun i hi => ok.g0 i (by show i < h.ns.length; rw [← e']; exact hi), fun i hi => ok.r0 i (by show i < h.ns.length; rw [← e']; exact hi), fun i hi => ok.k0 i (by show i < h.ns.length; rw [← e']; exact hi), fun i hi => ok.d0 i (by show i < h.ns.length; rw [← e']; exact hi)⟩
def bump (F : Int → Option Int) (j : Int) : Int := match F j with
  | none => 0
  | some x => x + 1
theorem bump_ne (F : Int → Option Int) (j : Int) : F j ≠ some (bump F j) := by
  unfold bump
  cases F j with
  | none => exact fun z => nomatch z
  | some x => exact fun z => by have w : x = x + 1 := Option.some.inj z; omega
theorem row_ne {n j : Nat} (hj : j < n) {f g : Int → Int} (h : f (j : Int) ≠ g (j : Int)) : Clk.row n f ≠ Clk.row n g := fun z => h (by
  have a := Clk.row_get (f := f) hj
  rw [z, Clk.row_get hj] at a
  exact (Option.some.inj a).symm)
theorem ovO_ne {n j : Nat} (hj : j < n) {f g : Int → Option Int} (h : f (j : Int) ≠ g (j : Int)) : ovO n f ≠ ovO n g := fun z => h (by
  have a : (ovO n f)[j]? = some (f (j : Int)) := by
    unfold ovO
    rw [List.getElem?_map, List.getElem?_range hj]
    rfl
  have b : (ovO n g)[j]? = some (g (j : Int)) := by
    unfold ovO
    rw [List.getElem?_map, List.getElem?_range hj]
    rfl
  rw [z, b] at a
  exact (Option.some.inj a).symm)
/-- row number at of a house, another number at hour j -/
def Hs.with_ (h : Hs) (at_ : Nat) (j : Nat) : Hs := match at_ with
  | 1 => { h with g := Stl.upI h.g (j : Int) (h.g (j : Int) + 1) }
  | 2 => { h with r := Stl.upI h.r (j : Int) (some (bump h.r (j : Int))) }
  | 3 => { h with k := Stl.upI h.k (j : Int) (h.k (j : Int) + 1) }
  | _ => { h with d := Stl.upI h.d (j : Int) (some (bump h.d (j : Int))) }
def Hs.rowF (h : Hs) (at_ : Nat) : Int → Option Int := match at_ with
  | 1 => fun i => some (h.g i)
  | 2 => h.r
  | 3 => fun i => some (h.k i)
  | _ => h.d
theorem upI_0 {n : Nat} {f : Int → Int} {j : Int} {x : Int} (l : ∀ i : Nat, i < n → 0 ≤ f i) (hx : 0 ≤ x) : ∀ i : Nat, i < n → 0 ≤ Stl.upI f j x i := fun i hi => by
  unfold Stl.upI
  split
  · exact hx
  · exact l i hi
theorem upO_0 {n : Nat} {f : Int → Option Int} {j : Int} {x : Int} (l : ∀ i : Nat, i < n → ∀ y, f i = some y → 0 ≤ y) (hx : 0 ≤ x) : ∀ i : Nat, i < n → ∀ y, Stl.upI f j (some x) i = some y → 0 ≤ y := fun i hi y => by
  unfold Stl.upI
  split
  · intro z
    obtain rfl := Option.some.inj z
    exact hx
  · exact l i hi y
theorem bump_0 {n j : Nat} {f : Int → Option Int} (hj : j < n) (l : ∀ i : Nat, i < n → ∀ y, f i = some y → 0 ≤ y) : 0 ≤ bump f (j : Int) := by
  unfold bump
  cases e : f (j : Int) with
  | none => exact Int.le_refl 0
  | some x =>
    have := l j hj x e
    show 0 ≤ x + 1
    omega
theorem with_ok {h : Hs} (ok : HouseOk h) {a j : Nat} (hj : j < h.n) : HouseOk (h.with_ a j) := by
  have g0 := ok.g0 j hj
  have k0 := ok.k0 j hj
  unfold Hs.with_
  split
  · exact ⟨ok.v, upI_0 ok.g0 (by omega), ok.r0, ok.k0, ok.d0⟩
  · exact ⟨ok.v, ok.g0, upO_0 ok.r0 (bump_0 hj ok.r0), ok.k0, ok.d0⟩
  · exact ⟨ok.v, ok.g0, ok.r0, upI_0 ok.k0 (by omega), ok.d0⟩
  · exact ⟨ok.v, ok.g0, ok.r0, ok.k0, upO_0 ok.d0 (bump_0 hj ok.d0)⟩
theorem with_ne {h : Hs} {a j : Nat} (hj : j < h.n) : hEqB h (h.with_ a j) = false := by
  unfold hEqB Hs.with_
  split
  · have z := row_ne (f := h.g) (g := Stl.upI h.g (j : Int) (h.g (j : Int) + 1)) hj (by rw [Stl.upI_same]; omega)
    show (decide (h.ns = h.ns) && (decide (Clk.row h.n h.g = Clk.row h.n _) && _)) = false
    rw [decide_eq_false z, Bool.false_and, Bool.and_false]
  · have z := ovO_ne (f := h.r) (g := Stl.upI h.r (j : Int) (some (bump h.r (j : Int)))) hj (by rw [Stl.upI_same]; exact bump_ne _ _)
    show (decide (h.ns = h.ns) && (_ && (decide (ovO h.n h.r = ovO h.n _) && _))) = false
    rw [decide_eq_false z, Bool.false_and, Bool.and_false, Bool.and_false]
  · have z := row_ne (f := h.k) (g := Stl.upI h.k (j : Int) (h.k (j : Int) + 1)) hj (by rw [Stl.upI_same]; omega)
    show (decide (h.ns = h.ns) && (_ && (_ && (decide (Clk.row h.n h.k = Clk.row h.n _) && _)))) = false
    rw [decide_eq_false z, Bool.false_and, Bool.and_false, Bool.and_false, Bool.and_false]
  · have z := ovO_ne (f := h.d) (g := Stl.upI h.d (j : Int) (some (bump h.d (j : Int)))) hj (by rw [Stl.upI_same]; exact bump_ne _ _)
    show (decide (h.ns = h.ns) && (_ && (_ && (_ && decide (ovO h.n h.d = ovO h.n _))))) = false
    rw [decide_eq_false z, Bool.and_false, Bool.and_false, Bool.and_false, Bool.and_false]
theorem row_someN (n : Nat) (f : Int → Int) : iv (Clk.row n f) = ovR n fun i => some (f i) := by
  unfold iv Clk.row ovR
  rw [List.map_map]
  rfl
theorem upI_some (f : Int → Int) (j x : Int) : Stl.upI (fun i => some (f i)) j (some x) = fun i => some (Stl.upI f j x i) := funext fun i => by
  unfold Stl.upI
  split <;> rfl
section
variable {K : PySem.W.Frag} {σ : L2.St} {H : Hp} {te ta tb tx : TE} {p : Addr} {xs ys : List V}
/-- t[f:], t[:f] of a tuple, not the whole -/
theorem eu_cutLo {f : Nat} (h : Ev te σ H (.ref p)) (hp : H p = some (.tup xs)) (hx : ∀ H1, Ex H H1 → Ev tx σ H1 (.int (f : Nat))) (f0 : 0 < f) (f1 : f ≤ xs.length) : EvU (tSl (rSlA K) te (tPart tx) tNoPart) σ H (xs.drop f) := fun H1 e Q k =>
  h H1 e _ fun H2 e2 => hx _ (e.trans e2) _ (Ex.refl _) _ fun H3 e3 => ⟨(f : Int), rfl, p, xs, rfl, SqT.of ((e.trans (e2.trans e3)) _ _ hp), fun z => absurd z.1 (by rw [HT.sIx_nat]; omega), fun _ r nr => k r _ (fresh_back (e2.trans e3) nr) ((e2.trans e3).trans (Ex.new nr)) (by rw [upd_same, cut_lo f1])⟩
theorem eu_cutHi {f : Nat} (h : Ev te σ H (.ref p)) (hp : H p = some (.tup xs)) (hx : ∀ H1, Ex H H1 → Ev tx σ H1 (.int (f : Nat))) (f1 : f < xs.length) : EvU (tSl (rSlA K) te tNoPart (tPart tx)) σ H (xs.take f) := fun H1 e Q k =>
  h H1 e _ fun H2 e2 => hx _ (e.trans e2) _ (Ex.refl _) _ fun H3 e3 => ⟨(f : Int), rfl, p, xs, rfl, SqT.of ((e.trans (e2.trans e3)) _ _ hp), fun z => absurd z.2 (by rw [HT.sIx_nat]; omega), fun _ r nr => k r _ (fresh_back (e2.trans e3) nr) ((e2.trans e3).trans (Ex.new nr)) (by rw [upd_same, cut_hi (Nat.le_of_lt f1)])⟩
theorem eu_catT (ha : EvU ta σ H xs) (hb : EvU tb σ H ys) (ne : xs ≠ []) (hz : xs.length + ys.length ≤ 100) : EvU (tOp (rCatT K) ta tb) σ H (xs ++ ys) := fun H1 e Q k =>
  ha H1 e _ fun a H2 na e2 h1 => hb H2 (e.trans e2) _ fun b H3 nb e3 h2 => ⟨a, b, xs, ys, rfl, rfl, SqT.of (e3 _ _ h1), SqT.of h2, ne, sz_of (by omega), fun z => by
    subst z
    exact k a H3 na (e2.trans e3) (by rw [List.append_nil]; exact e3 _ _ h1), fun _ p np => k p _ (fresh_back (e2.trans e3) np) ((e2.trans e3).trans (Ex.new np)) upd_same⟩
end
end Hn

/-! Longer -/
/-! a house of one hour more -/
namespace Hn
open PySem PySem.Spec L2 Evl
def lastS (ns : List Int) : Int := max 1 (Clk.S ns ((ns.length : Int) - 1) - 1)
theorem at_neg1 {ns : List Int} (p : 0 < ns.length) : atI (iv ns) (-1) = some (.int (Clk.S ns ((ns.length : Int) - 1))) := by
  have e : ixN (iv ns).length (-1) = some (ns.length - 1) := by
    unfold ixN
    rw [iv_len, if_neg (by omega), if_pos (by omega)]
    congr 1
    omega
  have s := Clk.S_get (ns := ns) (i := ns.length - 1) (by omega)
  rw [show (((ns.length - 1 : Nat)) : Int) = (ns.length : Int) - 1 by omega] at s
  unfold atI
  rw [e, s]
  show (iv ns)[ns.length - 1]? = _
  unfold iv
  rw [List.getElem?_map, List.getElem?_eq_getElem (by omega)]
  rfl
theorem longS_valid {ns : List Int} (v : Clk.Valid ns) (t : ns.length ≤ 47) : Clk.Valid (ns ++ [lastS ns]) := by
  have p := v.pos
  have ll : (ns ++ [lastS ns]).length = ns.length + 1 := by rw [List.length_append]; rfl
  have e1 : 1 ≤ lastS ns := Int.le_max_left _ _
  have e2 : lastS ns ≤ ns.length := by
    unfold lastS
    have := v.hi ((ns.length : Int) - 1)
    omega
  have old : ∀ {i : Nat} (h : i < ns.length) (h' : i < (ns ++ [lastS ns]).length), (ns ++ [lastS ns])[i] = Clk.S ns i := fun {i} h h' => by
    rw [List.getElem_append_left h, Clk.S_get h]
  have new : ∀ (h' : ns.length < (ns ++ [lastS ns]).length), (ns ++ [lastS ns])[ns.length] = lastS ns := fun h' => by
    rw [List.getElem_append_right (Nat.le_refl _)]
    simp
  have sold : ∀ {i : Nat}, i < ns.length → Clk.S (ns ++ [lastS ns]) i = Clk.S ns i := fun {i} h => by
    rw [Clk.S_get (show i < (ns ++ [lastS ns]).length by omega), old h]
  have snew : Clk.S (ns ++ [lastS ns]) ns.length = lastS ns := by rw [Clk.S_get (show ns.length < (ns ++ [lastS ns]).length by omega), new]
  refine Clk.Valid.of (by omega) (by omega) (fun i h => ?_) fun i h => ?_
  · by_cases c : i < ns.length
    · rw [old c h]
      have := v.lo (i : Int)
      have := v.hi (i : Int)
      omega
    · obtain rfl : i = ns.length := by omega
      rw [new h]
      omega
  · by_cases c : i < ns.length
    · rw [sold c]
      by_cases c2 : i + 1 < ns.length
      · have z := sold c2
        rw [show (((i + 1 : Nat)) : Int) = (i : Int) + 1 by omega] at z
        rw [z]
        exact v.near i
      · have ei : i + 1 = ns.length := by omega
        rw [show (i : Int) + 1 = (ns.length : Int) by omega, snew]
        unfold lastS
        rw [show (ns.length : Int) - 1 = (i : Int) by omega]
        omega
    · obtain rfl : i = ns.length := by omega
      have z : Clk.S (ns ++ [lastS ns]) ((ns.length : Int) + 1) = Clk.S (ns ++ [lastS ns]) ((0 : Nat) : Int) := Clk.S_mod (by
        rw [ll, show ((ns.length : Int) + 1) = (((ns.length + 1 : Nat)) : Int) by omega, Int.emod_self]
        rfl)
      have w : Clk.S ns ((ns.length : Int) - 1 + 1) = Clk.S ns ((0 : Nat) : Int) := Clk.S_mod (by
        rw [show (ns.length : Int) - 1 + 1 = (ns.length : Int) by omega, Int.emod_self]
        rfl)
      have y := v.near ((ns.length : Int) - 1)
      have x := v.lo ((0 : Nat) : Int)
      rw [w] at y
      rw [snew, z, sold p]
      unfold lastS
      omega
def Hs.longer (h : Hs) : Hs := ⟨h.ns ++ [lastS h.ns], fun i => if i < (h.n : Int) then h.g i else 0, fun i => if i < (h.n : Int) then h.r i else none, fun i => if i < (h.n : Int) then h.k i else 0, fun i => if i < (h.n : Int) then h.d i else none⟩
theorem longer_n (h : Hs) : h.longer.n = h.n + 1 := by
  show (h.ns ++ [lastS h.ns]).length = _
  rw [List.length_append]
  rfl
theorem row_more0 (n : Nat) (g : Int → Int) : iv (Clk.row n g) ++ [V.int 0] = iv (Clk.row (n + 1) fun x => if x < (n : Int) then g x else 0) := by
  unfold iv Clk.row
  rw [List.range_succ, List.map_append, List.map_append, List.map_map, List.map_map, List.map_cons, List.map_nil, List.map_cons, List.map_nil]
  congr 1
  · apply List.map_congr_left
    intro i hi
    have := List.mem_range.mp hi
    show V.int (g i) = V.int (if (i : Int) < (n : Int) then g i else 0)
    rw [if_pos (by omega)]
  · show [V.int 0] = [V.int (if (n : Int) < (n : Int) then g n else 0)]
    rw [if_neg (by omega)]
theorem ovR_more (n : Nat) (f : Int → Option Int) : ovR n f ++ [V.non] = ovR (n + 1) fun x => if x < (n : Int) then f x else none := by
  unfold ovR
  rw [List.range_succ, List.map_append, List.map_cons, List.map_nil]
  congr 1
  · apply List.map_congr_left
    intro i hi
    have := List.mem_range.mp hi
    show oV (f i) = oV (if (i : Int) < (n : Int) then f i else none)
    rw [if_pos (by omega)]
  · show [V.non] = [oV (if (n : Int) < (n : Int) then f n else none)]
    rw [if_neg (by omega)]
    rfl
theorem longer_ok {h : Hs} (ok : HouseOk h) (t : h.n ≤ 47) : HouseOk h.longer := by
  refine ⟨longS_valid ok.v t, fun i hi => ?_, fun i hi x => ?_, fun i hi => ?_, fun i hi x => ?_⟩
  · show 0 ≤ if (i : Int) < (h.n : Int) then h.g i else 0
    split
    · exact ok.g0 i (by omega)
    · decide
  · show (if (i : Int) < (h.n : Int) then h.r i else none) = some x → 0 ≤ x
    split
    · exact ok.r0 i (by omega) x
    · exact fun z => nomatch z
  · show 0 ≤ if (i : Int) < (h.n : Int) then h.k i else 0
    split
    · exact ok.k0 i (by omega)
    · decide
  · show (if (i : Int) < (h.n : Int) then h.d i else none) = some x → 0 ≤ x
    split
    · exact ok.d0 i (by omega) x
    · exact fun z => nomatch z
theorem longer_ne (h : Hs) : hEqB h h.longer = false := by
  unfold hEqB
  have z : ¬ h.ns = h.longer.ns := fun z => by
    have := congrArg List.length z
    have w := longer_n h
    have this : h.n = h.longer.n := this
    omega
  rw [decide_eq_false z]
  rfl
end Hn

/-! HeadX -/
/-! the end by ONE run of the top in the kernel: a Hook whose looks are a list of Bools and the defs, so nothing of the top is written out -/
namespace Hn
open PySem PySem.Spec L2 PyProof.Rows
/-! ### the written part: what the module's names reach -/
def refsH (o : Obj) : List Addr := match o.data with
  | .dict es _ => es.toList.flatMap fun e => He.refV e.val
  | .func fd => He.refV fd.code ++ He.refV fd.kwdefaults
  | .cls cd => [cd.ns]
  | .fields vs => vs.toList.flatMap He.refV
  | _ => []
def reachH (g : Addr → Option Obj) : Nat → List Addr → PySem.W.Frag
  | 0, _ => []
  | n + 1, as => He.frG g as ++ reachH g n ((He.frG g as).flatMap fun q => refsH q.2)
def partH (g : Addr → Option Obj) : PySem.W.Frag := He.frG g [cStatics] ++ reachH g 6 [mainGlobals]
theorem frG_all {g : Addr → Option Obj} : ∀ (as : List Addr), ∀ q ∈ He.frG g as, g q.1 = some q.2 := fun as q hq => by
  unfold He.frG at hq
  obtain ⟨b, _, e⟩ := List.mem_filterMap.mp hq
  obtain ⟨o, e1, e2⟩ := Option.map_eq_some_iff.mp e
  subst e2
  exact e1
theorem reach_all {g : Addr → Option Obj} : ∀ (n : Nat) (as : List Addr), ∀ q ∈ reachH g n as, g q.1 = some q.2
  | 0, _, q, hq => nomatch hq
  | n + 1, as, q, hq => by
    rcases List.mem_append.mp hq with h | h
    · exact frG_all as q h
    · exact reach_all n _ q h
theorem lookupMem {a : Addr} {o : Obj} : ∀ {l : List (Addr × Obj)}, l.lookup a = some o → (a, o) ∈ l
  | [], h => nomatch h
  | (b, u) :: r, h => by
    have h2 : (match a == b with | true => some u | false => r.lookup a) = some o := h
    cases q : (a == b) with
    | true =>
      rw [q] at h2
      have e : u = o := Option.some.inj h2
      rw [beq_iff_eq.mp q, e]
      exact List.mem_cons_self
    | false =>
      rw [q] at h2
      exact List.mem_cons_of_mem _ (lookupMem h2)
theorem part_in {h : Heap} : (partH h.get?).In h := fun a o e => by
  rcases List.mem_append.mp (lookupMem e) with z | z
  · exact frG_all _ _ z
  · exact reach_all _ _ _ z
/-! ### reckoned once -/
def frObj {α : Type} (o : Obj) (k : Obj → α) : α := match o with
  | ⟨c, d, t, s⟩ => k ⟨c, d, t, s⟩
def frPart {α : Type} : PySem.W.Frag → (PySem.W.Frag → α) → α
  | [], k => k []
  | (a, o) :: r, k => HandSHeadRun.frNat a fun a => frObj o fun o => frPart r fun r => k ((a, o) :: r)
theorem frPart_eq {α : Type} : ∀ (l : PySem.W.Frag) (k : PySem.W.Frag → α), frPart l k = k l
  | [], _ => rfl
  | (a, o) :: r, k => by
    obtain ⟨c, d, t, s⟩ := o
    show (HandSHeadRun.frNat a fun a => frPart r fun r => k ((a, ⟨c, d, t, s⟩) :: r)) = _
    rw [HandSHeadRun.frNat_eq, frPart_eq r]
/-! ### defs -/
structure FnE where
  at_ : PySem.W.Frag → Addr
  name : Str
  qual : Str
  st : Stmt
  kwd : List (Str × He.Dv) := []
def FnE.val (d : FnE) : He.FnV := some (d.name, d.qual, defArgs d.st, .stmts (defBody d.st), defScope d.st, mainGlobals, [], .none, builtinsNs)
def FnE.obs (K : PySem.W.Frag) (d : FnE) : He.FnV := match K.lookup (d.at_ K) with
  | some ⟨_, _, .func fd, _⟩ => some (fd.name, fd.qualname, fd.params, fd.body, fd.scope, fd.globals, fd.closure, fd.defaults, fd.builtins)
  | _ => none
def FnE.kws (K : PySem.W.Frag) (d : FnE) : List (Str × V) := d.kwd.map fun q => (q.1, q.2.v K)
def FnE.ok (K : PySem.W.Frag) (d : FnE) : Bool := PySem.W.keepIn K (.ref (d.at_ K)) && (match K.lookup (d.at_ K) with
  | some ⟨_, _, .func fd, _⟩ => PySem.W.codeIn K fd.code d.qual && He.kwdB K fd.kwdefaults (d.kws K)
  | _ => false)
theorem FnE.fun_ {K : PySem.W.Frag} {d : FnE} (e : d.obs K = d.val) (c : d.ok K = true) : ∃ fd, Fun K d.name d.qual d.st (d.at_ K) fd ∧ He.kwdB K fd.kwdefaults (d.kws K) = true := by
  obtain ⟨kp, c2⟩ := He.ba c
  unfold FnE.obs at e
  cases q : K.lookup (d.at_ K) with
  | none =>
    rw [q] at c2
    cases c2
  | some o =>
    obtain ⟨oc, od, dt, osl⟩ := o
    rw [q] at c2 e
    cases dt with
    | func fd =>
      obtain ⟨n1, n2, n3, n4, n5, n6, n7, n8, n9, n10, n11, n12, n13, n14, n15⟩ := fd
      have e2 : (some (n1, n2, n3, n4, n5, n6, n7, n8, n15) : He.FnV) = some (d.name, d.qual, defArgs d.st, .stmts (defBody d.st), defScope d.st, mainGlobals, [], .none, builtinsNs) := e
      simp only [Option.some.injEq, Prod.mk.injEq] at e2
      obtain ⟨h1, h2, h3, h4, h5, h6, h7, h8, h9⟩ := e2
      subst h1 h2 h3 h4 h5 h6 h7 h8 h9
      obtain ⟨k1, k2⟩ := He.ba (show (PySem.W.codeIn K n13 d.qual && He.kwdB K n9 (d.kws K)) = true from c2)
      exact ⟨_, ⟨⟨oc, od, n9, n10, n11, n12, n13, n14, osl, rfl, q, k1⟩, kp⟩, k2⟩
    | _ => cases c2
theorem _root_.L2.Fun.funD {K : PySem.W.Frag} {x qual : Str} {st : Stmt} {f : Addr} {fd : FuncData} {kws : List (Str × He.Dv)} (F : Fun K x qual st f fd) (c : He.kwdB K fd.kwdefaults (kws.map fun q => (q.1, q.2.v K)) = true) :
    FunD K x qual (defArgs st) (defBody st) (defScope st) [] (kws.map fun q => (q.1, q.2.v K)) f fd := by
  obtain ⟨oc, od, kV, doc, pm, an, cdv, ct, osl, rfl, lk, hcd⟩ := F.ex
  exact ⟨⟨oc, od, .none, kV, doc, pm, an, cdv, ct, osl, rfl, lk, hcd, .inl ⟨rfl, rfl⟩, He.kwdB_ok c⟩, F.kp⟩
/-- all keyword-only parameters are told -/
theorem Kw.kb {K : PySem.W.Frag} {x qual : Str} {params : Arguments} {body : List Stmt} {scope : Scope} {kws : List (Str × V)} {f : Addr} {fd : FuncData} {ps : List Str} (F : FunD K x qual params body scope [] kws f fd) (n : Nat) (ks : List Str) (hk : kws ≠ [])
    (h : ∀ (D : Addr) (doc pm : Value) (an : Option Addr) (cdv ct : Value) (us ws : List Value), us.length = n → ws.length = ks.length → bindArgs (PySem.W.fnOf x qual params body scope .none (.ref D) doc pm an cdv ct) ⟨us, ks.zip ws⟩ = pure (ps.zip (us ++ ws))) :
    KBn K fd ps n ks (fun us ws => us ++ ws) (fun vs zs => vs ++ zs) := by
  obtain ⟨mv, hb⟩ := F.kbinds0 (ps := ps) n ks [] (fun us mv ws => us ++ (mv ++ ws)) hk (fun q hq => nomatch hq) (fun r1 r2 r3 => r1.append (r2.append r3)) (fun D doc pm an cdv ct us mv ws l1 l2 l3 => by
    obtain rfl := List.length_eq_zero_iff.mp l2
    exact h D doc pm an cdv ct us ws l1 l3)
  exact ⟨fun s us ws X l1 l2 => by
    obtain ⟨oc, od, dV, kV, doc, pm, an, cdv, ct, osl, rfl, lk, hcd, hD, hK⟩ := F.ex
    rcases hD with ⟨_, rfl⟩ | ⟨e, _⟩
    · rcases hK with e | ⟨D, rfl, hq⟩
      · exact absurd e hk
      · exact .of_eq (h D doc pm an cdv ct us ws l1 l2)
    · exact absurd rfl e, fun r1 r2 => r1.append r2⟩
/-! ### looks -/
def recF (K : PySem.W.Frag) (p : Addr) (T : String) : Addr := match PySem.W.recIn K p T with
  | some (.ref f :: _) => f
  | _ => 0
def recB (K : PySem.W.Frag) (p : Addr) (T : String) : Bool := match PySem.W.recIn K p T with
  | some (.ref _ :: _) => true
  | _ => false
theorem recB_ok {K : PySem.W.Frag} {p : Addr} {T : String} (h : recB K p T = true) : ∃ rest, PySem.W.recIn K p T = some (.ref (recF K p T) :: rest) := by
  unfold recB at h
  unfold recF
  split at h
  · rename_i f r e
    exact ⟨r, e⟩
  · cases h
def propB (K : PySem.W.Frag) (C : Addr) (f : Str) : Bool := He.eqO (PySem.W.findIn K (.ref C) f) (some (some (.ref (He.ma K C f)))) && (He.eqO (PySem.W.specialIn K (.ref (He.ma K C f)) "__get__") (some (some (.builtin "property.__get__"))) &&
  (decide (PySem.W.takesIn K (.ref (He.ma K C f)) = some true) && recB K (He.ma K C f) "property"))
theorem propB_ok {K : PySem.W.Frag} {C : Addr} {f : Str} (h : propB K C f = true) : PropOf K C f (He.ma K C f) (recF K (He.ma K C f) "property") := by
  obtain ⟨h1, h⟩ := He.ba h
  obtain ⟨h2, h⟩ := He.ba h
  obtain ⟨h3, h4⟩ := He.ba h
  exact ⟨He.eqO_ok h1, He.eqO_ok h2, of_decide_eq_true h3, recB_ok h4⟩
def smP (K : PySem.W.Frag) (C : Addr) (f : Str) : Addr := match PySem.W.findCls K (.ref C) (.type "type") f with
  | some (.get _ (.ref p) _ _) => p
  | _ => 0
def cfB (K : PySem.W.Frag) (C : Addr) (f : Str) : Bool := match PySem.W.findCls K (.ref C) (.type "type") f with
  | some (.get (.builtin g) (.ref _) .none (.ref C')) => decide (g = "staticmethod.__get__") && decide (C' = C)
  | _ => false
theorem cfB_ok {K : PySem.W.Frag} {C : Addr} {f : Str} (h : cfB K C f = true) : PySem.W.findCls K (.ref C) (.type "type") f = some (.get (.builtin "staticmethod.__get__") (.ref (smP K C f)) .none (.ref C)) := by
  unfold cfB at h
  unfold smP
  split at h
  · rename_i g p C' e
    obtain ⟨h1, h2⟩ := He.ba h
    rw [e, of_decide_eq_true h1, of_decide_eq_true h2]
  · cases h
def smB (K : PySem.W.Frag) (C : Addr) (f : Str) : Bool := PySem.W.readsIn K C (.type "type") && (He.eqO (PySem.W.specialIn K (.ref C) "__getattribute__") (some (some (.builtin "type.__getattribute__"))) && (cfB K C f && recB K (smP K C f) "staticmethod"))
theorem smB_ok {K : PySem.W.Frag} {C : Addr} {f : Str} (h : smB K C f = true) : SMet K C f (smP K C f) (recF K (smP K C f) "staticmethod") := by
  obtain ⟨h1, h⟩ := He.ba h
  obtain ⟨h2, h⟩ := He.ba h
  obtain ⟨h3, h4⟩ := He.ba h
  exact ⟨h1, He.eqO_ok h2, cfB_ok h3, recB_ok h4⟩
/-- an error's class with an __init__ of its own -/
def oexB (K : PySem.W.Frag) (C : Addr) : Bool := match K.lookup C with
  | some ⟨.type T, _, .cls cd, sl⟩ => (match cd.mro, sl.toList with
    | .ref C' :: bm, [_, _, _, _, some (.builtin n), _] => T == "type" && (C' == C && (n == "ValueError.__new__" && (!cd.hasDel && (cd.hasDict && PySem.HandSPX.refsVE bm))))
    | _, _ => false)
  | _ => false
theorem oexB_ok {K : PySem.W.Frag} {C : Addr} (q : oexB K C = true) : ∃ nm q N bs bm sn sub ab col dd k0 k1 k2 k3 k5, K.lookup C = some (PySem.excClassObj nm q C N bs bm true sn sub ab col dd k0 k1 k2 k3 k5 "ValueError.__new__") ∧ PySem.HandSPX.refsVE bm = true := by
  unfold oexB at q
  split at q
  · rename_i T dd cd sl ho
    split at q
    · rename_i C' bm k0 k1 k2 k3 n k5 hm hs
      obtain ⟨q1, q⟩ := He.ba q
      obtain ⟨q2, q⟩ := He.ba q
      obtain ⟨q3, q⟩ := He.ba q
      obtain ⟨q4, q⟩ := He.ba q
      obtain ⟨q5, q6⟩ := He.ba q
      rw [beq_iff_eq] at q1 q2 q3
      subst q1 q2 q3
      obtain ⟨nm, bs, mro, ns, qn, hd, sn, sub, ab, col, del⟩ := cd
      dsimp only at hm q4 q5
      rw [Bool.not_eq_true'] at q4
      subst hm q4 q5
      have hsl : sl = #[k0, k1, k2, k3, some (.builtin "ValueError.__new__"), k5] := by
        obtain ⟨l⟩ := sl
        simp only at hs
        rw [hs]
      subst hsl
      exact ⟨nm, qn, ns, bs, bm, sn, sub, ab, col, dd, k0, k1, k2, k3, k5, ho, q6⟩
    · cases q
  · cases q
def oexcB (K : PySem.W.Frag) (C : Addr) : Bool := oexB K C && (He.eqO (PySem.W.findIn K (.ref C) "__setattr__") (some (some (.builtin "object.__setattr__"))) && (decide (PySem.W.subIn K (.ref C) (.type "BaseException") = some true) &&
  (decide (PySem.W.typeIn K (.ref C) = some (.type "type")) && PySem.W.keepIn K (.ref C))))
theorem oexcB_ok {K : PySem.W.Frag} {C : Addr} (h : oexcB K C = true) : OexC K C := by
  obtain ⟨h1, h⟩ := He.ba h
  obtain ⟨h2, h⟩ := He.ba h
  obtain ⟨h3, h⟩ := He.ba h
  obtain ⟨h4, h5⟩ := He.ba h
  exact ⟨oexB_ok h1, He.eqO_ok h2, of_decide_eq_true h3, of_decide_eq_true h4, h5⟩
def xinB (K : PySem.W.Frag) (C : Addr) : Bool := He.eqO (PySem.W.findIn K (.ref C) "__init__") (some (some (.ref (He.ma K C "__init__")))) && decide (PySem.W.typeIn K (.ref (He.ma K C "__init__")) = some (.type "function"))
theorem xinB_ok {K : PySem.W.Frag} {C : Addr} (h : xinB K C = true) : PySem.W.findIn K (.ref C) "__init__" = some (some (.ref (He.ma K C "__init__"))) ∧ PySem.W.typeIn K (.ref (He.ma K C "__init__")) = some (.type "function") := by
  obtain ⟨h1, h2⟩ := He.ba h
  exact ⟨He.eqO_ok h1, of_decide_eq_true h2⟩
/-! ### the Hook -/
abbrev Ck : Type := PySem.W.Frag → Bool
abbrev AlX : Type := Bool × List He.FnV
def obsX (cs : List Ck) (fn : List FnE) (K : PySem.W.Frag) : AlX := ((cs.all fun c => c K) && fn.all fun d => d.ok K, fn.map fun d => d.obs K)
def valX (fn : List FnE) : AlX := (true, fn.map FnE.val)
def SaysX (cs : List Ck) (fn : List FnE) (K : PySem.W.Frag) : Prop := obsX cs fn K = valX fn
def obsXG (cs : List Ck) (fn : List FnE) (g : Addr → Option Obj) : AlX := frPart (partH g) (obsX cs fn)
def hookX (cs : List Ck) (fn : List FnE) : PySem.W.Hook where
  α := AlX
  obs := fun s => obsXG cs fn s.heap.get?
  val := fun _ => valX fn
  says := fun _ h => ∃ K : PySem.W.Frag, K.In h ∧ SaysX cs fn K
  of := fun _ _ e => ⟨_, part_in, by
    unfold obsXG at e
    rw [frPart_eq] at e
    exact e⟩
  keeps := fun _ _ _ ⟨K, hK, c⟩ k => ⟨K, PySem.W.Frag.In.keeps hK k, c⟩
theorem obsXG_eq {cs : List Ck} {fn : List FnE} {g : Addr → Option Obj} {s : Shared} (h : ∀ a, g a = s.heap.get? a) : obsXG cs fn g = (hookX cs fn).obs s := by
  have e : g = s.heap.get? := funext h
  rw [e] <;> rfl
section
variable {cs : List Ck} {fn : List FnE} {K : PySem.W.Frag}
theorem SaysX.fact (c : SaysX cs fn K) (i : Nat) {f : Ck} (h : cs[i]? = some f := by rfl) : f K = true := by
  have c1 := (He.ba (show ((cs.all fun c => c K) && fn.all fun d => d.ok K) = true from congrArg (fun z : AlX => z.1) c)).1
  exact List.all_eq_true.mp c1 f (List.mem_of_getElem? h)
theorem SaysX.def_ (c : SaysX cs fn K) (i : Nat) {d : FnE} (h : fn[i]? = some d := by rfl) : ∃ fd, Fun K d.name d.qual d.st (d.at_ K) fd ∧ He.kwdB K fd.kwdefaults (d.kws K) = true := by
  have c2 := (He.ba (show ((cs.all fun c => c K) && fn.all fun d => d.ok K) = true from congrArg (fun z : AlX => z.1) c)).2
  have e : fn.map (fun d => d.obs K) = fn.map FnE.val := congrArg (fun z : AlX => z.2) c
  have e2 : (fn.map fun d => d.obs K)[i]? = (fn.map FnE.val)[i]? := by rw [e]
  rw [List.getElem?_map, List.getElem?_map, h] at e2
  exact FnE.fun_ (Option.some.inj e2) (List.all_eq_true.mp c2 d (List.mem_of_getElem? h))
end
/-! ### the law's end, for promises of the two kinds -/
theorem walkGE {l : PySem.W.OpenLaw} {n k : Nat} {q : Program} {loose : List Str} {XP : (Str → Option Value) → Heap → Prop} {YP : World → Heap → Prop} {d : DefRec} {x : Str}
    (hn : l.most = some n) (hn2 : n ≤ sizeLine) (hdf : d.params.defaults = []) (hr : Room k callerA)
    (F : ∀ (w : World) (mg : Str → Option Value) (fa : Addr) (h : Heap), YP w h → h.Ns mainGlobals mg → mg d.name = some (.ref fa) →
      ∃ (K : PySem.W.Frag) (fd : FuncData) (sp : Sp), K.In h ∧ (∀ (s : Shared) (u : Value), BindsTo s fd ⟨[u], []⟩ [(x, u)]) ∧
        (∀ (H : Hp) (a : Addr) (ns : List Int), ns.length ≤ n → Only H → SqL K H a (ns.map V.int) → sp [.ref a] H (fun v _ => v = .bl true) fun _ _ _ => False) ∧
        ∀ base : Heap, K.In base → base.Ns mainGlobals mg → FnG l.prog w K mg base k fa fd [x] sp) :
    PySem.W.WalkO q loose XP YP l.row.toRowW d [] (fun f vs => PySem.call f vs) := by
  refine Att.attach_call hn hdf fun w s₀ s₁ mg mb fa o pm cd doc a vs ns G Y ho hd hcd hmg hobj hints hlen hg => ?_
  obtain ⟨K, fd, sp, KX, bound, hsp, promise⟩ := F w mg fa _ Y G.T.g hmg
  exact lawG KX G.T.g G.T.b G.T.builtins G.T.nolimit hg hobj hints (Nat.le_trans hlen hn2) hr promise bound fun H only seq => hsp H a ns hlen only seq
end Hn

namespace Hn
open PySem L2
def topS (i : Nat) : Stmt := PySem.Challenge.pw_hourneeds_k40_houses_told.main.body.getD i (.Pass ⟨0, 0, 0, 0⟩)
abbrev s_lbag : Stmt := topS 32
abbrev s_ltake : Stmt := topS 33
abbrev s_lnumber : Stmt := topS 35
abbrev s_lnumbers : Stmt := topS 37
abbrev s_lstays : Stmt := topS 36
abbrev s_lfree_world : Stmt := topS 38
abbrev s_lgiven : Stmt := topS 40
abbrev s_Needs_hours : Stmt := inClass (topS 27) 1
abbrev s_Clock_hours : Stmt := inClass (topS 22) 2
abbrev s_p_is_row : Stmt := topS 14
abbrev s_is_integer : Stmt := topS 9
abbrev s_is_count : Stmt := topS 10
abbrev s_are_limits : Stmt := topS 13
abbrev s_are_counts : Stmt := topS 12
abbrev s_filled_row : Stmt := topS 30
abbrev s_House_init : Stmt := inClass (topS 29) 0
abbrev s_is_row : Stmt := topS 16
abbrev s_is_from_one : Stmt := topS 23
abbrev s_are_stays : Stmt := topS 24
abbrev s_check_nobody_overtaken : Stmt := topS 25
abbrev s_Clock_init : Stmt := inClass (topS 22) 0
abbrev s_is_count_row : Stmt := topS 17
abbrev s_Needs_init : Stmt := inClass (topS 27) 0
abbrev s_lmixed : Stmt := topS 34
abbrev s_House_hours : Stmt := inClass (topS 29) 1
abbrev s_Clock_iter : Stmt := inClass (topS 22) 4
abbrev s_Clock_len : Stmt := inClass (topS 22) 3
abbrev s_House_clock : Stmt := inClass (topS 29) 2
abbrev s_Needs_iter : Stmt := inClass (topS 27) 4
abbrev s_Needs_len : Stmt := inClass (topS 27) 3
abbrev s_House_needs : Stmt := inClass (topS 29) 3
abbrev s_Clock_eq : Stmt := inClass (topS 22) 6
abbrev s_House_rooms : Stmt := inClass (topS 29) 5
abbrev s_House_kept : Stmt := inClass (topS 29) 6
abbrev s_House_doors : Stmt := inClass (topS 29) 7
abbrev s_lright : Stmt := topS 41
abbrev s_lmade : Stmt := topS 39
abbrev s_Needs_eq : Stmt := inClass (topS 27) 6
abbrev s_House_eq : Stmt := inClass (topS 29) 4
abbrev s_lnear : Stmt := topS 42
abbrev s_law : Stmt := topS 43
/-- a def of the text: where it stands, its object, its name, how its arguments bind -/
structure DefAt (K : PySem.W.Frag) (mg : Str → Option Value) (x : Str) (st : Stmt) (ps : List Str) where
  f : Addr
  fd : FuncData
  F : Fun K x x st f fd
  m : mg x = some (.ref f)
  b : Binds K fd ps []
/-- a method of the class at C -/
structure MethAt (K : PySem.W.Frag) (C : Addr) (x qual : Str) (st : Stmt) (ps : List Str) where
  f : Addr
  fd : FuncData
  F : Fun K x qual st f fd
  b : Binds K fd ps []
/-- a method with keyword-only parameters, whose defaults are None -/
structure MethKw (K : PySem.W.Frag) (C : Addr) (x qual : Str) (st : Stmt) where
  f : Addr
  fd : FuncData
  F : Fun K x qual st f fd
structure ExcAt (K : PySem.W.Frag) (mg : Str → Option Value) (x : Str) where
  C : Addr
  mg : mg x = some (.ref C)
structure ClsAt (K : PySem.W.Frag) (mg : Str → Option Value) (x : Str) where
  C : Addr
  cl : Cls K C
  mg : mg x = some (.ref C)
structure Env (K : PySem.W.Frag) (mg : Str → Option Value) where
  C_NeedError : ExcAt K mg "NeedError"
  C_Clock : ClsAt K mg "Clock"
  C_Needs : ClsAt K mg "Needs"
  C_House : ClsAt K mg "House"
  lbag : DefAt K mg "_law_bag" s_lbag ["_law_script"]
  ltake : DefAt K mg "_law_take" s_ltake ["_law_bag_here", "_law_upto"]
  lnumber : DefAt K mg "_law_number" s_lnumber ["_law_bag_here"]
  lnumbers : DefAt K mg "_law_numbers" s_lnumbers ["_law_bag_here", "_law_many"]
  lstays : DefAt K mg "_law_stays" s_lstays ["_law_bag_here", "_law_many"]
  lfree_world : DefAt K mg "_law_free_world" s_lfree_world ["_law_bag_here", "_law_many"]
  lgiven : DefAt K mg "_law_given" s_lgiven ["_law_bag_here", "_law_row"]
  Needs_hours : MethAt K C_Needs.C "hours" "Needs.hours" s_Needs_hours ["self"]
  p_Needs_hours_p : Addr
  p_Needs_hours : PropOf K C_Needs.C "hours" p_Needs_hours_p Needs_hours.f
  Clock_hours : MethAt K C_Clock.C "hours" "Clock.hours" s_Clock_hours ["self"]
  p_Clock_hours_p : Addr
  p_Clock_hours : PropOf K C_Clock.C "hours" p_Clock_hours_p Clock_hours.f
  p_is_row : DefAt K mg "_is_row" s_p_is_row ["hours", "thing"]
  is_integer : DefAt K mg "is_integer" s_is_integer ["thing"]
  is_count : DefAt K mg "is_count" s_is_count ["thing"]
  are_limits : DefAt K mg "are_limits" s_are_limits ["hours", "thing"]
  are_counts : DefAt K mg "are_counts" s_are_counts ["hours", "thing"]
  filled_row : DefAt K mg "_filled_row" s_filled_row ["hours", "row", "item"]
  House_init : MethKw K C_House.C "__init__" "House.__init__" s_House_init
  kb_House_init : KBn K House_init.fd ["self", "clock", "needs", "rooms", "kept", "doors"] 3 ["rooms", "kept", "doors"] (fun us ws => us ++ ws) (fun vs zs => vs ++ zs)
  kb0_House_init : ∃ ds, Vals [V.non, V.non, V.non] ds ∧ Binds K House_init.fd ["self", "clock", "needs", "rooms", "kept", "doors"] ds
  mk_House : Mk K C_House.C House_init.f
  is_row : DefAt K mg "is_row" s_is_row ["thing"]
  is_from_one : DefAt K mg "_is_from_one" s_is_from_one ["most", "thing"]
  are_stays : DefAt K mg "_are_stays" s_are_stays ["thing"]
  check_nobody_overtaken : DefAt K mg "_check_nobody_overtaken" s_check_nobody_overtaken ["stays"]
  Clock_init : MethAt K C_Clock.C "__init__" "Clock.__init__" s_Clock_init ["self", "stays"]
  mk_Clock : Mk K C_Clock.C Clock_init.f
  is_count_row : DefAt K mg "is_count_row" s_is_count_row ["thing"]
  Needs_init : MethAt K C_Needs.C "__init__" "Needs.__init__" s_Needs_init ["self", "row"]
  mk_Needs : Mk K C_Needs.C Needs_init.f
  lmixed : DefAt K mg "_law_mixed" s_lmixed ["_law_bag_here", "_law_things"]
  House_hours : MethAt K C_House.C "hours" "House.hours" s_House_hours ["self"]
  p_House_hours_p : Addr
  p_House_hours : PropOf K C_House.C "hours" p_House_hours_p House_hours.f
  Clock_iter : MethAt K C_Clock.C "__iter__" "Clock.__iter__" s_Clock_iter ["self"]
  m_Clock_iter : Meth K C_Clock.C "__iter__" Clock_iter.f
  Clock_len : MethAt K C_Clock.C "__len__" "Clock.__len__" s_Clock_len ["self"]
  m_Clock_len : Meth K C_Clock.C "__len__" Clock_len.f
  House_clock : MethAt K C_House.C "clock" "House.clock" s_House_clock ["self"]
  p_House_clock_p : Addr
  p_House_clock : PropOf K C_House.C "clock" p_House_clock_p House_clock.f
  Needs_iter : MethAt K C_Needs.C "__iter__" "Needs.__iter__" s_Needs_iter ["self"]
  m_Needs_iter : Meth K C_Needs.C "__iter__" Needs_iter.f
  Needs_len : MethAt K C_Needs.C "__len__" "Needs.__len__" s_Needs_len ["self"]
  m_Needs_len : Meth K C_Needs.C "__len__" Needs_len.f
  House_needs : MethAt K C_House.C "needs" "House.needs" s_House_needs ["self"]
  p_House_needs_p : Addr
  p_House_needs : PropOf K C_House.C "needs" p_House_needs_p House_needs.f
  Clock_eq : MethAt K C_Clock.C "__eq__" "Clock.__eq__" s_Clock_eq ["self", "other"]
  m_Clock_eq : Meth K C_Clock.C "__eq__" Clock_eq.f
  House_rooms : MethAt K C_House.C "rooms" "House.rooms" s_House_rooms ["self"]
  m_House_rooms : Meth K C_House.C "rooms" House_rooms.f
  House_kept : MethAt K C_House.C "kept" "House.kept" s_House_kept ["self"]
  m_House_kept : Meth K C_House.C "kept" House_kept.f
  House_doors : MethAt K C_House.C "doors" "House.doors" s_House_doors ["self"]
  m_House_doors : Meth K C_House.C "doors" House_doors.f
  lright : DefAt K mg "_law_right" s_lright ["_law_bag_here", "_law_house", "_law_world"]
  lmade : DefAt K mg "_law_made" s_lmade ["_law_world"]
  Needs_eq : MethAt K C_Needs.C "__eq__" "Needs.__eq__" s_Needs_eq ["self", "other"]
  m_Needs_eq : Meth K C_Needs.C "__eq__" Needs_eq.f
  House_eq : MethAt K C_House.C "__eq__" "House.__eq__" s_House_eq ["self", "other"]
  m_House_eq : Meth K C_House.C "__eq__" House_eq.f
  lnear : DefAt K mg "_law_near" s_lnear ["_law_bag_here", "_law_world"]
  law : DefAt K mg "law" s_law ["_law_script"]
  n_Clock__stays : NoAttr K C_Clock.C "_stays"
  ic_Clock : PySem.W.findIn K (.ref C_Clock.C) "__class__" = some (some (.builtin "object.__class__"))
  ig_Clock : PySem.W.specialIn K (.builtin "object.__class__") "__get__" = some (some (.builtin "getset_descriptor.__get__"))
  it_Clock : PySem.W.takesIn K (.builtin "object.__class__") = some true
  ob_Clock : PySem.W.mroIn K C_Clock.C (.type "object") = some true
  ne_Clock : PySem.W.findIn K (.ref C_Clock.C) "__ne__" = some (some (.builtin "object.__ne__"))
  n_Needs__row : NoAttr K C_Needs.C "_row"
  ic_Needs : PySem.W.findIn K (.ref C_Needs.C) "__class__" = some (some (.builtin "object.__class__"))
  ig_Needs : PySem.W.specialIn K (.builtin "object.__class__") "__get__" = some (some (.builtin "getset_descriptor.__get__"))
  it_Needs : PySem.W.takesIn K (.builtin "object.__class__") = some true
  ob_Needs : PySem.W.mroIn K C_Needs.C (.type "object") = some true
  ne_Needs : PySem.W.findIn K (.ref C_Needs.C) "__ne__" = some (some (.builtin "object.__ne__"))
  sf_Needs : PySem.W.selfFirst K C_Needs.C = true
  n_House__clock : NoAttr K C_House.C "_clock"
  n_House__needs : NoAttr K C_House.C "_needs"
  n_House__rooms : NoAttr K C_House.C "_rooms"
  n_House__kept : NoAttr K C_House.C "_kept"
  n_House__doors : NoAttr K C_House.C "_doors"
  ic_House : PySem.W.findIn K (.ref C_House.C) "__class__" = some (some (.builtin "object.__class__"))
  ig_House : PySem.W.specialIn K (.builtin "object.__class__") "__get__" = some (some (.builtin "getset_descriptor.__get__"))
  it_House : PySem.W.takesIn K (.builtin "object.__class__") = some true
  ob_House : PySem.W.mroIn K C_House.C (.type "object") = some true
  ne_House : PySem.W.findIn K (.ref C_House.C) "__ne__" = some (some (.builtin "object.__ne__"))
  kl_House : PySem.W.kitOne K (.type "list") (.ref C_House.C) = some false
  ki_House : PySem.W.kitOne K (.type "int") (.ref C_House.C) = some false
  kc_House : PySem.W.kitOne K (.ref C_Clock.C) (.ref C_House.C) = some false
  nf_House : PySem.W.notFirst K C_House.C (.ref C_Clock.C) = true
  t_MOST_HOURS : Tok
  c_MOST_HOURS : mg "MOST_HOURS" = some (.int 48 t_MOST_HOURS)
  n_zip : mg "zip" = none
  n_len : mg "len" = none
  n_range : mg "range" = none
  n_abs : mg "abs" = none
  n_int : mg "int" = none
  n_bool : mg "bool" = none
  n_list : mg "list" = none
  n_tuple : mg "tuple" = none
  n_isinstance : mg "isinstance" = none
  n_all : mg "all" = none
  n_min : mg "min" = none
  n_max : mg "max" = none
  n_enumerate : mg "enumerate" = none
  n_repr : mg "repr" = none
  n_iter : mg "iter" = none
theorem sc_lbag : FnScope ["_law_script", "_law_cell"] ["_law_script"] (defScope s_lbag) := ⟨rfl, rfl, rfl, by decide +kernel, rfl, by decide +kernel, by decide +kernel⟩
theorem sc_ltake : FnScope ["_law_bag_here", "_law_upto", "_law_early", "_law_second", "_law_cell", "_law_mixed_here", "_law_drawn"] ["_law_bag_here", "_law_upto"] (defScope s_ltake) := ⟨rfl, rfl, rfl, by decide +kernel, rfl, by decide +kernel, by decide +kernel⟩
theorem sc_lnumber : FnScope ["_law_bag_here", "_law_way"] ["_law_bag_here"] (defScope s_lnumber) := ⟨rfl, rfl, rfl, by decide +kernel, rfl, by decide +kernel, by decide +kernel⟩
theorem sc_lnumbers : FnScope ["_law_bag_here", "_law_many", "_law_way", "_law_found", "_law_hour", "_law_one"] ["_law_bag_here", "_law_many"] (defScope s_lnumbers) := ⟨rfl, rfl, rfl, by decide +kernel, rfl, by decide +kernel, by decide +kernel⟩
theorem sc_lstays : FnScope ["_law_bag_here", "_law_many", "_law_most", "_law_drawn", "_law_hour", "_law_ahead"] ["_law_bag_here", "_law_many"] (defScope s_lstays) := ⟨rfl, rfl, rfl, by decide +kernel, rfl, by decide +kernel, by decide +kernel⟩
theorem sc_lfree_world : FnScope ["_law_bag_here", "_law_many", "_law_way", "_law_hour", "_law_wants", "_law_tops", "_law_floors", "_law_caps"] ["_law_bag_here", "_law_many"] (defScope s_lfree_world) := ⟨rfl, rfl, rfl, by decide +kernel, rfl, by decide +kernel, by decide +kernel⟩
theorem sc_lgiven : FnScope ["_law_bag_here", "_law_row"] ["_law_bag_here", "_law_row"] (defScope s_lgiven) := ⟨rfl, rfl, rfl, by decide +kernel, rfl, by decide +kernel, by decide +kernel⟩
theorem sc_Needs_hours : FnScope ["self"] ["self"] (defScope s_Needs_hours) := ⟨rfl, rfl, rfl, by decide +kernel, rfl, by decide +kernel, by decide +kernel⟩
theorem sc_Clock_hours : FnScope ["self"] ["self"] (defScope s_Clock_hours) := ⟨rfl, rfl, rfl, by decide +kernel, rfl, by decide +kernel, by decide +kernel⟩
theorem sc_p_is_row : FnScope ["hours", "thing"] ["hours", "thing"] (defScope s_p_is_row) := ⟨rfl, rfl, rfl, by decide +kernel, rfl, by decide +kernel, by decide +kernel⟩
theorem sc_is_integer : FnScope ["thing"] ["thing"] (defScope s_is_integer) := ⟨rfl, rfl, rfl, by decide +kernel, rfl, by decide +kernel, by decide +kernel⟩
theorem sc_is_count : FnScope ["thing"] ["thing"] (defScope s_is_count) := ⟨rfl, rfl, rfl, by decide +kernel, rfl, by decide +kernel, by decide +kernel⟩
theorem sc_are_limits : FnScope ["hours", "thing", "item"] ["hours", "thing"] (defScope s_are_limits) := ⟨rfl, rfl, rfl, by decide +kernel, rfl, by decide +kernel, by decide +kernel⟩
theorem sc_are_counts : FnScope ["hours", "thing", "item"] ["hours", "thing"] (defScope s_are_counts) := ⟨rfl, rfl, rfl, by decide +kernel, rfl, by decide +kernel, by decide +kernel⟩
theorem sc_filled_row : FnScope ["hours", "row", "item"] ["hours", "row", "item"] (defScope s_filled_row) := ⟨rfl, rfl, rfl, by decide +kernel, rfl, by decide +kernel, by decide +kernel⟩
theorem sc_House_init : FnScope ["self", "clock", "needs", "rooms", "kept", "doors"] ["self", "clock", "needs", "rooms", "kept", "doors"] (defScope s_House_init) := ⟨rfl, rfl, rfl, by decide +kernel, rfl, by decide +kernel, by decide +kernel⟩
theorem sc_is_row : FnScope ["thing"] ["thing"] (defScope s_is_row) := ⟨rfl, rfl, rfl, by decide +kernel, rfl, by decide +kernel, by decide +kernel⟩
theorem sc_is_from_one : FnScope ["most", "thing"] ["most", "thing"] (defScope s_is_from_one) := ⟨rfl, rfl, rfl, by decide +kernel, rfl, by decide +kernel, by decide +kernel⟩
theorem sc_are_stays : FnScope ["thing", "item"] ["thing"] (defScope s_are_stays) := ⟨rfl, rfl, rfl, by decide +kernel, rfl, by decide +kernel, by decide +kernel⟩
theorem sc_check_nobody_overtaken : FnScope ["stays", "hour", "stay"] ["stays"] (defScope s_check_nobody_overtaken) := ⟨rfl, rfl, rfl, by decide +kernel, rfl, by decide +kernel, by decide +kernel⟩
theorem sc_Clock_init : FnScope ["self", "stays"] ["self", "stays"] (defScope s_Clock_init) := ⟨rfl, rfl, rfl, by decide +kernel, rfl, by decide +kernel, by decide +kernel⟩
theorem sc_is_count_row : FnScope ["thing"] ["thing"] (defScope s_is_count_row) := ⟨rfl, rfl, rfl, by decide +kernel, rfl, by decide +kernel, by decide +kernel⟩
theorem sc_Needs_init : FnScope ["self", "row"] ["self", "row"] (defScope s_Needs_init) := ⟨rfl, rfl, rfl, by decide +kernel, rfl, by decide +kernel, by decide +kernel⟩
theorem sc_lmixed : FnScope ["_law_bag_here", "_law_things", "_law_found", "_law_thing"] ["_law_bag_here", "_law_things"] (defScope s_lmixed) := ⟨rfl, rfl, rfl, by decide +kernel, rfl, by decide +kernel, by decide +kernel⟩
theorem sc_House_hours : FnScope ["self"] ["self"] (defScope s_House_hours) := ⟨rfl, rfl, rfl, by decide +kernel, rfl, by decide +kernel, by decide +kernel⟩
theorem sc_Clock_iter : FnScope ["self"] ["self"] (defScope s_Clock_iter) := ⟨rfl, rfl, rfl, by decide +kernel, rfl, by decide +kernel, by decide +kernel⟩
theorem sc_Clock_len : FnScope ["self"] ["self"] (defScope s_Clock_len) := ⟨rfl, rfl, rfl, by decide +kernel, rfl, by decide +kernel, by decide +kernel⟩
theorem sc_House_clock : FnScope ["self"] ["self"] (defScope s_House_clock) := ⟨rfl, rfl, rfl, by decide +kernel, rfl, by decide +kernel, by decide +kernel⟩
theorem sc_Needs_iter : FnScope ["self"] ["self"] (defScope s_Needs_iter) := ⟨rfl, rfl, rfl, by decide +kernel, rfl, by decide +kernel, by decide +kernel⟩
theorem sc_Needs_len : FnScope ["self"] ["self"] (defScope s_Needs_len) := ⟨rfl, rfl, rfl, by decide +kernel, rfl, by decide +kernel, by decide +kernel⟩
theorem sc_House_needs : FnScope ["self"] ["self"] (defScope s_House_needs) := ⟨rfl, rfl, rfl, by decide +kernel, rfl, by decide +kernel, by decide +kernel⟩
theorem sc_Clock_eq : FnScope ["self", "other"] ["self", "other"] (defScope s_Clock_eq) := ⟨rfl, rfl, rfl, by decide +kernel, rfl, by decide +kernel, by decide +kernel⟩
theorem sc_House_rooms : FnScope ["self"] ["self"] (defScope s_House_rooms) := ⟨rfl, rfl, rfl, by decide +kernel, rfl, by decide +kernel, by decide +kernel⟩
theorem sc_House_kept : FnScope ["self"] ["self"] (defScope s_House_kept) := ⟨rfl, rfl, rfl, by decide +kernel, rfl, by decide +kernel, by decide +kernel⟩
theorem sc_House_doors : FnScope ["self"] ["self"] (defScope s_House_doors) := ⟨rfl, rfl, rfl, by decide +kernel, rfl, by decide +kernel, by decide +kernel⟩
theorem sc_lright : FnScope ["_law_bag_here", "_law_house", "_law_world", "_law_way", "_law_stays_here", "_law_wants", "_law_tops", "_law_floors", "_law_caps", "_law_found", "_law_due"] ["_law_bag_here", "_law_house", "_law_world"] (defScope s_lright) := ⟨rfl, rfl, rfl, by decide +kernel, rfl, by decide +kernel, by decide +kernel⟩
theorem sc_lmade : FnScope ["_law_world", "_law_stays_here", "_law_wants", "_law_tops", "_law_floors", "_law_caps"] ["_law_world"] (defScope s_lmade) := ⟨rfl, rfl, rfl, by decide +kernel, rfl, by decide +kernel, by decide +kernel⟩
theorem sc_Needs_eq : FnScope ["self", "other"] ["self", "other"] (defScope s_Needs_eq) := ⟨rfl, rfl, rfl, by decide +kernel, rfl, by decide +kernel, by decide +kernel⟩
theorem sc_House_eq : FnScope ["self", "other"] ["self", "other"] (defScope s_House_eq) := ⟨rfl, rfl, rfl, by decide +kernel, rfl, by decide +kernel, by decide +kernel⟩
theorem sc_lnear : FnScope ["_law_bag_here", "_law_world", "_law_many", "_law_stays_here", "_law_at", "_law_hour", "_law_found", "_law_row"] ["_law_bag_here", "_law_world"] (defScope s_lnear) := ⟨rfl, rfl, rfl, by decide +kernel, rfl, by decide +kernel, by decide +kernel⟩
theorem sc_law : FnScope ["_law_script", "_law_bag_here", "_law_turn", "_law_many", "_law_world", "_law_given_here", "_law_house", "_law_row", "_law_again", "_law_same", "_law_found", "_law_longer", "_law_other", "_law_near_here", "_law_stays_here", "_law_wants", "_law_tops", "_law_floors", "_law_caps"] ["_law_script"] (defScope s_law) := ⟨rfl, rfl, rfl, by decide +kernel, rfl, by decide +kernel, by decide +kernel⟩
end Hn

namespace Hn
open PySem L2 Evl
section
variable {P : Program} {w : World} {K : PySem.W.Frag} {mg : Str → Option Value} {base : Heap}

def spBag (K : PySem.W.Frag) : Sp := fun vs H Q _ => ∃ (a : Addr) (ns : List Int), vs = [.ref a] ∧ SqL K H a (iv ns) ∧ ns.length ≤ 63 ∧ ∀ b H', H b = none → Same H H' → Bag H' b → Q (.ref b) H'
theorem ok_lbag (T : Env K mg) : FnOk P w K mg base CX0 1 T.lbag.f T.lbag.fd ["_law_script"] (spBag K) := by
  refine T.lbag.F.ok sc_lbag (fun vs H Q E h => ?_) (fun cdv A outer s H vs Q E hr h => ?_)
  · obtain ⟨a, ns, rfl, _⟩ := h
    rfl
  · obtain ⟨a, ns, rfl, hS, hl, q⟩ := h
    refine ⟨_, (pss_one (ps_ret (pe_lst (pa_cons pe_int (pa_cons pe_int (pa_cons pe_int (pa_cons (pe_lc (own := [("_law_cell", 1)]) (g := gName 1) (tt := tYes) (by rfl) sc_lbag.nd  (K_pil (K := K) rfl (pe_slice (K_slL (K := K) rfl) (pv 0) po_none (po_some pe_int))) (blkOk_by (N := ["_law_script", "_law_cell"]) (sc := defScope s_lbag) (by decide +kernel)) (fun _ _ _ _ _ => pg_name (i := 1) sc_lbag.nd rfl (by first | exact Or.inl rfl | exact Or.inr rfl)) (fun _ _ _ _ _ => pts_nil) (fun _ _ _ _ _ => (pe_callB call_abs (by rfl) T.n_abs (by decide +kernel) (pa_cons (pv 1) pa_nil)))) pa_nil))))))), ?_⟩
    refine ⟨.ref a, rfl, 63, rfl, a, iv ns, rfl, hS, fun c nc => ?_⟩
    have ec : cutV (iv ns) none (some ((63 : Nat) : Int)) = iv ns := by
      unfold cutV
      rw [HT.sIx_none, HT.sIx_nat, iv_len]
      exact List.take_of_length_le (by rw [List.drop_zero, iv_len]; omega)
    have ec' : cutV (iv ns) none (some 63) = iv ns := ec
    rw [ec']
    have s1 : Same H (upd H c (.lst (iv ns))) := same_new nc
    refine ⟨c, rfl, ⟨_, SqL.of upd_same⟩, fun D nD => ?_⟩
    refine lc_mapL (K := K) (a := c) (xs := iv ns) (fun i => .int (if ns.getD i 0 < 0 then -(ns.getD i 0) else ns.getD i 0)) (SqL.of upd_same) nD (by rw [iv_len]; omega) (fun i hi H' R sm k => ?_) (fun H' sm hD => ?_)
    · rw [iv_len] at hi
      refine ⟨.int (ns.getD i 0), ?_, _, rfl, k _ (Same.refl _)⟩
      rw [List.getElem_map, List.getD_eq_getElem?_getD, List.getElem?_eq_getElem hi]
      rfl
    · refine ⟨by show 4 ≤ sizeLine; decide, fun b nb => ?_⟩
      have s2 : Same H (upd H' b (.lst [.int 0, .int 1234567891, .int 0, .ref D])) := (s1.trans sm).trans (same_new nb)
      refine q b _ ((s1.trans sm).free nb) s2 ⟨D, ns.map fun x => if x < 0 then -x else x, 0, 1234567891, 0, upd_same, ?_, by decide, by decide, by decide, by decide, fun x hx => ?_⟩
      · rw [upd_ne (ne_of_none hD nb), hD, iv_len]
        congr 2
        unfold iv
        rw [List.map_map]
        refine range_get fun i hi => ?_
        rw [List.getD_eq_getElem?_getD, List.getElem?_eq_getElem hi]
        rfl
      · obtain ⟨y, _, rfl⟩ := List.mem_map.mp hx
        by_cases h : y < 0
        · rw [if_pos h]
          omega
        · rw [if_neg h]
          omega

def spTake : Sp := fun vs H Q _ => ∃ (b : Addr) (u : Int), vs = [.ref b, .int u] ∧ Bag H b ∧ 1 ≤ u ∧ u < 1073741824 ∧ ∀ H' v, Drew b H H' → 0 ≤ v → v < u → Q (.int v) H'
/-- the bag as it stands within -/
def BagOf (H0 H : Hp) (b c : Addr) (cs : List Int) (g m i : Int) : Prop := H b = some (.lst [.int g, .int m, .int i, .ref c]) ∧ H c = some (.lst (iv cs)) ∧ But b H0 H
theorem BagOf.put {H0 H : Hp} {b c : Addr} {cs : List Int} {g m i g' m' i' : Int} (h : BagOf H0 H b c cs g m i) (n : c ≠ b) : BagOf H0 (upd H b (.lst [.int g', .int m', .int i', .ref c])) b c cs g' m' i' :=
  ⟨upd_same, by rw [upd_ne n]; exact h.2.1, h.2.2.upd⟩
theorem BagOf.drew {H0 H : Hp} {b c : Addr} {cs : List Int} {g m i : Int} (h : BagOf H0 H b c cs g m i) (h1 : 0 ≤ g) (h2 : 0 ≤ m) (h3 : m < 2147483647) (h4 : 0 ≤ i) (h5 : BagAt H0 b c cs) : Drew b H0 H := by
  refine ⟨h.2.2, fun c' cs' h' => ?_, ⟨c, cs, h5⟩⟩
  obtain ⟨g0, m0, i0, e1, e2, _⟩ := h5
  obtain ⟨g1, m1, i1, k1, k2, _, _, _, _, k3⟩ := h'
  rw [e1] at k1
  have z := V_lst_inj k1
  have zc : c = c' := by
    injection z with _ z
    injection z with _ z
    injection z with _ z
    injection z with z _
    exact V.ref.inj z
  subst zc
  rw [e2] at k2
  exact ⟨g, m, i, h.1, h.2.1.trans (congrArg (fun z => some (HO.lst z)) (V_lst_inj k2)), h1, h2, h3, h4, k3⟩
theorem at4 (x y z w : V) : atI [x, y, z, w] 0 = some x ∧ atI [x, y, z, w] 1 = some y ∧ atI [x, y, z, w] 2 = some z ∧ atI [x, y, z, w] 3 = some w := ⟨rfl, rfl, rfl, rfl⟩
theorem ok_ltake (T : Env K mg) : FnOk P w K mg base CX0 1 T.ltake.f T.ltake.fd ["_law_bag_here", "_law_upto"] spTake := by
  refine T.ltake.F.ok sc_ltake (fun vs H Q E h => ?_) (fun cdv A outer s H vs Q E hr h => ?_)
  · obtain ⟨b, u, rfl, _⟩ := h
    rfl
  · obtain ⟨b, u, rfl, hb, hu1, hu2, q⟩ := h
    obtain ⟨c, cs, hb⟩ := hb
    obtain ⟨g, m, i, e1, e2, g0, m0, m1, i0, cs0⟩ := id hb
    have ncb : c ≠ b := by
      rintro rfl
      rw [e1] at e2
      have z := List.map_eq_cons_iff.mp (V_lst_inj e2).symm
      obtain ⟨x1, l1, rfl, _, z⟩ := z
      have z2 := List.map_eq_cons_iff.mp z
      obtain ⟨x2, l2, rfl, _, z⟩ := z2
      have z3 := List.map_eq_cons_iff.mp z
      obtain ⟨x3, l3, rfl, _, z⟩ := z3
      have z4 := List.map_eq_cons_iff.mp z
      obtain ⟨x4, l4, rfl, z5, z⟩ := z4
      cases z5
    have B0 : BagOf H H b c cs g m i := ⟨e1, e2, But.refl b H⟩
    refine ⟨_, (C8.pss_cut (ps_if (pt_cmpR op_eq (pe_ix (K_ixL (K := K) rfl) (pv 0) pe_int (fun _ _ => rfl)) pe_int (nomark _)) (pss_cons (ps_set (i := 4) sc_ltake.nd rfl (by first | exact Or.inl rfl | exact Or.inr rfl) pe_int)
      (C8.pss_cut (ps_if (pt_cmpR op_lt (pe_ix (K_ixL (K := K) rfl) (pv 0) pe_int (fun _ _ => rfl)) (pe_callB (K_len (K := K) rfl) (by rfl) T.n_len PySem.boot_len (pa_cons (pe_ix (K_ixL (K := K) rfl) (pv 0) pe_int (fun _ _ => rfl)) pa_nil)) (nomark _)) (pss_one (ps_set (i := 4) sc_ltake.nd rfl (by first | exact Or.inl rfl | exact Or.inr rfl) (pe_ix (K_ixL (K := K) rfl) (pe_ix (K_ixL (K := K) rfl) (pv 0) pe_int (fun _ _ => rfl)) (pe_ix (K_ixL (K := K) rfl) (pv 0) pe_int (fun _ _ => rfl)) (fun _ _ => rfl)))) pss_nil)
      (pss_cons (ps_augS (pv 0) pe_int (K_get (K := K) rfl) pe_int ip_add set_list)
      (C8.pss_cut (ps_if (pt_cmpR op_ge (pv 4) pe_int (nomark _)) (pss_one (ps_asg (pv 4) (pg_sub (pv 0) pe_int set_list))) pss_nil)
      (pss_cons (ps_set (i := 5) sc_ltake.nd rfl (by first | exact Or.inl rfl | exact Or.inr rfl) (pe_op op_add (pe_op op_add (pe_op op_mul (pe_ix (K_ixL (K := K) rfl) (pv 0) pe_int (fun _ _ => rfl)) pe_int) (pe_op op_mod (pe_callTy call_int1 (by rfl) T.n_int (by decide +kernel) (pa_cons (pv 4) pa_nil)) pe_int)) (pe_op op_mul pe_int (pe_ix (K_ixL (K := K) rfl) (pv 0) pe_int (fun _ _ => rfl)))))
      (pss_one (ps_asg (pe_op op_mod (pe_callTy call_int1 (by rfl) T.n_int (by decide +kernel) (pa_cons (pv 5) pa_nil)) pe_int) (pg_sub (pv 0) pe_int set_list)))))))) pss_nil)
      (pss_cons (ps_if (pt_cmpR op_gt (pe_ix (K_ixL (K := K) rfl) (pv 0) pe_int (fun _ _ => rfl)) pe_int (nomark _)) (pss_cons (ps_set (i := 6) sc_ltake.nd rfl (by first | exact Or.inl rfl | exact Or.inr rfl) (pe_op op_mod (pe_callTy call_int1 (by rfl) T.n_int (by decide +kernel) (pa_cons (pe_ix (K_ixL (K := K) rfl) (pv 0) pe_int (fun _ _ => rfl)) pa_nil)) (pv 1)))
      (pss_cons (ps_asg (pe_op op_fdiv (pe_callTy call_int1 (by rfl) T.n_int (by decide +kernel) (pa_cons (pe_ix (K_ixL (K := K) rfl) (pv 0) pe_int (fun _ _ => rfl)) pa_nil)) (pv 1)) (pg_sub (pv 0) pe_int set_list))
      (pss_one (ps_ret (pv 6))))) pss_nil)
      (pss_cons (ps_set (i := 2) sc_ltake.nd rfl (by first | exact Or.inl rfl | exact Or.inr rfl) (pe_op op_mod (pe_callTy call_int1 (by rfl) T.n_int (by decide +kernel) (pa_cons (pe_op op_mul (pe_op op_add (pe_ix (K_ixL (K := K) rfl) (pv 0) pe_int (fun _ _ => rfl)) pe_int) pe_int) pa_nil)) pe_int))
      (pss_cons (ps_set (i := 3) sc_ltake.nd rfl (by first | exact Or.inl rfl | exact Or.inr rfl) (pe_op op_mod (pe_callTy call_int1 (by rfl) T.n_int (by decide +kernel) (pa_cons (pe_op op_mul (pe_op op_mod (pe_callTy call_int1 (by rfl) T.n_int (by decide +kernel) (pa_cons (pe_op op_mul (pv 2) (pv 2)) pa_nil)) pe_int) pe_int) pa_nil)) pe_int))
      (pss_one (ps_ret (pe_op op_mod (pe_callTy call_int1 (by rfl) T.n_int (by decide +kernel) (pa_cons (pe_op op_fdiv (pv 3) pe_int) pa_nil)) (pv 1)))))))), ?_⟩
    refine ⟨fun σ H' => ∃ y4 y5 g' m' i', σ = [some (.ref b), some (.int u), none, none, y4, y5, none] ∧ BagOf H H' b c cs g' m' i' ∧ 0 ≤ g' ∧ 0 ≤ m' ∧ m' < 2147483647 ∧ 0 ≤ i', ?_, ?_⟩
    · -- a cell is taken
      refine ⟨.ref b, rfl, b, _, 0, _, rfl, rfl, SqL.of e1, rfl, rfl, _, rfl, ite2 (fun _ => ?_) (fun _ => ⟨none, none, g, m, i, rfl, B0, g0, m0, m1, i0⟩)⟩
      refine ⟨fun σ H' => ∃ x : Int, 0 ≤ x ∧ σ = [some (.ref b), some (.int u), none, none, some (.int x), none, none] ∧ H' = H, ?_, ?_⟩
      · refine ⟨.ref b, rfl, b, _, 2, _, rfl, rfl, SqL.of e1, rfl, .ref b, rfl, b, _, 3, _, rfl, rfl, SqL.of e1, rfl, c, _, rfl, .inl (SqL.of e2), _, _, rfl, rfl, _, rfl, ?_⟩
        rw [iv_len]
        refine ite2 (fun e => ?_) (fun _ => ⟨0, Int.le_refl _, rfl, rfl⟩)
        have e' : i < cs.length := of_decide_eq_true e
        obtain ⟨j, rfl⟩ := Int.eq_ofNat_of_zero_le i0
        have hj : j < cs.length := by omega
        refine ⟨.ref b, rfl, b, _, 3, _, rfl, rfl, SqL.of e1, rfl, .ref b, rfl, b, _, 2, _, rfl, rfl, SqL.of e1, rfl, c, _, _, .int cs[j], rfl, rfl, SqL.of e2, atI_nat (iv_get hj), cs[j], cs0 _ (List.getElem_mem hj), rfl, rfl⟩
      · rintro σ H' ⟨x, hx, rfl, rfl⟩
        -- bag[2] += 1
        refine ⟨.ref b, rfl, b, _, 2, _, rfl, rfl, SqL.of e1, rfl, _, _, rfl, rfl, b, _, 2, 2, rfl, rfl, e1, rfl, ?_⟩
        have B1 : BagOf H' (upd H' b (.lst [.int g, .int m, .int (i + 1), .ref c])) b c cs g m (i + 1) := B0.put ncb
        refine ⟨fun σ H'' => ∃ g' : Int, 0 ≤ g' ∧ σ = [some (.ref b), some (.int u), none, none, some (.int x), none, none] ∧ BagOf H' H'' b c cs g' m (i + 1), ?_, ?_⟩
        · refine ⟨.int x, rfl, _, _, rfl, rfl, _, rfl, ite2 (fun _ => ?_) (fun _ => ⟨g, g0, rfl, B1⟩)⟩
          exact ⟨.int x, rfl, .ref b, rfl, b, _, 0, 0, rfl, rfl, upd_same, rfl, x, hx, rfl, by rw [upd_upd]; exact B0.put ncb⟩
        · rintro σ H2 ⟨g', hg', rfl, B2⟩
          refine ⟨.ref b, rfl, b, _, 1, _, rfl, rfl, SqL.of B2.1, rfl, m, _, rfl, rfl, .inr ⟨by decide, by decide⟩, ?_⟩
          refine ⟨.int x, rfl, .inl ⟨x, rfl, x, _, rfl, rfl, (by show (0 : Int) < 2147483647; decide), _, _, rfl, rfl, .ref b, rfl, b, _, 2, _, rfl, rfl, SqL.of B2.1, rfl, _, _, rfl, rfl, .inl ⟨by decide, by decide⟩, _, _, rfl, rfl, ?_⟩⟩
          refine ⟨_, rfl, .inl ⟨_, rfl, _, _, rfl, rfl, (by show (0 : Int) < 2147483647; decide), .ref b, rfl, b, _, 1, 1, rfl, rfl, B2.1, rfl, ?_⟩⟩
          refine ⟨_, _, g', _, i + 1, rfl, B2.put ncb, hg', Int.emod_nonneg _ (by decide), Int.emod_lt_of_pos _ (by decide), by omega⟩
    · rintro σ H1 ⟨y4, y5, g, m, i, rfl, B, g0, m0, m1, i0⟩
      refine ⟨.ref b, rfl, b, _, 0, _, rfl, rfl, SqL.of B.1, rfl, _, _, rfl, rfl, _, rfl, ite2 (fun _ => ?_) (fun _ => ?_)⟩
      · -- drawn from the number
        refine ⟨.ref b, rfl, b, _, 0, _, rfl, rfl, SqL.of B.1, rfl, .inl ⟨_, rfl, _, rfl, _, _, rfl, rfl, by omega, ?_⟩⟩
        refine ⟨.ref b, rfl, b, _, 0, _, rfl, rfl, SqL.of B.1, rfl, .inl ⟨_, rfl, _, rfl, _, _, rfl, rfl, ⟨by omega, hu2⟩, .ref b, rfl, b, _, 0, 0, rfl, rfl, B.1, rfl, ?_⟩⟩
        exact ⟨_, rfl, q _ _ ((B.put ncb).drew (Int.ediv_nonneg g0 (by omega)) m0 m1 i0 hb) (Int.emod_nonneg _ (by omega)) (Int.emod_lt_of_pos _ (by omega))⟩
      · -- drawn from the mix
        refine ⟨.ref b, rfl, b, _, 1, _, rfl, rfl, SqL.of B.1, rfl, _, _, rfl, rfl, _, _, rfl, rfl, .inr ⟨by decide, by decide⟩, .inl ⟨_, rfl, _, _, rfl, rfl, (by show (0 : Int) < 1000000007; decide), ?_⟩⟩
        refine ⟨_, rfl, _, rfl, (m + 1) * 39373 % 1000000007, _, rfl, rfl, .inl ⟨by omega, by omega⟩, .inl ⟨_, rfl, _, _, rfl, rfl, (by show (0 : Int) < 998244353; decide), _, _, rfl, rfl, .inr ⟨by decide, by decide⟩, .inl ⟨_, rfl, _, _, rfl, rfl, (by show (0 : Int) < 998244353; decide), ?_⟩⟩⟩
        refine ⟨_, rfl, _, _, rfl, rfl, ⟨(by show (0 : Int) < 7; decide), (by show (7 : Int) < 1073741824; decide)⟩, .inl ⟨_, rfl, _, rfl, _, _, rfl, rfl, (by show 0 < u; omega), ?_⟩⟩
        exact q _ _ (B.drew g0 m0 m1 i0 hb) (Int.emod_nonneg _ (by omega)) (Int.emod_lt_of_pos _ (by omega))

def spNumber : Sp := fun vs H Q _ => ∃ b : Addr, vs = [.ref b] ∧ Bag H b ∧ ∀ H' v, Drew b H H' → 0 ≤ v → v ≤ 10 ^ 30 → Q (.int v) H'
theorem ok_lnumber (T : Env K mg) : FnOk P w K mg base CX0 2 T.lnumber.f T.lnumber.fd ["_law_bag_here"] spNumber := by
  refine T.lnumber.F.ok sc_lnumber (fun vs H Q E h => ?_) (fun cdv A outer s H vs Q E hr h => ?_)
  · obtain ⟨b, rfl, _⟩ := h
    rfl
  · obtain ⟨b, rfl, hb, q⟩ := h
    refine ⟨_, (pss_cons (ps_set (i := 1) sc_lnumber.nd rfl (by first | exact Or.inl rfl | exact Or.inr rfl) (pe_call (ok_ltake T) (hr.mono (by decide)) (by rfl) T.ltake.m T.ltake.F.kp T.ltake.b .nil pass0 (pa_cons (pv 0) (pa_cons pe_int pa_nil))))
      (pss_cons (ps_if (pt_cmpR op_lt (pv 1) pe_int (nomark _)) (pss_one (ps_ret (pe_call (ok_ltake T) (hr.mono (by decide)) (by rfl) T.ltake.m T.ltake.F.kp T.ltake.b .nil pass0 (pa_cons (pv 0) (pa_cons pe_int pa_nil))))) pss_nil)
      (pss_one (ps_ret (pe_ifExp (pt_cmpR op_eq (pv 1) pe_int (nomark _)) (pe_call (ok_ltake T) (hr.mono (by decide)) (by rfl) T.ltake.m T.ltake.F.kp T.ltake.b .nil pass0 (pa_cons (pv 0) (pa_cons pe_int pa_nil))) (pe_op op_sub (pe_op op_sub (pe_op op_pow pe_int pe_int) pe_int) (pe_call (ok_ltake T) (hr.mono (by decide)) (by rfl) T.ltake.m T.ltake.F.kp T.ltake.b .nil pass0 (pa_cons (pv 0) (pa_cons pe_int pa_nil))))))))), ?_⟩
    refine ⟨.ref b, rfl, b, 8, rfl, hb, by decide, by decide, fun H1 w d1 w0 w1 => ?_⟩
    refine ⟨.int w, rfl, _, _, rfl, rfl, _, rfl, ite2 (fun _ => ?_) (fun _ => ?_)⟩
    · exact ⟨.ref b, rfl, b, 6, rfl, d1.bag, by decide, by decide, fun H2 v d2 v0 v1 => q H2 v (d1.trans d2) v0 (by omega)⟩
    · refine ⟨.int w, rfl, rfl, _, rfl, ite2 (fun _ => ?_) (fun _ => ?_)⟩
      · exact ⟨.ref b, rfl, b, 100, rfl, d1.bag, by decide, by decide, fun H2 v d2 v0 v1 => q H2 v (d1.trans d2) v0 (by omega)⟩
      · refine ⟨_, _, rfl, rfl, ⟨by decide, by decide, by decide⟩, _, _, rfl, rfl, .ref b, rfl, b, 7, rfl, d1.bag, by decide, by decide, fun H2 v d2 v0 v1 => ⟨_, _, rfl, rfl, ?_⟩⟩
        have e : ((10 : Int) ^ ((30 : Int)).toNat) = 10 ^ 30 := rfl
        rw [e]
        exact q H2 _ (d1.trans d2) (by omega) (by omega)

/-- drawn numbers -/
def spNums : Sp := fun vs H Q _ => ∃ (b : Addr) (n : Nat), vs = [.ref b, .int (n : Nat)] ∧ Bag H b ∧ 0 < n ∧ n ≤ 48 ∧ ∀ H' l ds, H l = none → Drew b H H' → H' l = some (.lst (iv ds)) → ds.length = n → (∀ x ∈ ds, 0 ≤ x ∧ x ≤ 10 ^ 30) → Q (.ref l) H'
theorem ok_lnumbers (T : Env K mg) : FnOk P w K mg base CX0 3 T.lnumbers.f T.lnumbers.fd ["_law_bag_here", "_law_many"] spNums := by
  refine T.lnumbers.F.ok sc_lnumbers (fun vs H Q E h => ?_) (fun cdv A outer s H vs Q E hr h => ?_)
  · obtain ⟨b, n, rfl, _⟩ := h
    rfl
  · obtain ⟨b, n, rfl, hb, pos, top, q⟩ := h
    refine ⟨_, (pss_cons (ps_set (i := 2) sc_lnumbers.nd rfl (by first | exact Or.inl rfl | exact Or.inr rfl) (pe_call (ok_ltake T) (hr.mono (by decide)) (by rfl) T.ltake.m T.ltake.F.kp T.ltake.b .nil pass0 (pa_cons (pv 0) (pa_cons pe_int pa_nil))))
      (pss_cons (ps_if (pt_cmpR op_eq (pv 2) pe_int (nomark _)) (pss_one (ps_ret (pe_lc (own := [("_law_hour", 4)]) (g := gName 4) (tt := tYes) (by rfl) sc_lnumbers.nd  (pi_range1 (by rfl) T.n_range (pa_cons (pv 1) pa_nil)) (blkOk_by (N := ["_law_bag_here", "_law_many", "_law_way", "_law_found", "_law_hour", "_law_one"]) (sc := defScope s_lnumbers) (by decide +kernel)) (fun _ _ _ _ _ => pg_name (i := 4) sc_lnumbers.nd rfl (by first | exact Or.inl rfl | exact Or.inr rfl)) (fun _ _ _ _ _ => pts_nil) (fun _ _ _ _ _ => (pe_call (ok_ltake T) (hr.mono (by decide)) (by rfl) T.ltake.m T.ltake.F.kp T.ltake.b .nil pass0 (pa_cons (pv 0) (pa_cons pe_int pa_nil))))))) pss_nil)
      (pss_cons (ps_if (pt_cmpR op_eq (pv 2) pe_int (nomark _)) (pss_one (ps_ret (pe_lc (own := [("_law_hour", 4)]) (g := gName 4) (tt := tYes) (by rfl) sc_lnumbers.nd  (pi_range1 (by rfl) T.n_range (pa_cons (pv 1) pa_nil)) (blkOk_by (N := ["_law_bag_here", "_law_many", "_law_way", "_law_found", "_law_hour", "_law_one"]) (sc := defScope s_lnumbers) (by decide +kernel)) (fun _ _ _ _ _ => pg_name (i := 4) sc_lnumbers.nd rfl (by first | exact Or.inl rfl | exact Or.inr rfl)) (fun _ _ _ _ _ => pts_nil) (fun _ _ _ _ _ => (pe_op op_mul (pe_call (ok_ltake T) (hr.mono (by decide)) (by rfl) T.ltake.m T.ltake.F.kp T.ltake.b .nil pass0 (pa_cons (pv 0) (pa_cons pe_int pa_nil))) (pe_call (ok_ltake T) (hr.mono (by decide)) (by rfl) T.ltake.m T.ltake.F.kp T.ltake.b .nil pass0 (pa_cons (pv 0) (pa_cons pe_int pa_nil)))))))) pss_nil)
      (pss_cons (ps_if (pt_cmpR op_eq (pv 2) pe_int (nomark _)) (pss_one (ps_ret (pe_op op_rep (pe_lst (pa_cons (pe_op op_add pe_int (pe_call (ok_ltake T) (hr.mono (by decide)) (by rfl) T.ltake.m T.ltake.F.kp T.ltake.b .nil pass0 (pa_cons (pv 0) (pa_cons pe_int pa_nil)))) pa_nil)) (pv 1)))) pss_nil)
      (pss_cons (ps_setLc (i := 3) (own := [("_law_hour", 4)]) (g := gName 4) (tt := tYes) (by rfl) sc_lnumbers.nd rfl rfl (sw_true rfl rfl rfl (by decide +kernel)) (pi_range1 (by rfl) T.n_range (pa_cons (pv 1) pa_nil)) (blkOk_by (N := ["_law_bag_here", "_law_many", "_law_way", "_law_found", "_law_hour", "_law_one"]) (sc := defScope s_lnumbers) (by decide +kernel)) (fun _ _ _ _ _ => pg_name (i := 4) sc_lnumbers.nd rfl (by first | exact Or.inl rfl | exact Or.inr rfl)) (fun _ _ _ _ _ => pts_nil) (fun _ _ _ _ _ => (pe_call (ok_lnumber T) (hr.mono (by decide)) (by rfl) T.lnumber.m T.lnumber.F.kp T.lnumber.b .nil pass0 (pa_cons (pv 0) pa_nil))))
      (pss_one (ps_ret (pe_lc (own := [("_law_one", 5)]) (g := gName 5) (tt := tYes) (by rfl) sc_lnumbers.nd  (K_pil (K := K) rfl (pv 3)) (blkOk_by (N := ["_law_bag_here", "_law_many", "_law_way", "_law_found", "_law_hour", "_law_one"]) (sc := defScope s_lnumbers) (by decide +kernel)) (fun _ _ _ _ _ => pg_name (i := 5) sc_lnumbers.nd rfl (by first | exact Or.inl rfl | exact Or.inr rfl)) (fun _ _ _ _ _ => pts_nil) (fun _ _ _ _ _ => (pe_ifExp (pt_cmpR op_lt (pv 5) pe_int (nomark _)) (pv 5) (pe_op op_fdiv (pv 5) (pe_op op_mul pe_int (pv 1))))))))))))), ?_⟩
    refine ⟨.ref b, rfl, b, 4, rfl, hb, by decide, by decide, fun H1 v d1 v0 v1 => ?_⟩
    refine ⟨_, rfl, rfl, _, rfl, ite2 (fun _ => ?_) (fun _ => ?_)⟩
    · refine ⟨.int n, rfl, n, rfl, by omega, by omega, fun D nD => ?_⟩
      refine lc_drawR (b := b) (n := ((n : Int) - 0).toNat) (fun _ v => 0 ≤ v ∧ v ≤ 10 ^ 30) d1.bag nD (by omega) (fun i hi H' R d k => ?_) (fun H' ds d hD hl hp => ?_)
      · exact ⟨.ref b, rfl, b, 4, rfl, d.bag, by decide, by decide, fun H4 z d4 z0 z1 => k H4 z d4 ⟨z0, by omega⟩⟩
      · exact q H' D ds (d1.free nD) (d1.trans d) hD (by omega) fun x hx => by
          obtain ⟨j, hj, rfl⟩ := List.getElem_of_mem hx
          exact hp j hj
    refine ⟨_, rfl, rfl, _, rfl, ite2 (fun _ => ?_) (fun _ => ?_)⟩
    · refine ⟨.int n, rfl, n, rfl, by omega, by omega, fun D nD => ?_⟩
      refine lc_drawR (b := b) (n := ((n : Int) - 0).toNat) (fun _ v => 0 ≤ v ∧ v ≤ 10 ^ 30) d1.bag nD (by omega) (fun i hi H' R d k => ?_) (fun H' ds d hD hl hp => ?_)
      · refine ⟨.ref b, rfl, b, 9, rfl, d.bag, by decide, by decide, fun H4 z d4 z0 z1 => ⟨.ref b, rfl, b, 2, rfl, d4.bag, by decide, by decide, fun H5 y d5 y0 y1 => ⟨_, _, rfl, rfl, .inl ⟨by omega, by omega⟩, k H5 _ (d4.trans d5) ?_⟩⟩⟩
        have w : y = 0 ∨ y = 1 := by omega
        rcases w with rfl | rfl <;> omega
      · exact q H' D ds (d1.free nD) (d1.trans d) hD (by omega) fun x hx => by
          obtain ⟨j, hj, rfl⟩ := List.getElem_of_mem hx
          exact hp j hj
    refine ⟨_, rfl, rfl, _, rfl, ite2 (fun _ => ?_) (fun _ => ?_)⟩
    · refine ⟨.ref b, rfl, b, 3, rfl, d1.bag, by decide, by decide, fun H2 c d2 c0 c1 => ⟨_, _, rfl, rfl, by show 1 ≤ sizeLine; decide, fun p np => ⟨.int n, rfl, p, n, _, rfl, rfl, upd_same, by omega, by omega, ?_, fun l nl => ?_⟩⟩⟩
      · rw [Int.toNat_natCast]
        exact small_line' (by simp; omega)
      · have d4 := (d1.trans d2).new (o := .lst [.int (1 + c)]) np
        refine q _ l (List.replicate n (1 + c)) (d4.free nl) (d4.new nl) ?_ List.length_replicate fun x hx => ?_
        · rw [upd_same, Int.toNat_natCast, flat_repI]
        · rw [List.eq_of_mem_replicate hx]
          omega
    · refine ⟨.int n, rfl, n, rfl, by omega, by omega, fun D nD => ?_⟩
      refine lc_drawR (b := b) (n := ((n : Int) - 0).toNat) (fun _ v => 0 ≤ v ∧ v ≤ 10 ^ 30) d1.bag nD (by omega) (fun i hi H' R d k => ?_) (fun H' ds d hD hl hp => ?_)
      · exact ⟨.ref b, rfl, b, rfl, d.bag, fun H4 z d4 z0 z1 => k H4 z d4 ⟨z0, z1⟩⟩
      · have hb2 := d.bag
        have dd := d1.trans d
        dsimp only [gName]
        show tRet _ _ [some (.ref b), some (.int (n : Nat)), some (.int v), some (.ref D), none, none] H'
        refine Evl.s_retL (xs := iv (ds.map fun x => if x < 1000 then x else x / (2 * n))) (el_mapI (l := ds) (fun x => if x < 1000 then x else x / (2 * n)) (Evl.ev_var rfl) (SqL.of hD) (by omega) (fun x => wipe_one _ _ x) fun x hx H4 e4 => ?_) fun l H4 nl e4 hl4 => ?_
        · obtain ⟨j, hj, rfl⟩ := List.getElem_of_mem hx
          have z := hp j hj
          generalize ds[j] = x at z ⊢
          refine Evl.ev_if (b := decide (x < 1000)) (Evl.et_test (Evl.ev_op (Evl.ev_var rfl) Evl.ev_c Evl.rv_I0)) (fun hb => Evl.ev_is (Evl.ev_var rfl) (by rw [if_pos (of_decide_eq_true hb)])) fun hb => ?_
          rw [if_neg (of_decide_eq_false hb)]
          exact Evl.ev_op (Evl.ev_var rfl) (Evl.ev_op Evl.ev_c (Evl.ev_var rfl) (Evl.rv_I (.inl (by decide)))) (Evl.rv_I ⟨by omega, by omega⟩)
        · refine q H4 l _ (dd.free nl) (dd.same e4) hl4 (by rw [List.length_map]; omega) fun y hy => ?_
          obtain ⟨x, hx, rfl⟩ := List.mem_map.mp hy
          obtain ⟨j, hj, rfl⟩ := List.getElem_of_mem hx
          have z := hp j hj
          split
          · exact z
          · have := Int.ediv_nonneg z.1 (show (0 : Int) ≤ 2 * n by omega)
            have := Int.ediv_le_self (2 * (n : Int)) z.1
            omega

def spDraw (K : PySem.W.Frag) : Sp := fun vs H Q _ => ∃ (b : Addr) (n : Nat), vs = [.ref b, .int n] ∧ Bag H b ∧ 0 < n ∧ n ≤ 48 ∧ ∀ H' l ns, H l = none → Drew b H H' → H' l = some (.lst (iv ns)) → ns.length = n → Clk.Valid ns → Q (.ref l) H'
theorem flat_rep (n : Nat) (c : Int) : (List.replicate n [V.int c]).flatten = iv (List.replicate n c) := by
  unfold iv
  induction n with
  | zero => rfl
  | succ n ih =>
    rw [List.replicate_succ, List.replicate_succ, List.flatten_cons, List.map_cons, ih]
    rfl
theorem ok_lstays (T : Env K mg) : FnOk P w K mg base CX0 2 T.lstays.f T.lstays.fd ["_law_bag_here", "_law_many"] (spDraw K) := by
  refine T.lstays.F.ok sc_lstays (fun vs H Q E h => ?_) (fun cdv A outer s H vs Q E hr h => ?_)
  · obtain ⟨b, n, rfl, _⟩ := h
    rfl
  · obtain ⟨b, n, rfl, hb, n0, n48, q⟩ := h
    refine ⟨_, (pss_cons (ps_if (pt_cmpR op_eq (pe_call (ok_ltake T) (hr.mono (by decide)) (by rfl) T.ltake.m T.ltake.F.kp T.ltake.b .nil pass0 (pa_cons (pv 0) (pa_cons pe_int pa_nil))) pe_int (nomark _)) (pss_one (ps_ret (pe_op op_rep (pe_lst (pa_cons (pe_op op_add pe_int (pe_call (ok_ltake T) (hr.mono (by decide)) (by rfl) T.ltake.m T.ltake.F.kp T.ltake.b .nil pass0 (pa_cons (pv 0) (pa_cons (pv 1) pa_nil)))) pa_nil)) (pv 1)))) pss_nil)
      (pss_cons (ps_set (i := 2) sc_lstays.nd rfl (by first | exact Or.inl rfl | exact Or.inr rfl) (pe_op op_add pe_int (pe_call (ok_ltake T) (hr.mono (by decide)) (by rfl) T.ltake.m T.ltake.F.kp T.ltake.b .nil pass0 (pa_cons (pv 0) (pa_cons (pv 1) pa_nil)))))
      (pss_cons (ps_set (i := 3) sc_lstays.nd rfl (by first | exact Or.inl rfl | exact Or.inr rfl) (pe_lc (own := [("_law_hour", 4)]) (g := gName 4) (tt := tYes) (by rfl) sc_lstays.nd  (pi_range1 (by rfl) T.n_range (pa_cons (pv 1) pa_nil)) (blkOk_by (N := ["_law_bag_here", "_law_many", "_law_most", "_law_drawn", "_law_hour", "_law_ahead"]) (sc := defScope s_lstays) (by decide +kernel)) (fun _ _ _ _ _ => pg_name (i := 4) sc_lstays.nd rfl (by first | exact Or.inl rfl | exact Or.inr rfl)) (fun _ _ _ _ _ => pts_nil) (fun _ _ _ _ _ => (pe_op op_add pe_int (pe_call (ok_ltake T) (hr.mono (by decide)) (by rfl) T.ltake.m T.ltake.F.kp T.ltake.b .nil pass0 (pa_cons (pv 0) (pa_cons (pv 2) pa_nil)))))))
      (pss_one (ps_ret (pe_lc (own := [("_law_hour", 4)]) (g := gName 4) (tt := tYes) (by rfl) sc_lstays.nd  (pi_range1 (by rfl) T.n_range (pa_cons (pv 1) pa_nil)) (blkOk_by (N := ["_law_bag_here", "_law_many", "_law_most", "_law_drawn", "_law_hour", "_law_ahead"]) (sc := defScope s_lstays) (by decide +kernel)) (fun _ _ _ _ _ => pg_name (i := 4) sc_lstays.nd rfl (by first | exact Or.inl rfl | exact Or.inr rfl)) (fun _ _ _ _ _ => pts_nil) (fun _ _ _ _ _ => (pe_callB (K_min (K := K) rfl rfl) (by rfl) T.n_min (by decide +kernel) (pa_cons (pe_lc (own := [("_law_ahead", 5)]) (g := gName 5) (tt := tYes) (by rfl) sc_lstays.nd  (pi_range1 (by rfl) T.n_range (pa_cons (pv 1) pa_nil)) (blkOk_by (N := ["_law_bag_here", "_law_many", "_law_most", "_law_drawn", "_law_hour", "_law_ahead"]) (sc := relS _ (defScope s_lstays)) (by decide +kernel)) (fun _ _ _ _ _ => pg_name (i := 5) sc_lstays.nd rfl (by first | exact Or.inl rfl | exact Or.inr rfl)) (fun _ _ _ _ _ => pts_nil) (fun _ _ _ _ _ => (pe_op op_add (pe_ix (K_ixL (K := K) rfl) (pv 3) (pe_op op_mod (pe_callTy call_int1 (by rfl) T.n_int (by decide +kernel) (pa_cons (pe_op op_add (pv 4) (pv 5)) pa_nil)) (pv 1)) (fun _ _ => rfl)) (pv 5)))) pa_nil))))))))), ?_⟩
    refine ⟨.ref b, rfl, b, 4, rfl, hb, by decide, by decide, fun H1 v d1 v0 v1 => ⟨rfl, _, rfl, ite2 (fun _ => ?_) (fun _ => ?_)⟩⟩
    · refine ⟨.ref b, rfl, .int n, rfl, b, n, rfl, d1.bag, by omega, by omega, fun H2 c d2 c0 c1 => ⟨_, _, rfl, rfl, by show 1 ≤ sizeLine; decide, fun p np => ⟨.int n, rfl, p, n, _, rfl, rfl, upd_same, by omega, by omega, ?_, fun l nl => ?_⟩⟩⟩
      · rw [Int.toNat_natCast]
        exact small_line' (by simp; omega)
      · have d3 := (d1.trans d2).new (o := .lst [.int (1 + c)]) np
        have nl0 : H l = none := d3.free nl
        refine q _ l (List.replicate n (1 + c)) nl0 (d3.new nl) ?_ List.length_replicate (Clk.even_valid n0 n48 (by omega) (by omega))
        rw [upd_same, Int.toNat_natCast, flat_rep]
    · refine ⟨.ref b, rfl, .int n, rfl, b, n, rfl, d1.bag, by omega, by omega, fun H2 c d2 c0 c1 => ⟨_, _, rfl, rfl, .int n, rfl, n, rfl, by omega, by omega, fun D nD => ?_⟩⟩
      have d12 := d1.trans d2
      refine lc_drawR (b := b) (n := ((n : Int) - 0).toNat) (fun _ v => 1 ≤ v ∧ v ≤ n) d2.bag nD (by omega) (fun i hi H' R d k => ?_) (fun H' ds d hD hl hp => ?_)
      · refine ⟨.ref b, rfl, .int (1 + c), rfl, b, 1 + c, rfl, d.bag, by omega, by omega, fun H4 z d4 z0 z1 => ⟨_, _, rfl, rfl, ?_⟩⟩
        exact k H4 (1 + z) d4 ⟨by omega, by omega⟩
      · have hl' : ds.length = n := by omega
        have d13 := d12.trans d
        have rS : ∀ x, 1 ≤ Clk.S ds x ∧ Clk.S ds x ≤ ds.length := fun x => by
          obtain ⟨h, e⟩ := Clk.S_at (ns := ds) (by omega) x
          have z := hp _ h
          rw [← e] at z
          omega
        refine ⟨.int n, rfl, n, rfl, by omega, by omega, fun D2 nD2 => ?_⟩
        refine lc_mapR (n := ((n : Int) - 0).toNat) (fun i => .int (Clk.made ds (i : Int))) nD2 (by omega) (fun i hi H3 R sm k => ?_) (fun H3 sm hD3 => ?_)
        · refine ⟨.int n, rfl, n, rfl, by omega, by omega, fun D3 nD3 => ?_⟩
          refine lc_mapR (n := ((n : Int) - 0).toNat) (fun a => .int (Clk.S ds ((i : Int) + (a : Int)) + (a : Int))) nD3 (by omega) (fun a ha H4 R4 sm4 k4 => ?_) (fun H4 sm4 hD4 => ?_)
          · refine ⟨.ref D, rfl, _, rfl, _, rfl, _, _, rfl, rfl, .inl ⟨_, rfl, .int n, rfl, _, _, rfl, rfl, (by show (0 : Int) < n; omega), ?_⟩⟩
            refine ⟨D, iv ds, _, .int (Clk.S ds ((i : Int) + (a : Int))), rfl, rfl, SqL.of (sm4 _ _ (sm _ _ hD)), ?_, .int a, ?_, _, _, rfl, rfl, ?_⟩
            · have z := at_round (ns := ds) (by omega) ((i : Int) + (a : Int))
              rw [hl'] at z
              rw [show (0 : Int) + (i : Int) = i by omega, show (0 : Int) + (a : Int) = a by omega]
              exact z
            · rw [show (0 : Int) + (a : Int) = a by omega]
              rfl
            · exact k4 _ (Same.refl _)
          · refine ⟨D3, Clk.row n fun a => Clk.S ds ((i : Int) + a) + a, rfl, SqL.of ?_, by rw [Clk.row_len]; exact n0, fun m hm hle => ?_⟩
            · rw [hD4, show ((n : Int) - 0).toNat = n by omega]
              exact congrArg (fun z => some (HO.lst z)) (range_row n fun a => Clk.S ds ((i : Int) + a) + a)
            · have e : m = Clk.made ds i := by
                unfold Clk.made
                rw [hl']
                exact Clk.least_is hm hle
              rw [e]
              exact k _ sm4
        · have dF := (d13.same sm)
          refine q H3 D2 (Clk.row ds.length (Clk.made ds)) (d13.free nD2) dF ?_ (by rw [Clk.row_len]; exact hl') (Clk.made_valid (by omega) (by omega) rS)
          rw [hD3, hl', show ((n : Int) - 0).toNat = n by omega]
          exact congrArg (fun z => some (HO.lst z)) (range_row n (Clk.made ds))

section
variable {σ : L2.St} {H : Hp} {b : Addr}
theorem evdr_take {E : XK} {i : Nat} {u : Int} (g : Bag H b) (h : σ[i]? = some (some (.ref b))) (u1 : 1 ≤ u) (u2 : u < 1073741824) : EvDr b (tCall spTake [] E (tCons (tVar i) (tCons (tC (.int u)) tNil))) σ H fun v => 0 ≤ v ∧ v < u := fun Q q =>
  ⟨_, h, b, u, rfl, g, u1, u2, fun H1 v d v0 v1 => q H1 v d ⟨v0, v1⟩⟩
end
def FreeAt (b : Addr) (n : Nat) (ds : List Int) (H : Hp) (w t f c : Addr) (H' : Hp) : Prop := ∃ (r : Int → Option Int) (k : Int → Int) (d : Int → Option Int), Drew b H H' ∧ H' w = some (.lst (iv ds)) ∧ H' t = some (.lst (ovR n r)) ∧ H' f = some (.lst (iv (Clk.row n k))) ∧ H' c = some (.lst (ovR n d)) ∧
  (∀ i x, r i = some x → 0 ≤ x ∧ x ≤ 10 ^ 31) ∧ (∀ i, 0 ≤ k i ∧ k i ≤ 10) ∧ ∀ i x, d i = some x → 0 ≤ x ∧ x ≤ 10 ^ 31
theorem ok_lfree_world (T : Env K mg) : FnOk P w K mg base CX0 4 T.lfree_world.f T.lfree_world.fd ["_law_bag_here", "_law_many"] spWorld := by
  refine T.lfree_world.F.ok sc_lfree_world (fun vs H Q E h => ?_) (fun cdv A outer s H vs Q E hr h => ?_)
  · obtain ⟨b, n, rfl, _⟩ := h
    rfl
  · obtain ⟨b, n, rfl, hb, pos, top, q⟩ := h
    refine ⟨_, (pss_cons (ps_asg (pe_tup (pa_cons (pe_call (ok_lnumbers T) (hr.mono (by decide)) (by rfl) T.lnumbers.m T.lnumbers.F.kp T.lnumbers.b .nil pass0 (pa_cons (pv 0) (pa_cons (pv 1) pa_nil))) (pa_cons (pe_op op_rep (pe_lst (pa_cons pe_non pa_nil)) (pv 1)) (pa_cons (pe_op op_rep (pe_lst (pa_cons pe_int pa_nil)) (pv 1)) (pa_cons (pe_op op_rep (pe_lst (pa_cons pe_non pa_nil)) (pv 1)) pa_nil))))) (pg_tup rfl (pgs_cons (pg_name (i := 4) sc_lfree_world.nd rfl (by first | exact Or.inl rfl | exact Or.inr rfl)) (pgs_cons (pg_name (i := 5) sc_lfree_world.nd rfl (by first | exact Or.inl rfl | exact Or.inr rfl)) (pgs_cons (pg_name (i := 6) sc_lfree_world.nd rfl (by first | exact Or.inl rfl | exact Or.inr rfl)) (pgs_cons (pg_name (i := 7) sc_lfree_world.nd rfl (by first | exact Or.inl rfl | exact Or.inr rfl)) pgs_nil))))))
      (pss_cons (ps_set (i := 2) sc_lfree_world.nd rfl (by first | exact Or.inl rfl | exact Or.inr rfl) (pe_call (ok_ltake T) (hr.mono (by decide)) (by rfl) T.ltake.m T.ltake.F.kp T.ltake.b .nil pass0 (pa_cons (pv 0) (pa_cons pe_int pa_nil))))
      (pss_cons (ps_for PassesOwn.never rfl (pi_range1 (by rfl) T.n_range (pa_cons (pe_op op_mul (pv 1) (pe_callTy call_int1 (by rfl) T.n_int (by decide +kernel) (pa_cons (pe_cmpR op_gt (pv 2) pe_int (nomark _)) pa_nil))) pa_nil)) (pg_name (i := 3) sc_lfree_world.nd rfl (by first | exact Or.inl rfl | exact Or.inr rfl))
      (pss_cons (ps_if (pt_cmpR op_eq (pe_call (ok_ltake T) (hr.mono (by decide)) (by rfl) T.ltake.m T.ltake.F.kp T.ltake.b .nil pass0 (pa_cons (pv 0) (pa_cons pe_int pa_nil))) pe_int (nomark _)) (pss_one (ps_asg (pe_op op_add (pe_call (ok_ltake T) (hr.mono (by decide)) (by rfl) T.ltake.m T.ltake.F.kp T.ltake.b .nil pass0 (pa_cons (pv 0) (pa_cons pe_int pa_nil))) (pe_op op_mul (pe_ix (K_ixL (K := K) rfl) (pv 4) (pv 3) (fun _ _ => rfl)) (pe_callTy call_int1 (by rfl) T.n_int (by decide +kernel) (pa_cons (pe_cmpR op_gt (pe_call (ok_ltake T) (hr.mono (by decide)) (by rfl) T.ltake.m T.ltake.F.kp T.ltake.b .nil pass0 (pa_cons (pv 0) (pa_cons pe_int pa_nil))) pe_int (nomark _)) pa_nil)))) (pg_sub (pv 5) (pv 3) set_list))) pss_nil)
      (pss_cons (ps_asg (pe_op op_mul (pe_call (ok_ltake T) (hr.mono (by decide)) (by rfl) T.ltake.m T.ltake.F.kp T.ltake.b .nil pass0 (pa_cons (pv 0) (pa_cons pe_int pa_nil))) (pe_callTy call_int1 (by rfl) T.n_int (by decide +kernel) (pa_cons (pe_cmpR op_eq (pe_call (ok_ltake T) (hr.mono (by decide)) (by rfl) T.ltake.m T.ltake.F.kp T.ltake.b .nil pass0 (pa_cons (pv 0) (pa_cons pe_int pa_nil))) pe_int (nomark _)) pa_nil))) (pg_sub (pv 6) (pv 3) set_list))
      (pss_one (ps_if (PW.pt (pw_and (pt_cmpR op_eq (pe_call (ok_ltake T) (hr.mono (by decide)) (by rfl) T.ltake.m T.ltake.F.kp T.ltake.b .nil pass0 (pa_cons (pv 0) (pa_cons pe_int pa_nil))) pe_int (nomark _)) (pw_and1 (pt_cmpR op_gt (pv 2) pe_int (nomark _))))) (pss_one (ps_asg (pe_op op_add (pe_call (ok_ltake T) (hr.mono (by decide)) (by rfl) T.ltake.m T.ltake.F.kp T.ltake.b .nil pass0 (pa_cons (pv 0) (pa_cons pe_int pa_nil))) (pe_op op_mul (pe_ix (K_ixL (K := K) rfl) (pv 6) (pv 3) (fun _ _ => rfl)) (pe_callTy call_int1 (by rfl) T.n_int (by decide +kernel) (pa_cons (pe_cmpR op_gt (pe_call (ok_ltake T) (hr.mono (by decide)) (by rfl) T.ltake.m T.ltake.F.kp T.ltake.b .nil pass0 (pa_cons (pv 0) (pa_cons pe_int pa_nil))) pe_int (nomark _)) pa_nil)))) (pg_sub (pv 7) (pv 3) set_list))) pss_nil)))))
      (pss_one (ps_ret (pe_tup (pa_cons (pe_call (ok_lstays T) (hr.mono (by decide)) (by rfl) T.lstays.m T.lstays.F.kp T.lstays.b .nil pass0 (pa_cons (pv 0) (pa_cons (pv 1) pa_nil))) (pa_cons (pv 4) (pa_cons (pv 5) (pa_cons (pv 6) (pa_cons (pv 7) pa_nil))))))))))), ?_⟩
    show tSeq _ _ _ [some (.ref b), some (.int (n : Nat)), none, none, none, none, none, none] H
    refine ⟨_, rfl, _, rfl, b, n, rfl, hb, pos, top, fun H1 w ds nw d1 hw lds pds => ?_⟩
    have nwb : w ≠ b := hb.ne nw
    show tOp rRep (tLst (tCons (tC .non) tNil)) (tVar 1) _ H1 _
    refine el_repV (n := n) (v := .non) (σ := [some (.ref b), some (.int (n : Nat)), none, none, none, none, none, none]) ev_c (ev_var rfl) (by omega) H1 (Ex.refl H1) _ fun t H2 nt e2 ht => ?_
    show tOp rRep (tLst (tCons (tC (.int 0)) tNil)) (tVar 1) _ H2 _
    refine el_repV (n := n) (v := .int 0) (σ := [some (.ref b), some (.int (n : Nat)), none, none, none, none, none, none]) ev_c (ev_var rfl) (by omega) H2 (Ex.refl H2) _ fun f H3 nf e3 hf => ?_
    show tOp rRep (tLst (tCons (tC .non) tNil)) (tVar 1) _ H3 _
    refine el_repV (n := n) (v := .non) (σ := [some (.ref b), some (.int (n : Nat)), none, none, none, none, none, none]) ev_c (ev_var rfl) (by omega) H3 (Ex.refl H3) _ fun c H4 nc e4 hc => ?_
    refine ⟨by show 4 ≤ sizeLine; decide, fun u nu => ⟨u, _, rfl, .inl (.inl upd_same), rfl, _, _, rfl, _, _, rfl, _, _, rfl, _, _, rfl, rfl, ?_⟩⟩
    rw [ovR_none] at ht hc
    rw [row_const] at hf
    have d2 := d1.ex e2
    have d3 := d2.ex e3
    have d4 := d3.ex e4
    have ntw : t ≠ w := (ne_of_none hw nt).symm
    have nfw : f ≠ w := (ne_of_none (e2 _ _ hw) nf).symm
    have nft : f ≠ t := (ne_of_none ht nf).symm
    have ncw : c ≠ w := (ne_of_none (e3 _ _ (e2 _ _ hw)) nc).symm
    have nct : c ≠ t := (ne_of_none (e3 _ _ ht) nc).symm
    have ncf : c ≠ f := (ne_of_none hf nc).symm
    have Ht : H t = none := d1.free nt
    have Hf : H f = none := d2.free nf
    have Hc : H c = none := d3.free nc
    have ntb : t ≠ b := hb.ne Ht
    have nfb : f ≠ b := hb.ne Hf
    have ncb : c ≠ b := hb.ne Hc
    have e5 : Ex H4 (upd H4 u (.tup [.ref w, .ref t, .ref f, .ref c])) := Ex.new nu
    have d5 := d4.ex e5
    have hw5 := e5 _ _ (e4 _ _ (e3 _ _ (e2 _ _ hw)))
    have ht5 := e5 _ _ (e4 _ _ (e3 _ _ ht))
    have hf5 := e5 _ _ (e4 _ _ hf)
    have hc5 := e5 _ _ hc
    generalize upd H4 u (.tup [.ref w, .ref t, .ref f, .ref c]) = H5 at d5 hw5 ht5 hf5 hc5 ⊢
    show tSeq _ _ _ [some (.ref b), some (.int (n : Nat)), none, none, some (.ref w), some (.ref t), some (.ref f), some (.ref c)] H5
    refine q_asgDr (evdr_take d5.bag rfl (by decide) (by decide)) fun H6 wy d6 pw => ?_
    show tSeq _ _ _ [some (.ref b), some (.int (n : Nat)), some (.int wy), none, some (.ref w), some (.ref t), some (.ref f), some (.ref c)] H6
    have F6 : FreeAt b n ds H w t f c H6 := ⟨fun _ => none, fun _ => 0, fun _ => none, d5.trans d6, d6.but _ _ nwb hw5, d6.but _ _ ntb ht5, d6.but _ _ nfb hf5, d6.but _ _ ncb hc5, fun i x z => (nomatch z), fun _ => ⟨by show (0 : Int) ≤ 0; decide, by show (0 : Int) ≤ 10; decide⟩, fun i x z => nomatch z⟩
    have F6e : ∀ {H' H'' : Hp}, FreeAt b n ds H w t f c H' → Ex H' H'' → FreeAt b n ds H w t f c H'' := fun ⟨r, k, d, g1, g2, g3, g4, g5, g6⟩ e => ⟨r, k, d, g1.ex e, e _ _ g2, e _ _ g3, e _ _ g4, e _ _ g5, g6⟩
    have F6d : ∀ {H' H'' : Hp}, FreeAt b n ds H w t f c H' → Drew b H' H'' → FreeAt b n ds H w t f c H'' := fun ⟨r, k, d, g1, g2, g3, g4, g5, g6⟩ e => ⟨r, k, d, g1.trans e, e.but _ _ nwb g2, e.but _ _ ntb g3, e.but _ _ nfb g4, e.but _ _ ncb g5, g6⟩
    refine q_forR1 (n := ((if 0 < wy then n else 0 : Nat) : Int)) (ea_cons (ev_is (ev_op (ev_var rfl) (ev_intB (ev_op (ev_var rfl) ev_c rv_I0)) (rv_I (.inl ⟨by omega, by omega⟩))) ?_) ea_nil) ⟨by omega, by split <;> omega⟩ (fun i σ' H' => ∃ x3, σ' = [some (.ref b), some (.int (n : Nat)), some (.int wy), x3, some (.ref w), some (.ref t), some (.ref f), some (.ref c)] ∧ FreeAt b n ds H w t f c H') (fun H7 e7 => ⟨_, rfl, F6e F6 e7⟩) ?_ ?_
    · by_cases z : 0 < wy
      · rw [decide_eq_true z, if_pos rfl, if_pos z, Int.mul_one]
      · rw [decide_eq_false z, if_neg (by decide), if_neg z, Int.mul_zero]
        rfl
    · rintro i σ' H7 hi' ⟨x3, rfl, F7⟩
      have hi : i < n := by
        split at hi' <;> omega
      obtain ⟨r, k, d, g1, g2, g3, g4, g5, g6, g7, g8⟩ := id F7
      have lw : atI (iv ds) (i : Int) = some (.int (ds.getD i 0)) := atI_nat (by
        unfold iv
        rw [List.getElem?_map, List.getD_eq_getElem?_getD, List.getElem?_eq_getElem (by omega)]
        rfl)
      have bw : 0 ≤ ds.getD i 0 ∧ ds.getD i 0 ≤ 10 ^ 30 := by
        rw [List.getD_eq_getElem?_getD, List.getElem?_eq_getElem (by omega)]
        exact pds _ (List.getElem_mem _)
      generalize ds.getD i 0 = x at lw bw
      show tSeq _ _ _ [some (.ref b), some (.int (n : Nat)), some (.int wy), some (.int (i : Nat)), some (.ref w), some (.ref t), some (.ref f), some (.ref c)] H7
      refine q_ifSetDr (M := FreeAt b n ds H w t f c) (P := fun v => 0 ≤ v ∧ v ≤ 10 ^ 31) (xs := ovR n r) (etdr_op (evdr_take g1.bag rfl (by decide) (by decide)) fun v H1 => rv_eq rfl) (fun H8 d8 => ?_) g3 ntb rfl rfl (by rw [ovR_len]; exact hi) (fun H8 v d8 p => ?_) (fun H8 d8 => F6d F7 d8) fun H8 F8 => ?_
      · refine evdr_op (f := fun x y => x + y) (evdr_take d8.bag rfl (by decide) (by decide)) (fun H9 d9 => evdr_op (f := fun x y => x * y) (P := fun v => 0 ≤ v ∧ v ≤ 10 ^ 30) (evdr_ev d9.bag (ev_ix (ev_var rfl) (ev_var rfl) (SqL.of ((d8.trans d9).but _ _ nwb g2)) lw)) (fun H10 d10 => evdr_01 (evdr_take d10.bag rfl (by decide) (by decide)) fun v H1 => rv_I0) (fun x y H1 p1 p2 => rv_I (.inr ⟨by omega, by omega⟩)) fun y z p1 p2 => ?_) (fun x y H1 p1 p2 => rv_I0) fun y z p1 p2 => ?_
        · subst p1
          rcases p2 with rfl | rfl <;> omega
        · omega
      · refine ⟨Stl.upI r (i : Int) (some v), k, d, (g1.trans d8).put Ht, ?_, ?_, ?_, ?_, fun j y hy => ?_, g7, g8⟩
        · rw [upd_ne ntw.symm]
          exact d8.but _ _ nwb g2
        · rw [upd_same, ovR_set]
        · rw [upd_ne nft]
          exact d8.but _ _ nfb g4
        · rw [upd_ne nct]
          exact d8.but _ _ ncb g5
        · unfold Stl.upI at hy
          split at hy
          · obtain rfl := Option.some.inj hy
            exact p
          · exact g6 j y hy
      obtain ⟨r2, k2, d2, k1, k2', k3, k4, k5, k6, k7, k8⟩ := id F8
      refine q_setDr (P := fun v => 0 ≤ v ∧ v ≤ 10) (xs := iv (Clk.row n k2)) ?_ k4 nfb rfl rfl (by rw [iv_len, Clk.row_len]; exact hi) fun H9 v d9 p => ?_
      · refine evdr_op (f := fun x y => x * y) (evdr_take k1.bag rfl (by decide) (by decide)) (fun H10 d10 => evdr_01 (f := fun v => decide (V.int v = V.int 0)) (evdr_take d10.bag rfl (by decide) (by decide)) fun v H1 => rv_eq rfl) (fun x y H1 p1 p2 => rv_I (.inr ⟨by omega, by omega⟩)) fun y z p1 p2 => ?_
        rcases p2 with rfl | rfl <;> omega
      have F9 : FreeAt b n ds H w t f c (upd H9 f (.lst ((iv (Clk.row n k2)).set i (.int v)))) := by
        refine ⟨r2, Stl.upI k2 (i : Int) v, d2, (k1.trans d9).put Hf, ?_, ?_, ?_, ?_, k6, fun j => ?_, k8⟩
        · rw [upd_ne nfw.symm]
          exact d9.but _ _ nwb k2'
        · rw [upd_ne nft.symm]
          exact d9.but _ _ ntb k3
        · rw [upd_same, row_set hi]
        · rw [upd_ne ncf]
          exact d9.but _ _ ncb k5
        · unfold Stl.upI
          split
          · exact p
          · exact k7 j
      generalize upd H9 f (.lst ((iv (Clk.row n k2)).set i (.int v))) = H10 at F9 ⊢
      obtain ⟨r3, k3f, d3f, m1, m2, m3, m4, m5, m6, m7, m8⟩ := id F9
      refine s_ifSetDr (P := fun v => 0 ≤ v ∧ v ≤ 10 ^ 31) (xs := ovR n d3f) (etdr_and (etdr_op (evdr_take m1.bag rfl (by decide) (by decide)) fun v H1 => rv_eq rfl) fun H1 d1 => etdr_et d1.bag (et_test (ev_op (ev_var rfl) ev_c rv_I0))) (fun H8 d8 => ?_) m5 ncb rfl rfl (by rw [ovR_len]; exact hi) (fun H8 v d8 p => ⟨_, rfl, ?_⟩) fun H8 d8 => ⟨_, rfl, F6d F9 d8⟩
      · have at4 : atI (iv (Clk.row n k3f)) (i : Int) = some (.int (k3f (i : Int))) := at_row (by omega) (by omega)
        have b4 := m7 (i : Int)
        refine evdr_op (f := fun x y => x + y) (evdr_take d8.bag rfl (by decide) (by decide)) (fun H9 d9 => evdr_op (f := fun x y => x * y) (P := fun v => 0 ≤ v ∧ v ≤ 10 ^ 30) (evdr_ev d9.bag (ev_ix (ev_var rfl) (ev_var rfl) (SqL.of ((d8.trans d9).but _ _ nfb m4)) at4)) (fun H10 d10 => evdr_01 (evdr_take d10.bag rfl (by decide) (by decide)) fun v H1 => rv_I0) (fun x y H1 p1 p2 => rv_I (.inr ⟨by omega, by omega⟩)) fun y z p1 p2 => ?_) (fun x y H1 p1 p2 => rv_I0) fun y z p1 p2 => ?_
        · subst p1
          rcases p2 with rfl | rfl <;> omega
        · omega
      · refine ⟨r3, k3f, Stl.upI d3f (i : Int) (some v), (m1.trans d8).put Hc, ?_, ?_, ?_, ?_, m6, m7, fun j y hy => ?_⟩
        · rw [upd_ne ncw.symm]
          exact d8.but _ _ nwb m2
        · rw [upd_ne nct.symm]
          exact d8.but _ _ ntb m3
        · rw [upd_ne ncf.symm]
          exact d8.but _ _ nfb m4
        · rw [upd_same, ovR_set]
        · unfold Stl.upI at hy
          split at hy
          · obtain rfl := Option.some.inj hy
            exact p
          · exact m8 j y hy
    · rintro σ' H7 ⟨x3, rfl, r, k, d, g1, g2, g3, g4, g5, g6, g7, g8⟩
      refine ⟨_, rfl, _, rfl, b, n, rfl, g1.bag, pos, top, fun H8 l ns nl d8 hl lns vn => ⟨_, rfl, _, rfl, _, rfl, _, rfl, by show 5 ≤ sizeLine; decide, fun p np => ?_⟩⟩
      have e9 : Ex H8 (upd H8 p (.tup [.ref l, .ref w, .ref t, .ref f, .ref c])) := Ex.new np
      have eds : iv ds = iv (Clk.row ns.length (Clk.S ds)) := by
        rw [lns, ← lds, ← Clk.row_eq]
      have bS : ∀ x, 0 ≤ Clk.S ds x ∧ Clk.S ds x ≤ 10 ^ 30 := fun x => by
        obtain ⟨h, e⟩ := Clk.S_at (ns := ds) (by omega) x
        rw [e]
        exact pds _ (List.getElem_mem h)
      refine q _ p ⟨ns, Clk.S ds, r, k, d⟩ ((g1.trans d8).free np) ((g1.trans d8).ex e9) ⟨l, w, t, f, c, upd_same, e9 _ _ hl, ?_, ?_, ?_, ?_, g1.bag.ne nl, nwb, ntb, nfb, ncb⟩ ?_ lns ?_
      · rw [← eds]
        exact e9 _ _ (d8.but _ _ nwb g2)
      · show _ = some (HO.lst (ovR ns.length r))
        rw [lns]
        exact e9 _ _ (d8.but _ _ ntb g3)
      · show _ = some (HO.lst (iv (Clk.row ns.length k)))
        rw [lns]
        exact e9 _ _ (d8.but _ _ nfb g4)
      · show _ = some (HO.lst (ovR ns.length d))
        rw [lns]
        exact e9 _ _ (d8.but _ _ ncb g5)
      · exact ⟨vn, fun i hi => (bS (i : Int)).1, fun i _ x e => (g6 _ x e).1, fun i _ => (g7 _).1, fun i _ x e => (g8 _ x e).1⟩
      · refine ⟨fun i hi => ?_, fun i _ x e => (g6 _ x e).2, fun i _ => ?_, fun i _ x e => (g8 _ x e).2⟩
        · have := (bS (i : Int)).2
          show Clk.S ds (i : Int) ≤ 10 ^ 31
          omega
        · have := (g7 (i : Int)).2
          show k (i : Int) ≤ 10 ^ 31
          omega

def spGiven (K : PySem.W.Frag) : Sp := fun vs H Q _ => ∃ (b l : Addr) (xs : List V), vs = [.ref b, .ref l] ∧ Bag H b ∧ H l = some (.lst xs) ∧ l ≠ b ∧ ∀ H' p, H p = none → Drew b H H' → (H' p = some (.lst xs) ∨ H' p = some (.tup xs)) → Q (.ref p) H'
theorem ok_lgiven (T : Env K mg) : FnOk P w K mg base CX0 2 T.lgiven.f T.lgiven.fd ["_law_bag_here", "_law_row"] (spGiven K) := by
  refine T.lgiven.F.ok sc_lgiven (fun vs H Q E h => ?_) (fun cdv A outer s H vs Q E hr h => ?_)
  · obtain ⟨b, l, xs, rfl, _⟩ := h
    rfl
  · obtain ⟨b, l, xs, rfl, hb, hl, nl, q⟩ := h
    refine ⟨_, (pss_one (ps_ret (pe_ifExp (pt_cmpR op_eq (pe_call (ok_ltake T) (hr.mono (by decide)) (by rfl) T.ltake.m T.ltake.F.kp T.ltake.b .nil pass0 (pa_cons (pv 0) (pa_cons pe_int pa_nil))) pe_int (nomark _)) (pe_callTy (K_list (K := K) rfl) (by rfl) T.n_list (by decide +kernel) (pa_cons (pv 1) pa_nil)) (pe_callTy (K_tuple (K := K) rfl) (by rfl) T.n_tuple (by decide +kernel) (pa_cons (pv 1) pa_nil))))), ?_⟩
    refine ⟨_, rfl, b, 2, rfl, hb, by decide, by decide, fun H1 v d1 v0 v1 => ⟨rfl, _, rfl, ?_⟩⟩
    have hl1 := d1.but _ _ nl hl
    refine ite2 (fun _ => ?_) fun _ => ?_
    · exact el_listK (σ := [some (.ref b), some (.ref l)]) (ev_var rfl) (SqL.of hl1) H1 (Ex.refl H1) _ fun p H2 np e2 hp => q H2 p (d1.free np) (d1.same e2) (.inl hp)
    · exact ⟨_, rfl, l, xs, rfl, .inl ⟨SqL.of hl1, fun p np => q _ p (d1.free np) (d1.same (Ex.new np)) (.inr upd_same)⟩⟩

theorem ok_Needs_hours (T : Env K mg) : FnOk P w K mg base CX0 1 T.Needs_hours.f T.Needs_hours.fd ["self"] (spRowLen K T.C_Needs.C "_row") := by
  refine T.Needs_hours.F.ok sc_Needs_hours (fun vs H Q E h => ?_) (fun cdv A outer s H vs Q E hr h => ?_)
  · obtain ⟨p, ns, rfl, _⟩ := h
    rfl
  · obtain ⟨p, ns, rfl, hc, q⟩ := h
    obtain ⟨dx, t, h1, h2⟩ := hc.ex
    refine ⟨_, (pss_one (ps_ret (pe_callB (K_len (K := K) rfl) (by rfl) T.n_len PySem.boot_len (pa_cons (K_fld (K := K) rfl (pv 0) rfl) pa_nil)))), ?_⟩
    refine ⟨_, rfl, p, _, dx, _, .ref t, rfl, h1, T.C_Needs.cl, T.n_Needs__row, rfl, t, _, rfl, .inr h2, ?_⟩
    rw [iv_len]
    exact q

def spHours (K : PySem.W.Frag) (C : Addr) : Sp := fun vs H Q _ => ∃ (p : Addr) (ns : List Int), vs = [.ref p] ∧ ClkAt K C H p ns ∧ Q (.int ns.length) H
theorem ok_Clock_hours (T : Env K mg) : FnOk P w K mg base CX0 1 T.Clock_hours.f T.Clock_hours.fd ["self"] (spHours K T.C_Clock.C) := by
  refine T.Clock_hours.F.ok sc_Clock_hours (fun vs H Q E h => ?_) (fun cdv A outer s H vs Q E hr h => ?_)
  · obtain ⟨p, ns, rfl, _⟩ := h
    rfl
  · obtain ⟨p, ns, rfl, hc, q⟩ := h
    obtain ⟨dx, t, h1, h2⟩ := hc.ex
    refine ⟨_, (pss_one (ps_ret (pe_callB (K_len (K := K) rfl) (by rfl) T.n_len PySem.boot_len (pa_cons (K_fld (K := K) rfl (pv 0) rfl) pa_nil)))), ?_⟩
    refine ⟨_, rfl, p, _, dx, _, .ref t, rfl, h1, T.C_Clock.cl, T.n_Clock__stays, rfl, t, _, rfl, .inr h2, ?_⟩
    rw [iv_len]
    exact q

def spPIsRow (K : PySem.W.Frag) : Sp := fun vs H Q _ => ∃ (n : Int) (a : Addr) (xs : List V), vs = [.int n, .ref a] ∧ (SqL K H a xs ∨ SqT K H a xs) ∧ ∀ H', Same H H' → Q (.bl ((xs.length : Int) == n)) H'
theorem ok_p_is_row (T : Env K mg) : FnOk P w K mg base CX0 1 T.p_is_row.f T.p_is_row.fd ["hours", "thing"] (spPIsRow K) := by
  refine T.p_is_row.F.ok sc_p_is_row (fun vs H Q E h => ?_) (fun cdv A outer s H vs Q E hr h => ?_)
  · obtain ⟨n, a, xs, rfl, _⟩ := h
    rfl
  · obtain ⟨n, a, xs, rfl, hI, q⟩ := h
    refine ⟨_, (pss_one (ps_ret (pe_and (pe_callB (K_isiT (K := K) rfl) (by rfl) T.n_isinstance (by decide +kernel) (pa_cons (pv 1) (pa_cons (pe_tup (pa_cons (pe_bltn (v := .ty "list") (by rfl) T.n_list (by decide +kernel) rfl) (pa_cons (pe_bltn (v := .ty "tuple") (by rfl) T.n_tuple (by decide +kernel) rfl) pa_nil))) pa_nil))) (pe_one (pe_cmpR op_eq (pe_callB (K_len (K := K) rfl) (by rfl) T.n_len PySem.boot_len (pa_cons (pv 1) pa_nil)) (pv 0) (nomark _)))))), ?_⟩
    refine ⟨.ref a, rfl, by show 2 ≤ sizeLine; decide, fun p np => ?_⟩
    have s1 : Same H (upd H p (.tup [.ty "list", .ty "tuple"])) := same_new np
    have hI1 : SqL K (upd H p (.tup [.ty "list", .ty "tuple"])) a xs ∨ SqT K (upd H p (.tup [.ty "list", .ty "tuple"])) a xs := hI.elim (fun h => .inl (s1.seq h)) fun h => .inr (Same.set s1 h)
    obtain ⟨t, ht, kt⟩ := kit_seq hI1
    refine ⟨.ref a, p, _, t, _, true, rfl, upd_same, .cons (.ty _) (.cons (.ty _) .nil), ht, kt, true, rfl, iteT ?_⟩
    refine ⟨.ref a, rfl, a, _, rfl, hI1, .int n, rfl, rfl, ?_⟩
    rw [dec_int]
    exact q _ s1

def spIsInteger : Sp := fun vs H Q _ => ∃ i : Int, vs = [.int i] ∧ Q (.bl true) H
theorem ok_is_integer (T : Env K mg) : FnOk P w K mg base CX0 1 T.is_integer.f T.is_integer.fd ["thing"] spIsInteger := by
  refine T.is_integer.F.ok sc_is_integer (fun vs H Q E h => ?_) (fun cdv A outer s H vs Q E hr h => ?_)
  · obtain ⟨i, rfl, _⟩ := h
    rfl
  · obtain ⟨i, rfl, q⟩ := h
    refine ⟨_, (pss_one (ps_ret (pe_and (pe_callB (K_isi (K := K) rfl) (by rfl) T.n_isinstance (by decide +kernel) (pa_cons (pv 0) (pa_cons (pe_bltn (v := .ty "int") (by rfl) T.n_int (by decide +kernel) rfl) pa_nil))) (pe_one (pe_not (pe_callB (K_isi (K := K) rfl) (by rfl) T.n_isinstance (by decide +kernel) (pa_cons (pv 0) (pa_cons (pe_bltn (v := .ty "bool") (by rfl) T.n_bool (by decide +kernel) rfl) pa_nil)))))))), ?_⟩
    refine ⟨_, rfl, .int i, .ty "int", .type "int", .type "int", true, rfl, .ty _, .base (.int i), kit_ty (by decide +kernel), true, rfl, ?_⟩
    refine iteT ⟨_, rfl, .int i, .ty "bool", .type "int", .type "bool", false, rfl, .ty _, .base (.int i), kit_ty (by decide +kernel), false, rfl, ?_⟩
    exact q

def spIsCount : Sp := fun vs H Q _ => ∃ i : Int, vs = [.int i] ∧ Q (.bl (decide (0 ≤ i))) H
theorem ok_is_count (T : Env K mg) : FnOk P w K mg base CX0 2 T.is_count.f T.is_count.fd ["thing"] spIsCount := by
  refine T.is_count.F.ok sc_is_count (fun vs H Q E h => ?_) (fun cdv A outer s H vs Q E hr h => ?_)
  · obtain ⟨i, rfl, _⟩ := h
    rfl
  · obtain ⟨i, rfl, q⟩ := h
    refine ⟨_, (pss_one (ps_ret (pe_and (pe_call (ok_is_integer T) (hr.mono (by decide)) (by rfl) T.is_integer.m T.is_integer.F.kp T.is_integer.b .nil pass0 (pa_cons (pv 0) pa_nil)) (pe_one (pe_cmpR op_ge (pv 0) pe_int (nomark _)))))), ?_⟩
    refine ⟨_, rfl, i, rfl, true, rfl, iteT ⟨_, rfl, _, _, rfl, rfl, q⟩⟩

theorem ok_are_limits (T : Env K mg) : FnOk P w K mg base CX0 3 T.are_limits.f T.are_limits.fd ["hours", "thing"] (spAreLimits K) := by
  refine T.are_limits.F.ok sc_are_limits (fun vs H Q E h => ?_) (fun cdv A outer s H vs Q E hr h => ?_)
  · obtain ⟨n, a, xs, rfl, _⟩ := h
    rfl
  · obtain ⟨n, a, xs, rfl, hI, rfl, ht, hx, q⟩ := h
    refine ⟨_, (pss_one (ps_ret (pe_and (pe_call (ok_p_is_row T) (hr.mono (by decide)) (by rfl) T.p_is_row.m T.p_is_row.F.kp T.p_is_row.b .nil pass0 (pa_cons (pv 0) (pa_cons (pv 1) pa_nil))) (pe_one (pe_callB (K_all (K := K) rfl rfl) (by rfl) T.n_all (by decide +kernel) (pa_cons (pe_lc (own := [("item", 2)]) (g := gName 2) (tt := tYes) (by rfl) sc_are_limits.nd  (K_piq (K := K) rfl (pv 1)) (blkOk_by (N := ["hours", "thing", "item"]) (sc := defScope s_are_limits) (by decide +kernel)) (fun _ _ _ _ _ => pg_name (i := 2) sc_are_limits.nd rfl (by first | exact Or.inl rfl | exact Or.inr rfl)) (fun _ _ _ _ _ => pts_nil) (fun _ _ _ _ _ => (pe_or (pe_cmpR op_isN (pv 2) pe_non (nomark _)) (pe_one (pe_call (ok_is_count T) (hr.mono (by decide)) (by rfl) T.is_count.m T.is_count.F.kp T.is_count.b .nil pass0 (pa_cons (pv 2) pa_nil)))))) pa_nil)))))), ?_⟩
    refine ⟨.int (xs.length : Nat), rfl, .ref a, rfl, (xs.length : Nat), a, xs, rfl, hI, fun H1 s1 => ?_⟩
    rw [beq_self_eq_true]
    refine ⟨true, rfl, iteT ?_⟩
    have hI1 := seq_same s1 hI
    have fin : ∀ (D : Addr) (H' : Hp), Same H1 H' → H' D = some (.lst ((List.range xs.length).map fun _ => .bl true)) → ∃ (a : Addr) (bs : List Bool), [V.ref D] = [V.ref a] ∧ SqL K H' a (bv bs) ∧ Q (.bl (bs.all id)) H' := by
      intro D H' sm hD
      have e : (List.range xs.length).map (fun _ => V.bl true) = bv (List.replicate xs.length true) := by
        apply List.ext_getElem
        · simp [bv]
        · intro i h1 h2
          simp [bv]
      rw [e] at hD
      refine ⟨D, _, rfl, SqL.of hD, ?_⟩
      rw [show (List.replicate xs.length true).all id = true by simp]
      exact q _ (s1.trans sm)
    have item : ∀ (i : Nat) (hi : i < xs.length) (H' : Hp) (R : VK), (∀ H4, Same H' H4 → R (.bl true) H4) → (tOrV (tOp (fun x y H Q => y = V.non ∧ Q (V.bl (decide (x = V.non))) H) (tVar 2) (tC .non)) (tCall spIsCount [] E0 (tCons (tVar 2) tNil))) [some (.int (xs.length : Nat)), some (.ref a), some xs[i]] H' R := fun i hi H' R k => by
      rcases hx _ (List.getElem_mem hi) with e | ⟨y, e, y0⟩
      · rw [e]
        exact ⟨_, rfl, rfl, true, rfl, k _ (Same.refl _)⟩
      · rw [e]
        refine ⟨_, rfl, rfl, false, congrArg V.bl (decide_eq_false fun z => nomatch z), _, rfl, y, rfl, ?_⟩
        rw [decide_eq_true y0]
        exact k _ (Same.refl _)
    rcases hI1 with hI1 | hI1
    · refine .inl ⟨.ref a, rfl, a, rfl, ⟨_, hI1⟩, fun D nD => ?_⟩
      exact lc_mapL (fun _ => .bl true) hI1 nD ht (fun i hi H' R sm k => item i hi H' R k) (fun H' sm hD => fin D H' sm hD)
    · refine .inr ⟨.ref a, rfl, a, rfl, ⟨_, hI1⟩, fun D nD => ?_⟩
      exact lc_mapT (fun _ => .bl true) hI1 nD ht (fun i hi H' R sm k => item i hi H' R k) (fun H' sm hD => fin D H' sm hD)

def spAreCounts (K : PySem.W.Frag) : Sp := fun vs H Q _ => ∃ (n : Int) (a : Addr) (ns : List Int), vs = [.int n, .ref a] ∧ Ints K H a ns ∧ (ns.length : Int) = n ∧ ns.length ≤ 10000 ∧ ∀ H', Same H H' → Q (.bl (ns.all fun x => decide (0 ≤ x))) H'
theorem ok_are_counts (T : Env K mg) : FnOk P w K mg base CX0 3 T.are_counts.f T.are_counts.fd ["hours", "thing"] (spAreCounts K) := by
  refine T.are_counts.F.ok sc_are_counts (fun vs H Q E h => ?_) (fun cdv A outer s H vs Q E hr h => ?_)
  · obtain ⟨n, a, ns, rfl, _⟩ := h
    rfl
  · obtain ⟨n, a, ns, rfl, hI, rfl, ht, q⟩ := h
    refine ⟨_, (pss_one (ps_ret (pe_and (pe_call (ok_p_is_row T) (hr.mono (by decide)) (by rfl) T.p_is_row.m T.p_is_row.F.kp T.p_is_row.b .nil pass0 (pa_cons (pv 0) (pa_cons (pv 1) pa_nil))) (pe_one (pe_callB (K_all (K := K) rfl rfl) (by rfl) T.n_all (by decide +kernel) (pa_cons (pe_lc (own := [("item", 2)]) (g := gName 2) (tt := tYes) (by rfl) sc_are_counts.nd  (K_piq (K := K) rfl (pv 1)) (blkOk_by (N := ["hours", "thing", "item"]) (sc := defScope s_are_counts) (by decide +kernel)) (fun _ _ _ _ _ => pg_name (i := 2) sc_are_counts.nd rfl (by first | exact Or.inl rfl | exact Or.inr rfl)) (fun _ _ _ _ _ => pts_nil) (fun _ _ _ _ _ => (pe_call (ok_is_count T) (hr.mono (by decide)) (by rfl) T.is_count.m T.is_count.F.kp T.is_count.b .nil pass0 (pa_cons (pv 2) pa_nil)))) pa_nil)))))), ?_⟩
    refine ⟨.int (ns.length : Nat), rfl, .ref a, rfl, (ns.length : Nat), a, iv ns, rfl, hI, fun H1 s1 => ?_⟩
    rw [iv_len, beq_self_eq_true]
    refine ⟨true, rfl, iteT ?_⟩
    have hI1 := hI.same s1
    have fin : ∀ (D : Addr) (H' : Hp), Same H1 H' → H' D = some (.lst ((List.range (iv ns).length).map fun i => .bl (decide (0 ≤ ns.getD i 0)))) → ∃ (a : Addr) (bs : List Bool), [V.ref D] = [V.ref a] ∧ SqL K H' a (bv bs) ∧ Q (.bl (bs.all id)) H' := by
      intro D H' sm hD
      have e : (List.range (iv ns).length).map (fun i => V.bl (decide (0 ≤ ns.getD i 0))) = bv (ns.map fun x => decide (0 ≤ x)) := by
        rw [iv_len, bv, List.map_map]
        refine range_get fun i hi => ?_
        rw [List.getD_eq_getElem?_getD, List.getElem?_eq_getElem hi]
        rfl
      rw [e] at hD
      refine ⟨D, _, rfl, SqL.of hD, ?_⟩
      rw [List.all_map]
      exact q _ (s1.trans sm)
    rcases hI1 with hI1 | hI1
    · refine .inl ⟨.ref a, rfl, a, rfl, ⟨_, hI1⟩, fun D nD => ?_⟩
      refine lc_mapL (fun i => .bl (decide (0 ≤ ns.getD i 0))) hI1 nD (by rw [iv_len]; omega) (fun i hi H' R sm k => ?_) (fun H' sm hD => fin D H' sm hD)
      rw [getD_iv hi]
      exact ⟨_, rfl, _, rfl, k _ (Same.refl _)⟩
    · refine .inr ⟨.ref a, rfl, a, rfl, ⟨_, hI1⟩, fun D nD => ?_⟩
      refine lc_mapT (fun i => .bl (decide (0 ≤ ns.getD i 0))) hI1 nD (by rw [iv_len]; omega) (fun i hi H' R sm k => ?_) (fun H' sm hD => fin D H' sm hD)
      rw [getD_iv hi]
      exact ⟨_, rfl, _, rfl, k _ (Same.refl _)⟩

theorem ok_filled_row (T : Env K mg) : FnOk P w K mg base CX0 1 T.filled_row.f T.filled_row.fd ["hours", "row", "item"] (spFilled K) := by
  refine T.filled_row.F.ok sc_filled_row (fun vs H Q E h => ?_) (fun cdv A outer s H vs Q E hr h => ?_)
  · obtain ⟨n, x, d, xs, rfl, _⟩ := h
    rfl
  · obtain ⟨n, x, d, xs, rfl, hx, ln, n0, n1, q⟩ := h
    refine ⟨_, (pss_cons (ps_if (pt_cmpR op_isN (pv 1) pe_non (nomark _)) (pss_one (ps_ret (pe_op (K_repT (K := K) rfl) (pe_tup (pa_cons (pv 2) pa_nil)) (pv 0)))) pss_nil)
      (pss_one (ps_ret (pe_callTy (K_tuple (K := K) rfl) (by rfl) T.n_tuple (by decide +kernel) (pa_cons (pv 1) pa_nil))))), ?_⟩
    rcases hx with ⟨rfl, e⟩ | ⟨a, rfl, ha⟩
    · refine ⟨_, rfl, rfl, true, rfl, iteT ?_⟩
      refine ⟨_, rfl, by show 1 ≤ sizeLine; decide, fun t nt => ⟨_, rfl, t, (n : Nat), [d], rfl, rfl, SqT.of upd_same, (fun z => nomatch z), by omega, by omega, by show 1 ≤ 1000; decide, fun k1 => ?_, fun k2 p np => ?_⟩⟩
      · refine q t _ (same_new nt) ?_
        rw [e, ln, show n = 1 by omega]
        exact SqT.of upd_same
      · refine q p _ ((same_new nt).trans (same_new np)) ?_
        rw [e, ln, Int.toNat_natCast, flat_rep1]
        exact SqT.of upd_same
    · refine ⟨_, rfl, rfl, false, rfl, iteF ?_⟩
      refine ⟨_, rfl, a, xs, rfl, ?_⟩
      rcases ha with h | h
      · exact .inl ⟨h, fun t nt => q t _ (same_new nt) (SqT.of upd_same)⟩
      · exact .inr ⟨h, q a H (Same.refl H) h⟩

theorem ok_House_init (T : Env K mg) : FnOk P w K mg base CX0 4 T.House_init.f T.House_init.fd ["self", "clock", "needs", "rooms", "kept", "doors"] (spHouseInit K T.C_House.C T.C_Clock.C T.C_Needs.C) := by
  refine T.House_init.F.ok sc_House_init (fun vs H Q E h => ?_) (fun cdv A outer s H vs Q E hr h => ?_)
  · obtain ⟨p, dx, c, f, x, y, z, h, rfl, _⟩ := h
    rfl
  · obtain ⟨p, dx, c, f, x, y, z, h, rfl, hp, ok, hC, hN, hx, hy, hz, q⟩ := h
    refine ⟨_, (pss_cons (ps_if (pt_not (pt_val (pe_callB (K_isi (K := K) rfl) (by rfl) T.n_isinstance (by decide +kernel) (pa_cons (pv 1) (pa_cons (pe_glob (v := .ref T.C_Clock.C) (by rfl) T.C_Clock.mg rfl) pa_nil))))) (pss_one ps_never) pss_nil)
      (pss_cons (ps_if (PW.pt (pw_or (pt_not (pt_val (pe_callB (K_isi (K := K) rfl) (by rfl) T.n_isinstance (by decide +kernel) (pa_cons (pv 2) (pa_cons (pe_glob (v := .ref T.C_Needs.C) (by rfl) T.C_Needs.mg rfl) pa_nil))))) (pw_or1 (pt_cmpR op_ne (pe_prop (pv 2) T.C_Needs.cl T.p_Needs_hours (ok_Needs_hours T) (hr.mono (by decide)) T.Needs_hours.b .nil pass0 rfl) (pe_prop (pv 1) T.C_Clock.cl T.p_Clock_hours (ok_Clock_hours T) (hr.mono (by decide)) T.Clock_hours.b .nil pass0 rfl) (nomark _))))) (pss_one ps_never) pss_nil)
      (pss_cons (ps_if (PW.pt (pw_and (pt_cmpR op_notN (pv 3) pe_non (nomark _)) (pw_and1 (pt_not (pt_val (pe_call (ok_are_limits T) (hr.mono (by decide)) (by rfl) T.are_limits.m T.are_limits.F.kp T.are_limits.b .nil pass0 (pa_cons (pe_prop (pv 1) T.C_Clock.cl T.p_Clock_hours (ok_Clock_hours T) (hr.mono (by decide)) T.Clock_hours.b .nil pass0 rfl) (pa_cons (pv 3) pa_nil)))))))) (pss_one ps_never) pss_nil)
      (pss_cons (ps_if (PW.pt (pw_and (pt_cmpR op_notN (pv 4) pe_non (nomark _)) (pw_and1 (pt_not (pt_val (pe_call (ok_are_counts T) (hr.mono (by decide)) (by rfl) T.are_counts.m T.are_counts.F.kp T.are_counts.b .nil pass0 (pa_cons (pe_prop (pv 1) T.C_Clock.cl T.p_Clock_hours (ok_Clock_hours T) (hr.mono (by decide)) T.Clock_hours.b .nil pass0 rfl) (pa_cons (pv 4) pa_nil)))))))) (pss_one ps_never) pss_nil)
      (pss_cons (ps_if (PW.pt (pw_and (pt_cmpR op_notN (pv 5) pe_non (nomark _)) (pw_and1 (pt_not (pt_val (pe_call (ok_are_limits T) (hr.mono (by decide)) (by rfl) T.are_limits.m T.are_limits.F.kp T.are_limits.b .nil pass0 (pa_cons (pe_prop (pv 1) T.C_Clock.cl T.p_Clock_hours (ok_Clock_hours T) (hr.mono (by decide)) T.Clock_hours.b .nil pass0 rfl) (pa_cons (pv 5) pa_nil)))))))) (pss_one ps_never) pss_nil)
      (pss_cons (ps_fld (pv 0) (pv 1) rfl)
      (pss_cons (ps_fld (pv 0) (pv 2) rfl)
      (pss_cons (ps_fld (pv 0) (pe_call (ok_filled_row T) (hr.mono (by decide)) (by rfl) T.filled_row.m T.filled_row.F.kp T.filled_row.b .nil pass0 (pa_cons (pe_prop (pv 1) T.C_Clock.cl T.p_Clock_hours (ok_Clock_hours T) (hr.mono (by decide)) T.Clock_hours.b .nil pass0 rfl) (pa_cons (pv 3) (pa_cons pe_non pa_nil)))) rfl)
      (pss_cons (ps_fld (pv 0) (pe_call (ok_filled_row T) (hr.mono (by decide)) (by rfl) T.filled_row.m T.filled_row.F.kp T.filled_row.b .nil pass0 (pa_cons (pe_prop (pv 1) T.C_Clock.cl T.p_Clock_hours (ok_Clock_hours T) (hr.mono (by decide)) T.Clock_hours.b .nil pass0 rfl) (pa_cons (pv 4) (pa_cons pe_int pa_nil)))) rfl)
      (pss_one (ps_fld (pv 0) (pe_call (ok_filled_row T) (hr.mono (by decide)) (by rfl) T.filled_row.m T.filled_row.F.kp T.filled_row.b .nil pass0 (pa_cons (pe_prop (pv 1) T.C_Clock.cl T.p_Clock_hours (ok_Clock_hours T) (hr.mono (by decide)) T.Clock_hours.b .nil pass0 rfl) (pa_cons (pv 5) (pa_cons pe_non pa_nil)))) rfl))))))))))), ?_⟩
    obtain ⟨dy, u, g1, g2⟩ := hC.ex
    obtain ⟨dz, v, k1, k2⟩ := hN.ex
    have pos : 0 < h.n := ok.v.pos
    have top : h.n ≤ 48 := ok.v.top
    have lk : (Clk.row h.n h.k).length = h.n := Clk.row_len _ _
    have hours : ∀ {H' : Hp}, Ex H H' → Ev (tProp T.C_Clock.C (spHours K T.C_Clock.C) [] E0 (tVar 1)) [some (.ref p), some (.ref c), some (.ref f), some x, some y, some z] H' (.int (h.n : Nat)) := fun e => fun H1 e1 Q q => ⟨_, rfl, c, dy, _, rfl, (e.trans e1) _ _ g1, c, h.ns, rfl, hC.same (e.trans e1), q H1 (Ex.refl H1)⟩
    have nhours : Ev (tProp T.C_Needs.C (spRowLen K T.C_Needs.C (Str.ofString "_row")) [] E0 (tVar 2)) [some (.ref p), some (.ref c), some (.ref f), some x, some y, some z] H (.int (h.n : Nat)) := fun H1 e1 Q q => ⟨_, rfl, f, dz, _, rfl, e1 _ _ k1, f, _, rfl, hN.same e1, by rw [Clk.row_len]; exact q H1 (Ex.refl H1)⟩
    have lim : ∀ {H' : Hp} {j : Nat} {w : V} {r : Int → Option Int}, Ex H H' → ([some (.ref p), some (.ref c), some (.ref f), some x, some y, some z] : L2.St)[j]? = some (some w) → OptAt K H w (ovR h.n r) .non → (∀ i : Nat, i < h.n → ∀ x, r i = some x → 0 ≤ x) → EvT (tAnd (tTest (tOp rNotN (tVar j) (tC .non))) (tNot (tB (tCall (spAreLimits K) [] E0 (tCons (tProp T.C_Clock.C (spHours K T.C_Clock.C) [] E0 (tVar 1)) (tCons (tVar j) tNil)))))) [some (.ref p), some (.ref c), some (.ref f), some x, some y, some z] H' false :=
      fun {H' j w r} e hj hw h0 => et_optL (K := K) (ev_var hj) (hours e) (hw.same e) fun a H' e' ha Q E k => ⟨(h.n : Nat), a, _, rfl, ha, by rw [ovR_len], by rw [ovR_len]; omega, fun v hv => by
        obtain ⟨i, hi, rfl⟩ := List.mem_map.mp hv
        cases hr : r i with
        | none => exact .inl rfl
        | some j => exact .inr ⟨j, rfl, h0 i (List.mem_range.mp hi) j hr⟩, k⟩
    show tSeq _ _ _ [some (.ref p), some (.ref c), some (.ref f), some x, some y, some z] H
    refine q_skip (et_is (et_not (a := true) (et_B (ev_isiC (ev_var rfl) g1 T.C_Clock.cl T.ic_Clock T.ig_Clock T.it_Clock T.ob_Clock))) rfl) fun H1 e1 => ?_
    refine q_skip (et_or2 (et_is (et_not (a := true) (et_B (ev_isiC (ev_var rfl) (e1 _ _ k1) T.C_Needs.cl T.ic_Needs T.ig_Needs T.it_Needs T.ob_Needs))) rfl) (et_test (ev_is (ev_op (nhours.mono e1) (hours e1) (rv_ne rfl)) (by rw [decide_eq_true rfl]; rfl)))) fun H2 e2 => ?_
    refine q_skip (lim (e1.trans e2) rfl hx ok.r0) fun H3 e3 => ?_
    have e13 := e1.trans (e2.trans e3)
    refine q_skip (et_optL (K := K) (xs := iv (Clk.row h.n h.k)) (d := .int 0) (ev_var rfl) (hours e13) (hy.same e13) fun a H' e' ha Q E k => ⟨(h.n : Nat), a, Clk.row h.n h.k, rfl, ha, by rw [lk], by omega, fun H2 e2 => ?_⟩) fun H4 e4 => ?_
    · have all : ((Clk.row h.n h.k).all fun x => decide (0 ≤ x)) = true := List.all_eq_true.mpr fun x hx => by
        obtain ⟨i, hi, rfl⟩ := Clk.mem_row.mp hx
        exact decide_eq_true (ok.k0 i hi)
      rw [all]
      exact k H2 e2
    have e14 := e13.trans e4
    refine q_skip (lim e14 rfl hz ok.d0) fun H5 e5 => ?_
    have e15 := e14.trans e5
    refine q_fld (v := .ref c) (ev_var rfl) (ev_var rfl) (e15 _ _ hp) T.C_House.cl T.n_House__clock (by decide) fun H6 e6 => ?_
    have b6 : But p H (upd H6 p (.ins T.C_House.C dx (putF "_clock" (.ref c) []))) := (But.of (e15.trans e6)).upd
    refine q_fld (v := .ref f) (ev_var rfl) (ev_var rfl) upd_same T.C_House.cl T.n_House__needs (by show 1 < 1000; decide) fun H7 e7 => ?_
    have b7 := (b6.trans (But.of e7)).upd (o := .ins T.C_House.C dx (putF "_needs" (.ref f) (putF "_clock" (.ref c) [])))
    have fill : ∀ {H' : Hp} {w d : V} {xs : List V} {j : Nat} {td : TE} {R : VK}, But p H H' → ([some (.ref p), some (.ref c), some (.ref f), some x, some y, some z] : L2.St)[j]? = some (some w) → OptAt K H w xs d → xs.length = h.n → (∀ Q : VK, Q d H' → td [some (.ref p), some (.ref c), some (.ref f), some x, some y, some z] H' Q) → (∀ t H2, Same H' H2 → SqT K H2 t xs → R (.ref t) H2) →
        tCall (spFilled K) [] E0 (tCons (tProp T.C_Clock.C (spHours K T.C_Clock.C) [] E0 (tVar 1)) (tCons (tVar j) (tCons td tNil))) [some (.ref p), some (.ref c), some (.ref f), some x, some y, some z] H' R := fun {H' w d xs j td R} b hj ho hl htd k => by
      have hC' := clk_butI hp b hC
      obtain ⟨dy', u', g1', _⟩ := hC'.ex
      exact ⟨_, rfl, c, dy', _, rfl, g1', c, h.ns, rfl, hC', _, hj, htd _ ⟨h.n, w, d, xs, rfl, opt_butI hp b ho, hl, pos, by omega, k⟩⟩
    refine fill (j := 3) (d := .non) b7 rfl hx ovR_len (fun Q q => q) fun tr H8 s8 h8 => ?_
    refine ⟨_, rfl, p, _, dx, _, rfl, s8 _ _ upd_same, T.C_House.cl, T.n_House__rooms, by show 2 < 1000; decide, ?_⟩
    have b8 := (b7.trans (But.of s8)).upd (o := .ins T.C_House.C dx (putF "_rooms" (.ref tr) (putF "_needs" (.ref f) (putF "_clock" (.ref c) []))))
    refine fill (j := 4) (d := .int 0) b8 rfl hy (by rw [iv_len, lk]) (fun Q q => q) fun tk H9 s9 h9 => ?_
    refine ⟨_, rfl, p, _, dx, _, rfl, s9 _ _ upd_same, T.C_House.cl, T.n_House__kept, by show 3 < 1000; decide, ?_⟩
    have b9 := (b8.trans (But.of s9)).upd (o := .ins T.C_House.C dx (putF "_kept" (.ref tk) (putF "_rooms" (.ref tr) (putF "_needs" (.ref f) (putF "_clock" (.ref c) [])))))
    refine fill (j := 5) (d := .non) b9 rfl hz ovR_len (fun Q q => q) fun td H10 s10 h10 => ?_
    refine ⟨_, rfl, p, _, dx, _, rfl, s10 _ _ upd_same, T.C_House.cl, T.n_House__doors, by show 4 < 1000; decide, ?_⟩
    have b10 := (b9.trans (But.of s10)).upd (o := .ins T.C_House.C dx (putF "_doors" (.ref td) (putF "_kept" (.ref tk) (putF "_rooms" (.ref tr) (putF "_needs" (.ref f) (putF "_clock" (.ref c) []))))))
    have t8 := sqT_butI upd_same ((But.of s9).upd (o := .ins T.C_House.C dx (putF "_kept" (.ref tk) (putF "_rooms" (.ref tr) (putF "_needs" (.ref f) (putF "_clock" (.ref c) [])))))) (sqT_butI (s8 _ _ upd_same) (But.refl p H8).upd h8)
    have t8b := sqT_butI upd_same ((But.of s10).upd (o := .ins T.C_House.C dx (putF "_doors" (.ref td) (putF "_kept" (.ref tk) (putF "_rooms" (.ref tr) (putF "_needs" (.ref f) (putF "_clock" (.ref c) []))))))) t8
    have t9 := sqT_butI upd_same ((But.of s10).upd (o := .ins T.C_House.C dx (putF "_doors" (.ref td) (putF "_kept" (.ref tk) (putF "_rooms" (.ref tr) (putF "_needs" (.ref f) (putF "_clock" (.ref c) []))))))) (sqT_butI (s9 _ _ upd_same) (But.refl p H9).upd h9)
    have t10 := sqT_butI (s10 _ _ upd_same) ((But.refl p H10).upd (o := .ins T.C_House.C dx (putF "_doors" (.ref td) (putF "_kept" (.ref tk) (putF "_rooms" (.ref tr) (putF "_needs" (.ref f) (putF "_clock" (.ref c) []))))))) h10
    exact q _ b10 ⟨ok, dx, c, f, tr, tk, td, upd_same, clk_butI hp b10 hC, row_butI hp b10 hN, t8b, t9, t10⟩

def spIsRow (K : PySem.W.Frag) : Sp := fun vs H Q _ => ∃ (a : Addr) (xs : List V), vs = [.ref a] ∧ (SqL K H a xs ∨ SqT K H a xs) ∧ ∀ H', Same H H' → Q (.bl (decide (1 ≤ xs.length) && decide (xs.length ≤ 48))) H'
theorem ok_is_row (T : Env K mg) : FnOk P w K mg base CX0 1 T.is_row.f T.is_row.fd ["thing"] (spIsRow K) := by
  refine T.is_row.F.ok sc_is_row (fun vs H Q E h => ?_) (fun cdv A outer s H vs Q E hr h => ?_)
  · obtain ⟨a, xs, rfl, _⟩ := h
    rfl
  · obtain ⟨a, xs, rfl, hI, q⟩ := h
    refine ⟨_, (pss_one (ps_ret (pe_and (pe_callB (K_isiT (K := K) rfl) (by rfl) T.n_isinstance (by decide +kernel) (pa_cons (pv 0) (pa_cons (pe_tup (pa_cons (pe_bltn (v := .ty "list") (by rfl) T.n_list (by decide +kernel) rfl) (pa_cons (pe_bltn (v := .ty "tuple") (by rfl) T.n_tuple (by decide +kernel) rfl) pa_nil))) pa_nil))) (pe_one (pe_chain  op_le op_le pe_int (pe_callB (K_len (K := K) rfl) (by rfl) T.n_len PySem.boot_len (pa_cons (pv 0) pa_nil)) (pe_glob (v := .int 48) (by rfl) T.c_MOST_HOURS ⟨_, rfl⟩)))))), ?_⟩
    refine ⟨.ref a, rfl, by show 2 ≤ sizeLine; decide, fun p np => ?_⟩
    have s1 : Same H (upd H p (.tup [.ty "list", .ty "tuple"])) := same_new np
    have hI1 : SqL K (upd H p (.tup [.ty "list", .ty "tuple"])) a xs ∨ SqT K (upd H p (.tup [.ty "list", .ty "tuple"])) a xs := hI.elim (fun h => .inl (s1.seq h)) fun h => .inr (Same.set s1 h)
    obtain ⟨t, ht, kt⟩ := kit_seq hI1
    refine ⟨.ref a, p, _, t, _, true, rfl, upd_same, .cons (.ty _) (.cons (.ty _) .nil), ht, kt, true, rfl, iteT ?_⟩
    refine ⟨.ref a, rfl, a, _, rfl, hI1, 1, _, rfl, rfl, _, rfl, ?_⟩
    by_cases h : 1 ≤ xs.length
    · refine dec_t (by omega) ⟨_, 48, rfl, rfl, ?_⟩
      have z := q _ s1
      rw [decide_eq_true h, Bool.true_and] at z
      show Q (.bl (decide ((xs.length : Int) ≤ 48))) _
      rw [show decide ((xs.length : Int) ≤ 48) = decide (xs.length ≤ 48) from decide_eq_decide.mpr (by omega)]
      exact z
    · refine dec_f (by omega) ?_
      have z := q _ s1
      rw [decide_eq_false h, Bool.false_and] at z
      exact z

def spIsFromOne : Sp := fun vs H Q _ => ∃ n i : Int, vs = [.int n, .int i] ∧ Q (.bl (decide (1 ≤ i) && decide (i ≤ n))) H
theorem ok_is_from_one (T : Env K mg) : FnOk P w K mg base CX0 2 T.is_from_one.f T.is_from_one.fd ["most", "thing"] spIsFromOne := by
  refine T.is_from_one.F.ok sc_is_from_one (fun vs H Q E h => ?_) (fun cdv A outer s H vs Q E hr h => ?_)
  · obtain ⟨n, i, rfl, _⟩ := h
    rfl
  · obtain ⟨n, i, rfl, q⟩ := h
    refine ⟨_, (pss_one (ps_ret (pe_and (pe_call (ok_is_integer T) (hr.mono (by decide)) (by rfl) T.is_integer.m T.is_integer.F.kp T.is_integer.b .nil pass0 (pa_cons (pv 1) pa_nil)) (pe_one (pe_chain  op_le op_le pe_int (pv 1) (pv 0)))))), ?_⟩
    refine ⟨_, rfl, i, rfl, true, rfl, iteT ⟨_, rfl, _, _, rfl, rfl, _, rfl, ?_⟩⟩
    cases e : decide (1 ≤ i) with
    | true =>
      rw [e] at q
      exact iteT ⟨_, rfl, _, _, rfl, rfl, q⟩
    | false =>
      rw [e] at q
      exact iteF q

def okStay (n i : Int) : Bool := decide (1 ≤ i) && decide (i ≤ n)
def spAreStays (K : PySem.W.Frag) : Sp := fun vs H Q _ => ∃ (a : Addr) (ns : List Int), vs = [.ref a] ∧ Ints K H a ns ∧ 1 ≤ ns.length ∧ ns.length ≤ 48 ∧ ∀ H', Same H H' → Q (.bl (ns.all (okStay ns.length))) H'
theorem ok_are_stays (T : Env K mg) : FnOk P w K mg base CX0 3 T.are_stays.f T.are_stays.fd ["thing"] (spAreStays K) := by
  refine T.are_stays.F.ok sc_are_stays (fun vs H Q E h => ?_) (fun cdv A outer s H vs Q E hr h => ?_)
  · obtain ⟨a, ns, rfl, _⟩ := h
    rfl
  · obtain ⟨a, ns, rfl, hI, h1, h48, q⟩ := h
    refine ⟨_, (pss_one (ps_ret (pe_and (pe_call (ok_is_row T) (hr.mono (by decide)) (by rfl) T.is_row.m T.is_row.F.kp T.is_row.b .nil pass0 (pa_cons (pv 0) pa_nil)) (pe_one (pe_callB (K_all (K := K) rfl rfl) (by rfl) T.n_all (by decide +kernel) (pa_cons (pe_lc (own := [("item", 1)]) (g := gName 1) (tt := tYes) (by rfl) sc_are_stays.nd  (K_piq (K := K) rfl (pv 0)) (blkOk_by (N := ["thing", "item"]) (sc := defScope s_are_stays) (by decide +kernel)) (fun _ _ _ _ _ => pg_name (i := 1) sc_are_stays.nd rfl (by first | exact Or.inl rfl | exact Or.inr rfl)) (fun _ _ _ _ _ => pts_nil) (fun _ _ _ _ _ => (pe_call (ok_is_from_one T) (hr.mono (by decide)) (by rfl) T.is_from_one.m T.is_from_one.F.kp T.is_from_one.b .nil pass0 (pa_cons (pe_callB (K_len (K := K) rfl) (by rfl) T.n_len PySem.boot_len (pa_cons (pv 0) pa_nil)) (pa_cons (pv 1) pa_nil))))) pa_nil)))))), ?_⟩
    refine ⟨.ref a, rfl, a, iv ns, rfl, hI, fun H1 s1 => ?_⟩
    rw [iv_len, decide_eq_true h1, decide_eq_true h48]
    refine ⟨true, rfl, iteT ?_⟩
    have hI1 := hI.same s1
    have fin : ∀ (D : Addr) (H' : Hp), Same H1 H' → H' D = some (.lst ((List.range (iv ns).length).map fun i => .bl (okStay ns.length (ns.getD i 0)))) → ∃ (a : Addr) (bs : List Bool), [V.ref D] = [V.ref a] ∧ SqL K H' a (bv bs) ∧ Q (.bl (bs.all id)) H' := by
      intro D H' sm hD
      have e : (List.range (iv ns).length).map (fun i => V.bl (okStay ns.length (ns.getD i 0))) = bv (ns.map (okStay ns.length)) := by
        rw [iv_len, bv, List.map_map]
        refine range_get fun i hi => ?_
        rw [List.getD_eq_getElem?_getD, List.getElem?_eq_getElem hi]
        rfl
      rw [e] at hD
      refine ⟨D, _, rfl, SqL.of hD, ?_⟩
      rw [List.all_map]
      exact q _ (s1.trans sm)
    have turn : ∀ i (hi : i < (iv ns).length), (iv ns)[i] = V.int (ns.getD i 0) := fun i hi => by
      rw [iv_len] at hi
      rw [List.getElem_map, List.getD_eq_getElem?_getD, List.getElem?_eq_getElem hi]
      rfl
    rcases hI1 with hI1 | hI1
    · refine .inl ⟨.ref a, rfl, a, rfl, ⟨_, hI1⟩, fun D nD => ?_⟩
      refine lc_mapL (fun i => .bl (okStay ns.length (ns.getD i 0))) hI1 nD (by rw [iv_len]; omega) (fun i hi H' R sm k => ?_) (fun H' sm hD => fin D H' sm hD)
      rw [turn i hi]
      refine ⟨.ref a, rfl, a, _, rfl, .inl (sm.seq hI1), _, rfl, _, _, rfl, ?_⟩
      rw [iv_len]
      exact k _ (Same.refl _)
    · refine .inr ⟨.ref a, rfl, a, rfl, ⟨_, hI1⟩, fun D nD => ?_⟩
      refine lc_mapT (fun i => .bl (okStay ns.length (ns.getD i 0))) hI1 nD (by rw [iv_len]; omega) (fun i hi H' R sm k => ?_) (fun H' sm hD => fin D H' sm hD)
      rw [turn i hi]
      refine ⟨.ref a, rfl, a, _, rfl, .inr (Same.set sm hI1), _, rfl, _, _, rfl, ?_⟩
      rw [iv_len]
      exact k _ (Same.refl _)

def spNobody (K : PySem.W.Frag) : Sp := fun vs H Q _ => ∃ (a : Addr) (ns : List Int), vs = [.ref a] ∧ Ints K H a ns ∧ 0 < ns.length ∧ (∀ i : Nat, i < ns.length → Clk.S ns i ≤ Clk.S ns ((i : Int) + 1) + 1) ∧ ∀ H', Same H H' → Q .non H'
theorem ok_check_nobody_overtaken (T : Env K mg) : FnOk P w K mg base CX0 1 T.check_nobody_overtaken.f T.check_nobody_overtaken.fd ["stays"] (spNobody K) := by
  refine T.check_nobody_overtaken.F.ok sc_check_nobody_overtaken (fun vs H Q E h => ?_) (fun cdv A outer s H vs Q E hr h => ?_)
  · obtain ⟨a, ns, rfl, _⟩ := h
    rfl
  · obtain ⟨a, ns, rfl, hI, hp, near, q⟩ := h
    refine ⟨_, (pss_one (ps_for PassesOwn.never rfl (pi_enumQ (by rfl) T.n_enumerate (pa_cons (pv 0) pa_nil)) (pg_tup rfl (pgs_cons (pg_name (i := 1) sc_check_nobody_overtaken.nd rfl (by first | exact Or.inl rfl | exact Or.inr rfl)) (pgs_cons (pg_name (i := 2) sc_check_nobody_overtaken.nd rfl (by first | exact Or.inl rfl | exact Or.inr rfl)) pgs_nil)))
      (pss_one (ps_if (pt_cmpR op_gt (pv 2) (pe_op op_add (pe_ix (K_ixQ (K := K) rfl) (pv 0) (pe_op op_mod (pe_op op_add (pv 1) pe_int) (pe_callB (K_len (K := K) rfl) (by rfl) T.n_len PySem.boot_len (pa_cons (pv 0) pa_nil))) (fun _ _ => rfl)) pe_int) (nomark _)) (pss_one ps_never) pss_nil)))), ?_⟩
    rcases hI with hI | hI
    · refine .inl ⟨.ref a, rfl, a, _, rfl, hI, ?_⟩
      refine for_enumL (K := K) (a := a) (xs := iv ns) (fun i σ H' => ∃ x y, σ = [some (.ref a), x, y] ∧ Same H H') ⟨none, none, rfl, Same.refl H⟩ (fun i σ H' ⟨_, _, _, sm⟩ => sm.seq hI) ?_ (fun σ H' ⟨_, _, _, sm⟩ => q H' sm)
      rintro i hi σ H' p ⟨x, y, rfl, sm⟩ np
      have hi' : i < ns.length := by rwa [iv_len] at hi
      have s2 : Same H (upd H' p (.tup [.int (i : Nat), (iv ns)[i]])) := sm.trans (same_new np)
      have ei : (iv ns)[i] = V.int (Clk.S ns i) := by rw [List.getElem_map, Clk.S_get hi']
      rw [ei] at s2 ⊢
      refine ⟨p, _, rfl, .inl (.inl upd_same), rfl, _, _, rfl, _, _, rfl, rfl, ?_⟩
      refine ⟨_, rfl, .ref a, rfl, _, rfl, _, _, rfl, rfl, .ref a, rfl, a, _, rfl, .inl (s2.seq hI), _, _, rfl, rfl, ?_⟩
      rw [iv_len]
      refine ⟨(by omega), a, _, _, _, rfl, rfl, .inl (s2.seq hI), at_round hp _, _, _, rfl, rfl, _, _, rfl, rfl, _, rfl, ?_⟩
      exact dec_f (by have := near i hi'; omega) ⟨_, _, rfl, s2⟩
    · refine .inr ⟨.ref a, rfl, a, _, rfl, hI, ?_⟩
      refine for_enumT (K := K) (a := a) (xs := iv ns) (fun i σ H' => ∃ x y, σ = [some (.ref a), x, y] ∧ Same H H') ⟨none, none, rfl, Same.refl H⟩ (fun i σ H' ⟨_, _, _, sm⟩ => Same.set sm hI) ?_ (fun σ H' ⟨_, _, _, sm⟩ => q H' sm)
      rintro i hi σ H' p ⟨x, y, rfl, sm⟩ np
      have hi' : i < ns.length := by rwa [iv_len] at hi
      have s2 : Same H (upd H' p (.tup [.int (i : Nat), (iv ns)[i]])) := sm.trans (same_new np)
      have ei : (iv ns)[i] = V.int (Clk.S ns i) := by rw [List.getElem_map, Clk.S_get hi']
      rw [ei] at s2 ⊢
      refine ⟨p, _, rfl, .inl (.inl upd_same), rfl, _, _, rfl, _, _, rfl, rfl, ?_⟩
      refine ⟨_, rfl, .ref a, rfl, _, rfl, _, _, rfl, rfl, .ref a, rfl, a, _, rfl, .inr (Same.set s2 hI), _, _, rfl, rfl, ?_⟩
      rw [iv_len]
      refine ⟨(by omega), a, _, _, _, rfl, rfl, .inr (Same.set s2 hI), at_round hp _, _, _, rfl, rfl, _, _, rfl, rfl, _, rfl, ?_⟩
      exact dec_f (by have := near i hi'; omega) ⟨_, _, rfl, s2⟩

theorem all_ok {ns : List Int} (v : Clk.Valid ns) : ns.all (okStay ns.length) = true := List.all_eq_true.mpr fun x hx => by
  obtain ⟨h1, h2⟩ := v.mem hx
  unfold okStay
  rw [decide_eq_true h1, decide_eq_true h2]
  rfl
def spInit (K : PySem.W.Frag) (C : Addr) : Sp := fun vs H Q _ => ∃ (p dx a : Addr) (ns : List Int), vs = [.ref p, .ref a] ∧ H p = some (.ins C dx []) ∧ Ints K H a ns ∧ Clk.Valid ns ∧
  ∀ H' : Hp, (∀ b o, b ≠ p → H b = some o → H' b = some o) → ClkAt K C H' p ns → Q .non H'
theorem ok_Clock_init (T : Env K mg) : FnOk P w K mg base CX0 4 T.Clock_init.f T.Clock_init.fd ["self", "stays"] (spInit K T.C_Clock.C) := by
  refine T.Clock_init.F.ok sc_Clock_init (fun vs H Q E h => ?_) (fun cdv A outer s H vs Q E hr h => ?_)
  · obtain ⟨p, dx, a, ns, rfl, _⟩ := h
    rfl
  · obtain ⟨p, dx, a, ns, rfl, hp, hI, hv, q⟩ := h
    refine ⟨_, (pss_cons (ps_if (pt_not (pt_val (pe_call (ok_are_stays T) (hr.mono (by decide)) (by rfl) T.are_stays.m T.are_stays.F.kp T.are_stays.b .nil pass0 (pa_cons (pv 1) pa_nil)))) (pss_one ps_never) pss_nil)
      (pss_cons (ps_expr (pe_call (ok_check_nobody_overtaken T) (hr.mono (by decide)) (by rfl) T.check_nobody_overtaken.m T.check_nobody_overtaken.F.kp T.check_nobody_overtaken.b .nil pass0 (pa_cons (pv 1) pa_nil)))
      (pss_one (ps_fld (pv 0) (pe_callTy (K_tuple (K := K) rfl) (by rfl) T.n_tuple (by decide +kernel) (pa_cons (pv 1) pa_nil)) rfl)))), ?_⟩
    refine ⟨.ref a, rfl, a, ns, rfl, hI, hv.pos, hv.top, fun H1 s1 => ⟨_, rfl, ?_⟩⟩
    rw [all_ok hv]
    refine iteF ⟨.ref a, rfl, a, ns, rfl, hI.same s1, hv.pos, fun i _ => hv.near i, fun H2 s2 => ?_⟩
    have s12 := s1.trans s2
    have hp2 := s12 _ _ hp
    have fin : ∀ (t : Addr) (H3 : Hp), Same H H3 → SqT K H3 t (iv ns) → Q .non (upd H3 p (.ins T.C_Clock.C dx (putF "_stays" (.ref t) []))) := fun t H3 s3 hT => by
      have h3 := s3 _ _ hp
      refine q _ (fun b o nb e => by rw [upd_ne nb]; exact s3 _ _ e) ⟨hv, dx, t, by rw [upd_same]; rfl, ?_⟩
      rcases hT with (h | ⟨o, h⟩) | h
      · exact .inl (.inl (by rw [upd_ne (ne_of h h3 fun z => nomatch z)]; exact h))
      · exact .inl (.inr ⟨o, by rw [upd_ne (ne_of h h3 fun z => nomatch z)]; exact h⟩)
      · exact .inr h
    refine ⟨.ref a, rfl, a, iv ns, rfl, ?_⟩
    rcases hI.same s12 with hI2 | hI2
    · refine .inl ⟨hI2, fun t nt => ?_⟩
      have s3 : Same H (upd H2 t (.tup (iv ns))) := s12.trans (same_new nt)
      exact ⟨_, rfl, p, _, dx, [], rfl, s3 _ _ hp, T.C_Clock.cl, T.n_Clock__stays, (by show 0 < 1000; decide), fin t _ s3 (.inl (.inl upd_same))⟩
    · exact .inr ⟨hI2, _, rfl, p, _, dx, [], rfl, hp2, T.C_Clock.cl, T.n_Clock__stays, (by show 0 < 1000; decide), fin a _ s12 hI2⟩

def spIsCountRow (K : PySem.W.Frag) : Sp := fun vs H Q _ => ∃ (a : Addr) (ns : List Int), vs = [.ref a] ∧ Ints K H a ns ∧ 0 < ns.length ∧ ns.length ≤ 48 ∧ (∀ x ∈ ns, 0 ≤ x) ∧ ∀ H', Same H H' → Q (.bl true) H'
theorem ok_is_count_row (T : Env K mg) : FnOk P w K mg base CX0 4 T.is_count_row.f T.is_count_row.fd ["thing"] (spIsCountRow K) := by
  refine T.is_count_row.F.ok sc_is_count_row (fun vs H Q E h => ?_) (fun cdv A outer s H vs Q E hr h => ?_)
  · obtain ⟨a, ns, rfl, _⟩ := h
    rfl
  · obtain ⟨a, ns, rfl, hI, hp, ht, lo, q⟩ := h
    refine ⟨_, (pss_one (ps_ret (pe_and (pe_call (ok_is_row T) (hr.mono (by decide)) (by rfl) T.is_row.m T.is_row.F.kp T.is_row.b .nil pass0 (pa_cons (pv 0) pa_nil)) (pe_one (pe_call (ok_are_counts T) (hr.mono (by decide)) (by rfl) T.are_counts.m T.are_counts.F.kp T.are_counts.b .nil pass0 (pa_cons (pe_callB (K_len (K := K) rfl) (by rfl) T.n_len PySem.boot_len (pa_cons (pv 0) pa_nil)) (pa_cons (pv 0) pa_nil))))))), ?_⟩
    refine ⟨.ref a, rfl, a, iv ns, rfl, hI, fun H1 s1 => ?_⟩
    rw [iv_len, decide_eq_true (show 1 ≤ ns.length by omega), decide_eq_true ht]
    refine ⟨true, rfl, iteT ?_⟩
    refine ⟨.ref a, rfl, a, iv ns, rfl, hI.same s1, .ref a, rfl, _, a, ns, rfl, hI.same s1, by rw [iv_len], by omega, fun H2 s2 => ?_⟩
    rw [List.all_eq_true.mpr fun x hx => decide_eq_true (lo x hx)]
    exact q _ (s1.trans s2)

theorem ok_Needs_init (T : Env K mg) : FnOk P w K mg base CX0 5 T.Needs_init.f T.Needs_init.fd ["self", "row"] (spRowInit K T.C_Needs.C "_row") := by
  refine T.Needs_init.F.ok sc_Needs_init (fun vs H Q E h => ?_) (fun cdv A outer s H vs Q E hr h => ?_)
  · obtain ⟨p, dx, a, ns, rfl, _⟩ := h
    rfl
  · obtain ⟨p, dx, a, ns, rfl, hp, hI, pos, top, low, q⟩ := h
    refine ⟨_, (pss_cons (ps_if (pt_not (pt_val (pe_call (ok_is_count_row T) (hr.mono (by decide)) (by rfl) T.is_count_row.m T.is_count_row.F.kp T.is_count_row.b .nil pass0 (pa_cons (pv 1) pa_nil)))) (pss_one ps_never) pss_nil)
      (pss_one (ps_fld (pv 0) (pe_callTy (K_tuple (K := K) rfl) (by rfl) T.n_tuple (by decide +kernel) (pa_cons (pv 1) pa_nil)) rfl))), ?_⟩
    refine ⟨.ref a, rfl, a, ns, rfl, hI, pos, top, low, fun H1 s1 => ⟨_, rfl, iteF ?_⟩⟩
    have hp2 := s1 _ _ hp
    have fin : ∀ (t : Addr) (H3 : Hp), Same H H3 → SqT K H3 t (iv ns) → Q .non (upd H3 p (.ins T.C_Needs.C dx (putF "_row" (.ref t) []))) := fun t H3 s3 hT => by
      have h3 := s3 _ _ hp
      refine q _ (fun b o nb e => by rw [upd_ne nb]; exact s3 _ _ e) ⟨pos, top, low, dx, t, by rw [upd_same]; rfl, ?_⟩
      rcases hT with (h | ⟨o, h⟩) | h
      · exact .inl (.inl (by rw [upd_ne (ne_of h h3 fun z => nomatch z)]; exact h))
      · exact .inl (.inr ⟨o, by rw [upd_ne (ne_of h h3 fun z => nomatch z)]; exact h⟩)
      · exact .inr h
    refine ⟨.ref a, rfl, a, iv ns, rfl, ?_⟩
    rcases hI.same s1 with hI2 | hI2
    · refine .inl ⟨hI2, fun t nt => ?_⟩
      have s3 : Same H (upd H1 t (.tup (iv ns))) := s1.trans (same_new nt)
      exact ⟨_, rfl, p, _, dx, [], rfl, s3 _ _ hp, T.C_Needs.cl, T.n_Needs__row, (by show 0 < 1000; decide), fin t _ s3 (.inl (.inl upd_same))⟩
    · exact .inr ⟨hI2, _, rfl, p, _, dx, [], rfl, hp2, T.C_Needs.cl, T.n_Needs__row, (by show 0 < 1000; decide), fin a _ s1 hI2⟩

def spMixed (K : PySem.W.Frag) : Sp := fun vs H Q _ => ∃ (b a : Addr) (xs : List V), vs = [.ref b, .ref a] ∧ Bag H b ∧ SqL K H a xs ∧ a ≠ b ∧ xs.length ≤ 1000 ∧
  ∀ H' l ys, H l = none → Drew b H H' → H' l = some (.lst ys) → ys.Perm xs → Q (.ref l) H'
theorem perm_put {ys zs : List V} {y : V} (i : Nat) (h : ys.Perm zs) : (ys.take i ++ [y] ++ ys.drop i).Perm (zs ++ [y]) := by
  have h1 : (ys.take i ++ [y] ++ ys.drop i).Perm (ys.take i ++ ys.drop i ++ [y]) := by
    rw [List.append_assoc, List.append_assoc]
    exact List.Perm.append_left _ List.perm_append_comm
  rw [List.take_append_drop] at h1
  exact h1.trans (h.append_right _)
theorem ok_lmixed (T : Env K mg) : FnOk P w K mg base CX0 2 T.lmixed.f T.lmixed.fd ["_law_bag_here", "_law_things"] (spMixed K) := by
  refine T.lmixed.F.ok sc_lmixed (fun vs H Q E h => ?_) (fun cdv A outer s H vs Q E hr h => ?_)
  · obtain ⟨b, a, xs, rfl, _⟩ := h
    rfl
  · obtain ⟨b, a, xs, rfl, hb, hS, nab, hl, q⟩ := h
    refine ⟨_, (pss_cons (ps_set (i := 2) sc_lmixed.nd rfl (by first | exact Or.inl rfl | exact Or.inr rfl) (pe_lst pa_nil))
      (pss_cons (ps_for PassesOwn.never rfl (K_pil (K := K) rfl (pv 1)) (pg_name (i := 3) sc_lmixed.nd rfl (by first | exact Or.inl rfl | exact Or.inr rfl))
      (pss_one (ps_expr (pe_bm PySem.F.plainAttrs_list PySem.F.slot_list_insert PySem.F.type_list_insert mt_insert (pv 2) (pa_cons (pe_call (ok_ltake T) (hr.mono (by decide)) (by rfl) T.ltake.m T.ltake.F.kp T.ltake.b .nil pass0 (pa_cons (pv 0) (pa_cons (pe_op op_add (pe_callB (K_len (K := K) rfl) (by rfl) T.n_len PySem.boot_len (pa_cons (pv 2) pa_nil)) pe_int) pa_nil))) (pa_cons (pv 3) pa_nil))))))
      (pss_one (ps_ret (pv 2))))), ?_⟩
    refine ⟨Nat.zero_le _, fun l nl => ?_⟩
    have nlb : l ≠ b := hb.ne nl
    have D0 : Drew b H (upd H l (.lst [])) := Drew.of hb (same_new nl)
    refine ⟨.ref a, rfl, a, rfl, ⟨_, D0.but.seq nab hS⟩, for_list (K := K) (a := a) (xs := xs) (fun i σ H' => ∃ x3 ys, σ = [some (.ref b), some (.ref a), some (.ref l), x3] ∧ Drew b H H' ∧ H' l = some (.lst ys) ∧ ys.Perm (xs.take i))
      ⟨none, [], rfl, D0, upd_same, .nil⟩ (fun i σ H' _ ⟨_, _, _, D, _⟩ => D.but.seq nab hS) ?_ ?_⟩
    · rintro i x σ H' hx ⟨x3, ys, rfl, D, hy, hp⟩
      have hi : i < xs.length := (List.getElem?_eq_some_iff.mp hx).1
      have ly : ys.length = i := by rw [hp.length_eq, List.length_take]; omega
      refine ⟨.ref l, rfl, .inl ⟨rfl, _, SqL.of hy⟩, .ref b, rfl, .ref l, rfl, l, _, rfl, .inl (SqL.of hy), _, _, rfl, rfl, ?_⟩
      refine ⟨b, _, rfl, D.bag, by omega, by omega, fun H2 v D2 v0 v1 => ?_⟩
      have hy2 := D2.but _ _ nlb hy
      refine ⟨x, rfl, l, _, v, x, rfl, rfl, hy2, small_line (by omega), v0, by omega, ?_⟩
      have D3 : Drew b H (upd H2 l (.lst (ys.take v.toNat ++ [x] ++ ys.drop v.toNat))) := (D.trans D2).put nl
      refine ⟨_, _, rfl, D3, upd_same, ?_⟩
      rw [take_next hi, ← (List.getElem?_eq_some_iff.mp hx).2]
      exact perm_put _ hp
    · rintro σ H' ⟨x3, ys, rfl, D, hy, hp⟩
      rw [List.take_length] at hp
      exact ⟨.ref l, rfl, q H' l ys nl D hy hp⟩

theorem ok_House_hours (T : Env K mg) : FnOk P w K mg base CX0 1 T.House_hours.f T.House_hours.fd ["self"] (spHsHours K T.C_House.C T.C_Clock.C T.C_Needs.C) := by
  refine T.House_hours.F.ok sc_House_hours (fun vs H Q E h => ?_) (fun cdv A outer s H vs Q E hr h => ?_)
  · obtain ⟨p, h, rfl, _⟩ := h
    rfl
  · obtain ⟨p, h, rfl, hc, q⟩ := h
    obtain ⟨dx, c, f, tr, tk, td, h1, h2, h3, h4, h5, h6⟩ := hc.ex
    refine ⟨_, (pss_one (ps_ret (pe_callB (K_len (K := K) rfl) (by rfl) T.n_len PySem.boot_len (pa_cons (K_fld (K := K) rfl (pv 0) rfl) pa_nil)))), ?_⟩
    refine ⟨_, rfl, p, _, dx, _, .ref tr, rfl, h1, T.C_House.cl, T.n_House__rooms, rfl, tr, _, rfl, .inr h4, ?_⟩
    rw [ovR_len]
    exact q

theorem ok_Clock_iter (T : Env K mg) : FnOk P w K mg base CX0 1 T.Clock_iter.f T.Clock_iter.fd ["self"] (spIter K T.C_Clock.C) := by
  refine T.Clock_iter.F.ok sc_Clock_iter (fun vs H Q E h => ?_) (fun cdv A outer s H vs Q E hr h => ?_)
  · obtain ⟨p, dx, t, xs, rfl, _⟩ := h
    rfl
  · obtain ⟨p, dx, t, xs, rfl, h1, h2, q⟩ := h
    refine ⟨_, (pss_one (ps_ret (pe_callB (K_iterT (K := K) rfl) (by rfl) T.n_iter (by decide +kernel) (pa_cons (K_fld (K := K) rfl (pv 0) rfl) pa_nil)))), ?_⟩
    exact ⟨_, rfl, p, _, dx, _, .ref t, rfl, h1, T.C_Clock.cl, T.n_Clock__stays, rfl, t, xs, rfl, h2, q⟩

theorem ok_Clock_len (T : Env K mg) : FnOk P w K mg base CX0 1 T.Clock_len.f T.Clock_len.fd ["self"] (spLen K T.C_Clock.C) := by
  refine T.Clock_len.F.ok sc_Clock_len (fun vs H Q E h => ?_) (fun cdv A outer s H vs Q E hr h => ?_)
  · obtain ⟨p, ns, rfl, _⟩ := h
    rfl
  · obtain ⟨p, ns, rfl, hc, q⟩ := h
    obtain ⟨dx, t, h1, h2⟩ := hc.ex
    refine ⟨_, (pss_one (ps_ret (pe_callB (K_len (K := K) rfl) (by rfl) T.n_len PySem.boot_len (pa_cons (K_fld (K := K) rfl (pv 0) rfl) pa_nil)))), ?_⟩
    refine ⟨_, rfl, p, _, dx, _, .ref t, rfl, h1, T.C_Clock.cl, T.n_Clock__stays, rfl, t, _, rfl, .inr h2, ?_⟩
    rw [iv_len]
    exact q

theorem ok_House_clock (T : Env K mg) : FnOk P w K mg base CX0 1 T.House_clock.f T.House_clock.fd ["self"] (spHsClock K T.C_House.C T.C_Clock.C T.C_Needs.C) := by
  refine T.House_clock.F.ok sc_House_clock (fun vs H Q E h => ?_) (fun cdv A outer s H vs Q E hr h => ?_)
  · obtain ⟨p, h, rfl, _⟩ := h
    rfl
  · obtain ⟨p, h, rfl, hc, q⟩ := h
    obtain ⟨dx, c, f, tr, tk, td, h1, h2, h3, h4, h5, h6⟩ := hc.ex
    refine ⟨_, (pss_one (ps_ret (K_fld (K := K) rfl (pv 0) rfl))), ?_⟩
    exact ⟨_, rfl, p, _, dx, _, .ref c, rfl, h1, T.C_House.cl, T.n_House__clock, rfl, q c h2⟩

theorem ok_Needs_iter (T : Env K mg) : FnOk P w K mg base CX0 1 T.Needs_iter.f T.Needs_iter.fd ["self"] (spRowIter K T.C_Needs.C "_row") := by
  refine T.Needs_iter.F.ok sc_Needs_iter (fun vs H Q E h => ?_) (fun cdv A outer s H vs Q E hr h => ?_)
  · obtain ⟨p, dx, t, xs, rfl, _⟩ := h
    rfl
  · obtain ⟨p, dx, t, xs, rfl, h1, h2, q⟩ := h
    refine ⟨_, (pss_one (ps_ret (pe_callB (K_iterT (K := K) rfl) (by rfl) T.n_iter (by decide +kernel) (pa_cons (K_fld (K := K) rfl (pv 0) rfl) pa_nil)))), ?_⟩
    exact ⟨_, rfl, p, _, dx, _, .ref t, rfl, h1, T.C_Needs.cl, T.n_Needs__row, rfl, t, xs, rfl, h2, q⟩

theorem ok_Needs_len (T : Env K mg) : FnOk P w K mg base CX0 1 T.Needs_len.f T.Needs_len.fd ["self"] (spRowLen K T.C_Needs.C "_row") := by
  refine T.Needs_len.F.ok sc_Needs_len (fun vs H Q E h => ?_) (fun cdv A outer s H vs Q E hr h => ?_)
  · obtain ⟨p, ns, rfl, _⟩ := h
    rfl
  · obtain ⟨p, ns, rfl, hc, q⟩ := h
    obtain ⟨dx, t, h1, h2⟩ := hc.ex
    refine ⟨_, (pss_one (ps_ret (pe_callB (K_len (K := K) rfl) (by rfl) T.n_len PySem.boot_len (pa_cons (K_fld (K := K) rfl (pv 0) rfl) pa_nil)))), ?_⟩
    refine ⟨_, rfl, p, _, dx, _, .ref t, rfl, h1, T.C_Needs.cl, T.n_Needs__row, rfl, t, _, rfl, .inr h2, ?_⟩
    rw [iv_len]
    exact q

theorem ok_House_needs (T : Env K mg) : FnOk P w K mg base CX0 1 T.House_needs.f T.House_needs.fd ["self"] (spHsNeeds K T.C_House.C T.C_Clock.C T.C_Needs.C) := by
  refine T.House_needs.F.ok sc_House_needs (fun vs H Q E h => ?_) (fun cdv A outer s H vs Q E hr h => ?_)
  · obtain ⟨p, h, rfl, _⟩ := h
    rfl
  · obtain ⟨p, h, rfl, hc, q⟩ := h
    obtain ⟨dx, c, f, tr, tk, td, h1, h2, h3, h4, h5, h6⟩ := hc.ex
    refine ⟨_, (pss_one (ps_ret (K_fld (K := K) rfl (pv 0) rfl))), ?_⟩
    exact ⟨_, rfl, p, _, dx, _, .ref f, rfl, h1, T.C_House.cl, T.n_House__needs, rfl, q f h3⟩

def spEq (K : PySem.W.Frag) (C : Addr) : Sp := fun vs H Q _ => ∃ (p r : Addr) (ns ms : List Int), vs = [.ref p, .ref r] ∧ ClkAt K C H p ns ∧ ClkAt K C H r ms ∧ Q (.bl (decide (ns = ms))) H
theorem ok_Clock_eq (T : Env K mg) : FnOk P w K mg base CX0 1 T.Clock_eq.f T.Clock_eq.fd ["self", "other"] (spEq K T.C_Clock.C) := by
  refine T.Clock_eq.F.ok sc_Clock_eq (fun vs H Q E h => ?_) (fun cdv A outer s H vs Q E hr h => ?_)
  · obtain ⟨p, r, ns, ms, rfl, _⟩ := h
    rfl
  · obtain ⟨p, r, ns, ms, rfl, hc, hd, q⟩ := h
    obtain ⟨dx, t, h1, h2⟩ := hc.ex
    obtain ⟨dy, u, g1, g2⟩ := hd.ex
    refine ⟨_, (pss_one (ps_ret (pe_and (pe_callB (K_isi (K := K) rfl) (by rfl) T.n_isinstance (by decide +kernel) (pa_cons (pv 1) (pa_cons (pe_glob (v := .ref T.C_Clock.C) (by rfl) T.C_Clock.mg rfl) pa_nil))) (pe_one (pe_cmpR (K_eqD (K := K) hr.units rfl) (K_fld (K := K) rfl (pv 0) rfl) (K_fld (K := K) rfl (pv 1) rfl) (nomark _)))))), ?_⟩
    refine ⟨_, rfl, .ref r, .ref T.C_Clock.C, .ref T.C_Clock.C, .ref T.C_Clock.C, true, rfl, .own _, .base (.ins g1 T.C_Clock.cl T.ic_Clock T.ig_Clock T.it_Clock T.ob_Clock), kit_self _ _, true, rfl, ?_⟩
    refine iteT ?_
    refine ⟨_, rfl, p, _, dx, _, .ref t, rfl, h1, T.C_Clock.cl, T.n_Clock__stays, rfl, _, rfl, r, _, dy, _, .ref u, rfl, g1, T.C_Clock.cl, T.n_Clock__stays, rfl, ?_⟩
    refine ⟨.tuple (ns.map PyData.int), .tuple (ms.map PyData.int), .tup h2 (dpI ns), .tup g2 (dpI ms), shaped_tupI ns, shaped_tupI ms, ?_⟩
    rw [eqv_tupI]
    exact q

theorem ok_House_rooms (T : Env K mg) : FnOk P w K mg base CX0 1 T.House_rooms.f T.House_rooms.fd ["self"] (spHsRow K T.C_House.C T.C_Clock.C T.C_Needs.C (fun h => ovR h.n h.r)) := by
  refine T.House_rooms.F.ok sc_House_rooms (fun vs H Q E h => ?_) (fun cdv A outer s H vs Q E hr h => ?_)
  · obtain ⟨p, h, rfl, _⟩ := h
    rfl
  · obtain ⟨p, h, rfl, hc, q⟩ := h
    obtain ⟨dx, c, f, tr, tk, td, h1, h2, h3, h4, h5, h6⟩ := hc.ex
    refine ⟨_, (pss_one (ps_ret (pe_callTy (K_list (K := K) rfl) (by rfl) T.n_list (by decide +kernel) (pa_cons (K_fld (K := K) rfl (pv 0) rfl) pa_nil)))), ?_⟩
    exact ⟨_, rfl, p, _, dx, _, .ref tr, rfl, h1, T.C_House.cl, T.n_House__rooms, rfl, tr, _, rfl, .inr h4, q⟩

theorem ok_House_kept (T : Env K mg) : FnOk P w K mg base CX0 1 T.House_kept.f T.House_kept.fd ["self"] (spHsRow K T.C_House.C T.C_Clock.C T.C_Needs.C (fun h => iv (Clk.row h.n h.k))) := by
  refine T.House_kept.F.ok sc_House_kept (fun vs H Q E h => ?_) (fun cdv A outer s H vs Q E hr h => ?_)
  · obtain ⟨p, h, rfl, _⟩ := h
    rfl
  · obtain ⟨p, h, rfl, hc, q⟩ := h
    obtain ⟨dx, c, f, tr, tk, td, h1, h2, h3, h4, h5, h6⟩ := hc.ex
    refine ⟨_, (pss_one (ps_ret (pe_callTy (K_list (K := K) rfl) (by rfl) T.n_list (by decide +kernel) (pa_cons (K_fld (K := K) rfl (pv 0) rfl) pa_nil)))), ?_⟩
    exact ⟨_, rfl, p, _, dx, _, .ref tk, rfl, h1, T.C_House.cl, T.n_House__kept, rfl, tk, _, rfl, .inr h5, q⟩

theorem ok_House_doors (T : Env K mg) : FnOk P w K mg base CX0 1 T.House_doors.f T.House_doors.fd ["self"] (spHsRow K T.C_House.C T.C_Clock.C T.C_Needs.C (fun h => ovR h.n h.d)) := by
  refine T.House_doors.F.ok sc_House_doors (fun vs H Q E h => ?_) (fun cdv A outer s H vs Q E hr h => ?_)
  · obtain ⟨p, h, rfl, _⟩ := h
    rfl
  · obtain ⟨p, h, rfl, hc, q⟩ := h
    obtain ⟨dx, c, f, tr, tk, td, h1, h2, h3, h4, h5, h6⟩ := hc.ex
    refine ⟨_, (pss_one (ps_ret (pe_callTy (K_list (K := K) rfl) (by rfl) T.n_list (by decide +kernel) (pa_cons (K_fld (K := K) rfl (pv 0) rfl) pa_nil)))), ?_⟩
    exact ⟨_, rfl, p, _, dx, _, .ref td, rfl, h1, T.C_House.cl, T.n_House__doors, rfl, td, _, rfl, .inr h6, q⟩

section
variable {K : PySem.W.Frag} {CC CN : Addr} {σ : L2.St} {H : Hp} {ta tb tc te ti tj : TE} {ns ms : List Int} {E : XK} {D : Ends} {tz : TS} {d : PyData}
theorem el_ownC {EI EL : XK} (ha : EvC K CC ta σ H ns) : EvL (tCB (rOwnList K CC (spIter K CC) (spLen K CC) EI EL) (tCons ta tNil)) σ H (iv ns) := fun H1 e Q k =>
  ha H1 e _ fun p H2 e2 hP => by
    obtain ⟨dx, t, h1, _⟩ := id hP.ex
    exact ⟨p, rfl, ⟨dx, _, h1⟩, fun q nq => ownIt_clk hP nq fun H3 s3 h3 => k q H3 (fresh_back e2 nq) (e2.trans s3) h3⟩
theorem ev_neCC (ha : EvC K CC ta σ H ns) (hb : EvC K CC tb σ H ms) : Ev (tOp (rCmpOwn CC (spEq K CC) E true) ta tb) σ H (.bl (!decide (ns = ms))) := fun H1 e Q k =>
  ha H1 e _ fun c H2 e2 hc => hb H2 (e.trans e2) _ fun c' H3 e3 hd => by
    have h1 := hc.same e3
    obtain ⟨dx, t, g1, _⟩ := h1.ex
    obtain ⟨dy, u, g2, _⟩ := hd.ex
    exact ⟨c, c', dx, dy, _, _, rfl, rfl, g1, g2, c, c', ns, ms, rfl, h1, hd, _, rfl, k H3 (e2.trans e3)⟩
theorem ec_makeR {u : Addr} (ha : Ev ta σ H (.ref u)) (hu : SqL K H u (iv ns)) (v : Clk.Valid ns) : EvC K CC (tMake CC (spInit K CC) [] E (tCons ta tNil)) σ H ns := fun H1 e Q q =>
  ha H1 e _ fun H2 e2 => fun x dx nx nd nex => ⟨x, dx, u, _, rfl, upd_same, made_ints nx nd (.inl (ex_l (e.trans e2) hu)), v, fun H' kb hC => ⟨rfl, q x H' (e2.trans (made_same nx nd kb)) hC⟩⟩
theorem evd_at {p : Addr} {d : PyData} (h : Ev te σ H (.ref p)) (hd : Dp K H (.ref p) d) : EvD K te σ H d := fun H1 e Q k => h H1 e _ fun H2 e2 => k _ H2 e2 (dp_ex (e.trans e2) hd)
theorem q_asgD {i : Nat} {ds : List PyData} (h : EvD K te σ H (.list ds)) (k : ∀ p H1, Ex H H1 → Dp K H1 (.ref p) (.list ds) → tz D (σ.set i (some (.ref p))) H1) : tSeq (tAsg te (gName i)) tz D σ H := h H (Ex.refl H) _ fun v H1 e hv => by
  obtain ⟨p, rfl⟩ := dp_list_ref hv
  exact k p H1 e hv
theorem q_pick3 {i1 i2 o1 o2 o3 : Nat} {xs ys zs : List V} {x y z : Addr} (ha : EvL ta σ H xs) (hb : EvL tb σ H ys) (hc : EvL tc σ H zs) (h1 : σ[o1]? = some (some (.ref x))) (h2 : σ[o2]? = some (some (.ref y))) (h3 : σ[o3]? = some (some (.ref z))) {j : Nat} (hj : j < 3) (hi : ∀ H1, Ex H H1 → Ev ti σ H1 (.int (j : Nat)))
    (k : ∀ l m H1, H l = none → Ex H H1 → H1 l = some (.lst ([xs, ys, zs].getD j [])) → m = [x, y, z].getD j 0 → tz D ((σ.set i1 (some (.ref l))).set i2 (some (.ref m))) H1) :
    tSeq (tPar i1 i2 (tCons (tOp (rIxL K) (tLst (tCons ta (tCons tb (tCons tc tNil)))) ti) (tCons (tOp (rIxL K) (tLst (tCons (tVar o1) (tCons (tVar o2) (tCons (tVar o3) tNil)))) ti) tNil))) tz D σ H :=
  ha H (Ex.refl H) _ fun l1 H1 n1 e1 g1 => hb H1 e1 _ fun l2 H2 n2 e2 g2 => hc H2 (e1.trans e2) _ fun l3 H3 n3 e3 g3 => ⟨by show 3 ≤ sizeLine; decide, fun u nu => by
    have e4 : Ex H3 (upd H3 u (.lst [.ref l1, .ref l2, .ref l3])) := Ex.new nu
    have ee := e1.trans (e2.trans (e3.trans e4))
    refine hi _ ee _ (Ex.refl _) _ fun H5 e5 => ?_
    obtain ⟨l, hl, gl, nl⟩ : ∃ l, atI [V.ref l1, .ref l2, .ref l3] (j : Int) = some (.ref l) ∧ H5 l = some (.lst ([xs, ys, zs].getD j [])) ∧ H l = none := by
      have w : j = 0 ∨ j = 1 ∨ j = 2 := by omega
      rcases w with rfl | rfl | rfl
      · exact ⟨l1, rfl, e5 _ _ (e4 _ _ (e3 _ _ (e2 _ _ g1))), n1⟩
      · exact ⟨l2, rfl, e5 _ _ (e4 _ _ (e3 _ _ g2)), fresh_back e1 n2⟩
      · exact ⟨l3, rfl, e5 _ _ (e4 _ _ g3), fresh_back (e1.trans e2) n3⟩
    refine rv_ixL (K := K) (SqL.of (e5 _ _ upd_same)) hl H5 (Ex.refl H5) _ fun H6 e6 => ?_
    refine ⟨_, h1, _, h2, _, h3, by show 3 ≤ sizeLine; decide, fun t nt => ?_⟩
    have e7 : Ex H6 (upd H6 t (.lst [.ref x, .ref y, .ref z])) := Ex.new nt
    refine hi _ (ee.trans (e5.trans (e6.trans e7))) _ (Ex.refl _) _ fun H8 e8 => ?_
    have hm : atI [V.ref x, .ref y, .ref z] (j : Int) = some (.ref ([x, y, z].getD j 0)) := by
      have w : j = 0 ∨ j = 1 ∨ j = 2 := by omega
      rcases w with rfl | rfl | rfl <;> rfl
    refine rv_ixL (K := K) (SqL.of (e8 _ _ upd_same)) hm H8 (Ex.refl H8) _ fun H9 e9 => ?_
    have e69 := e6.trans (e7.trans (e8.trans e9))
    exact ⟨_, _, rfl, k l _ H9 nl (ee.trans (e5.trans e69)) (e69 _ _ gl) rfl⟩⟩
theorem row_some (n : Nat) (f : Int → Int) : iv (Clk.row n f) = ovR n fun i => some (f i) := by
  unfold iv Clk.row ovR
  rw [List.map_map]
  rfl
theorem dp_ov {H : Hp} {p : Addr} {n : Nat} {f : Int → Option Int} (h : H p = some (.lst (ovR n f))) : Dp K H (.ref p) (.list ((ovO n f).map dO)) := by
  rw [ovR_O] at h
  exact .lst (SqL.of h) (dpAll_O _)
theorem fineO {n : Nat} {f : Int → Option Int} (hn : n ≤ 48) (h : ∀ i : Nat, i < n → ∀ x, f i = some x → 0 ≤ x ∧ x < 10 ^ 102) : Fine 1 6000 (.list ((ovO n f).map dO)) := by
  refine (Fine.list (n := 0) (m := 102) (k := 50) (fun d hd => ?_) (by rw [List.length_map, List.length_map, List.length_range]; omega)).mono (by decide) (by decide)
  obtain ⟨x, hx, rfl⟩ := List.mem_map.mp hd
  obtain ⟨i, hi, rfl⟩ := List.mem_map.mp hx
  cases e : f (i : Int) with
  | none => exact ⟨rfl, rfl, rfl, Nat.le_refl _, by show 4 ≤ 102; decide⟩
  | some y =>
    have := h i (List.mem_range.mp hi) y e
    exact Fine.big this.1 this.2
end
def spRight (K : PySem.W.Frag) (CH CC CN : Addr) : Sp := fun vs H Q _ => ∃ (b p w : Addr) (h : Hs), vs = [.ref b, .ref p, .ref w] ∧ Bag H b ∧ HouseAt K CH CC CN H p h ∧ WorldAt b H w h ∧ Small h (10 ^ 31) ∧ ∀ H', Drew b H H' → Q (.bl true) H'
theorem ok_lright (T : Env K mg) : FnG P w K mg base 6 T.lright.f T.lright.fd ["_law_bag_here", "_law_house", "_law_world"] (spRight K T.C_House.C T.C_Clock.C T.C_Needs.C) := by
  refine okG T.lright.F sc_lright (fun vs H Q E h => ?_) (fun cdv A outer s H vs Q E hG hr h => ?_)
  · obtain ⟨b, p, w, h, rfl, _⟩ := h
    rfl
  · obtain ⟨b, p, w, h, rfl, hb, hP, hw, sm, q⟩ := h
    refine ⟨_, (pss_cons (ps_asg (pv 2) (pg_tup rfl (pgs_cons (pg_name (i := 4) sc_lright.nd rfl (by first | exact Or.inl rfl | exact Or.inr rfl)) (pgs_cons (pg_name (i := 5) sc_lright.nd rfl (by first | exact Or.inl rfl | exact Or.inr rfl)) (pgs_cons (pg_name (i := 6) sc_lright.nd rfl (by first | exact Or.inl rfl | exact Or.inr rfl)) (pgs_cons (pg_name (i := 7) sc_lright.nd rfl (by first | exact Or.inl rfl | exact Or.inr rfl)) (pgs_cons (pg_name (i := 8) sc_lright.nd rfl (by first | exact Or.inl rfl | exact Or.inr rfl)) pgs_nil)))))))
      (pss_cons (ps_for PassesOwn.never rfl (K_pil (K := K) rfl (pe_call (ok_lmixed T) (hr.mono (by decide)) (by rfl) T.lmixed.m T.lmixed.F.kp T.lmixed.b .nil pass0 (pa_cons (pv 0) (pa_cons (pe_lst (pa_cons pe_int (pa_cons pe_int (pa_cons pe_int (pa_cons pe_int pa_nil))))) pa_nil)))) (pg_name (i := 3) sc_lright.nd rfl (by first | exact Or.inl rfl | exact Or.inr rfl))
      (pss_cons (ps_if (pt_cmpR op_eq (pv 3) pe_int (nomark _)) (pss_cons (ps_set (i := 9) sc_lright.nd rfl (by first | exact Or.inl rfl | exact Or.inr rfl) (pe_lst (pa_cons (pe_prop (pv 1) T.C_House.cl T.p_House_hours (ok_House_hours T) (hr.mono (by decide)) T.House_hours.b .nil pass0 rfl) (pa_cons (pe_callTy (call_ownList (K := K) (EI := E0) (EL := E0) rfl rfl T.m_Clock_iter (ok_Clock_iter T) T.Clock_iter.b T.m_Clock_len (ok_Clock_len T) T.Clock_len.b (hr.mono (by decide))) (by rfl) T.n_list (by decide +kernel) (pa_cons (pe_prop (pv 1) T.C_House.cl T.p_House_clock (ok_House_clock T) (hr.mono (by decide)) T.House_clock.b .nil pass0 rfl) pa_nil)) (pa_cons (pe_callTy (call_ownList (K := K) (EI := E0) (EL := E0) rfl rfl T.m_Needs_iter (ok_Needs_iter T) T.Needs_iter.b T.m_Needs_len (ok_Needs_len T) T.Needs_len.b (hr.mono (by decide))) (by rfl) T.n_list (by decide +kernel) (pa_cons (pe_prop (pv 1) T.C_House.cl T.p_House_needs (ok_House_needs T) (hr.mono (by decide)) T.House_needs.b .nil pass0 rfl) pa_nil)) pa_nil)))))
      (pss_one (ps_if (PW.pt (pw_or (pt_cmpR op_ne (pe_callB (K_repr (K := K) rfl hG hr.units) (by rfl) T.n_repr (by decide +kernel) (pa_cons (pv 9) pa_nil)) (pe_callB (K_repr (K := K) rfl hG hr.units) (by rfl) T.n_repr (by decide +kernel) (pa_cons (pe_lst (pa_cons (pe_callB (K_len (K := K) rfl) (by rfl) T.n_len PySem.boot_len (pa_cons (pv 4) pa_nil)) (pa_cons (pv 4) (pa_cons (pv 5) pa_nil)))) pa_nil)) (nomark _)) (pw_or1 (pt_cmpR (op_neOwn T.m_Clock_eq T.ne_Clock T.ob_Clock (ok_Clock_eq T) (hr.mono (by decide)) T.Clock_eq.b pass0) (pe_prop (pv 1) T.C_House.cl T.p_House_clock (ok_House_clock T) (hr.mono (by decide)) T.House_clock.b .nil pass0 rfl) (pe_make T.mk_Clock (ok_Clock_init T) (hr.mono (by decide)) (by rfl) T.C_Clock.mg T.Clock_init.b .nil pass0 (pa_cons (pv 4) pa_nil)) (nomark _))))) (pss_one (ps_ret pe_bl)) pss_nil))) pss_nil)
      (pss_one (ps_if (pt_cmpR op_gt (pv 3) pe_int (nomark _)) (pss_cons (ps_par (i := 9) (j := 10) (by rfl) sc_lright.nd rfl rfl (by decide) rfl rfl (pa_cons (pe_ix (K_ixL (K := K) rfl) (pe_lst (pa_cons (pe_meth0 (pv 1) T.C_House.cl T.m_House_rooms (ok_House_rooms T) (hr.mono (by decide)) T.House_rooms.b .nil pass0) (pa_cons (pe_meth0 (pv 1) T.C_House.cl T.m_House_kept (ok_House_kept T) (hr.mono (by decide)) T.House_kept.b .nil pass0) (pa_cons (pe_meth0 (pv 1) T.C_House.cl T.m_House_doors (ok_House_doors T) (hr.mono (by decide)) T.House_doors.b .nil pass0) pa_nil)))) (pe_op op_sub (pv 3) pe_int) (fun _ _ => rfl)) (pa_cons (pe_ix (K_ixL (K := K) rfl) (pe_lst (pa_cons (pv 6) (pa_cons (pv 7) (pa_cons (pv 8) pa_nil)))) (pe_op op_sub (pv 3) pe_int) (fun _ _ => rfl)) pa_nil)) (by rfl))
      (pss_cons (ps_if (PW.pt (pw_or (pt_not (pt_val (pe_callB (K_isi (K := K) rfl) (by rfl) T.n_isinstance (by decide +kernel) (pa_cons (pv 9) (pa_cons (pe_bltn (v := .ty "list") (by rfl) T.n_list (by decide +kernel) rfl) pa_nil))))) (pw_or1 (pt_cmpR op_ne (pe_callB (K_repr (K := K) rfl hG hr.units) (by rfl) T.n_repr (by decide +kernel) (pa_cons (pv 9) pa_nil)) (pe_callB (K_repr (K := K) rfl hG hr.units) (by rfl) T.n_repr (by decide +kernel) (pa_cons (pv 10) pa_nil)) (nomark _))))) (pss_one (ps_ret pe_bl)) pss_nil)
      (pss_one (ps_expr (pe_bm PySem.F.plainAttrs_list PySem.F.slot_list_append PySem.F.type_list_append mt_append (pv 9) (pa_cons pe_int pa_nil)))))) pss_nil))))
      (pss_one (ps_ret pe_bl)))), ?_⟩
    have ok := hP.ok
    have pos : 0 < h.n := ok.v.pos
    have top : h.n ≤ 48 := ok.v.top
    show tSeq _ _ _ [some (.ref b), some (.ref p), some (.ref w), none, none, none, none, none, none, none, none] H
    refine q_worldB (ev_var rfl) hw fun x1 x2 x3 x4 x5 H1 e1 h1 h2 h3 h4 h5 ⟨n1, n2, n3, n4, n5⟩ => ?_
    have hP1 := hP.same e1
    show tSeq _ _ _ [some (.ref b), some (.ref p), some (.ref w), none, some (.ref x1), some (.ref x2), some (.ref x3), some (.ref x4), some (.ref x5), none, none] H1
    refine ⟨_, rfl, ?_⟩
    refine el_lst (σ := [some (.ref b), some (.ref p), some (.ref w), none, some (.ref x1), some (.ref x2), some (.ref x3), some (.ref x4), some (.ref x5), none, none]) (vs := iv [0, 1, 2, 3]) (ea_cons ev_c (ea_cons ev_c (ea_cons ev_c (ea_cons ev_c ea_nil)))) (by show 4 ≤ 100000; decide) H1 (Ex.refl H1) _ fun a H2 na e2 ha => ?_
    have b2 : Bag H2 b := hb.same (e1.trans e2)
    have nab : a ≠ b := (hb.same e1).ne na
    refine ⟨b, a, _, rfl, b2, SqL.of ha, nab, by decide, fun H3 l ys nl d3 hl pm => ⟨l, rfl, ⟨_, SqL.of hl⟩, ?_⟩⟩
    obtain ⟨lb, blk⟩ := hb.lst
    have nx : ∀ {x : Addr} {o : HO}, x ≠ b → H1 x = some o → H3 x = some o := fun n o => d3.but _ _ n (e2 _ _ o)
    have d13 : Drew b H1 H3 := (Drew.of (hb.same e1) e2).trans d3
    have k1 := nx n1 h1
    have k2 := nx n2 h2
    have k3 := nx n3 h3
    have k4 := nx n4 h4
    have k5 := nx n5 h5
    have hP3 := hP1.drew (hb.same e1) d13
    rw [row_some] at k4
    clear nx h1 h2 h3 h4 h5 ha na nab blk
    refine for_list (fun i σ' H' => ∃ x3' x9 x10, σ' = [some (.ref b), some (.ref p), some (.ref w), x3', some (.ref x1), some (.ref x2), some (.ref x3), some (.ref x4), some (.ref x5), x9, x10] ∧ Ex H3 H') ⟨none, none, none, rfl, Ex.refl H3⟩ (fun i σ' H' _ ⟨_, _, _, _, e⟩ => SqL.of (e _ _ hl)) ?_ ?_
    · rintro i v σ' H4 hv ⟨x3', x9, x10, rfl, e4⟩
      have mv : v ∈ iv [0, 1, 2, 3] := pm.mem_iff.mp (List.mem_of_getElem? hv)
      obtain ⟨wy, hwy, rfl⟩ := List.mem_map.mp mv
      have bw : 0 ≤ wy ∧ wy ≤ 3 := by
        rcases List.mem_cons.mp hwy with rfl | h
        · decide
        rcases List.mem_cons.mp h with rfl | h
        · decide
        rcases List.mem_cons.mp h with rfl | h
        · decide
        · obtain rfl := List.mem_singleton.mp h
          decide
      show tSeq _ _ _ [some (.ref b), some (.ref p), some (.ref w), some (.int wy), some (.ref x1), some (.ref x2), some (.ref x3), some (.ref x4), some (.ref x5), x9, x10] H4
      by_cases w0 : wy = 0
      · subst w0
        refine q_if (b := true) (et_is (et_eqI (ev_var rfl) ev_c) rfl) (fun _ H5 e5 => ?_) fun z => nomatch z
        have e35 := e4.trans e5
        have hP5 := hP3.same e35
        have fd : Fine 2 20000 (.list [.int (h.n : Nat), dI h.ns, dI (Clk.row h.n h.g)]) := (Fine.list (n := 1) (m := 6000) (k := 3) (fun d hd => by
          rcases List.mem_cons.mp hd with rfl | hd
          · exact (Fine.int (by omega) (by omega)).mono (by decide) (by decide)
          rcases List.mem_cons.mp hd with rfl | hd
          · exact fineB (by show h.n ≤ 50; omega) fun x hx => by
              have z : x ∈ Clk.row h.ns.length (Clk.S h.ns) := by
                rw [← Clk.row_eq]
                exact hx
              obtain ⟨i, hi, rfl⟩ := Clk.mem_row.mp z
              have z1 := ok.v.lo (i : Int)
              have z2 := ok.v.hi (i : Int)
              have z3 : h.ns.length ≤ 48 := top
              omega
          · obtain rfl := List.mem_singleton.mp hd
            exact fineB (by rw [Clk.row_len]; omega) fun x hx => by
              obtain ⟨i, hi, rfl⟩ := Clk.mem_row.mp hx
              have := ok.g0 i hi
              have := sm.g i hi
              omega) (by show 3 ≤ 3; decide)).mono (by decide) (by decide)
        refine q_asgD (K := K) (ds := [.int (h.n : Nat), dI h.ns, dI (Clk.row h.n h.g)]) (evd_lst (evds_cons (evd_int (ev_hsHours (ev_var rfl) hP5)) (evds_cons (evd_L (el_ownC (ec_hsClock (ev_var rfl) hP5))) (evds_cons (evd_L (el_ownR (er_hsNeeds (ev_var rfl) hP5))) evds_nil))) (by show 3 ≤ 100000; decide)) fun f H6 e6 hf => ?_
        show tIfS _ _ _ _ [some (.ref b), some (.ref p), some (.ref w), some (.int 0), some (.ref x1), some (.ref x2), some (.ref x3), some (.ref x4), some (.ref x5), some (.ref f), x10] H6
        have e36 := e35.trans e6
        refine s_when (b := false) (et_or2 (et_reprSame (evd_at (ev_var rfl) hf) (evd_lst (evds_cons (evd_int (ev_lenK (ev_var rfl) (SqL.of (e36 _ _ k1)) (iv_len _))) (evds_cons (evd_ref (ev_var rfl) (SqL.of (e36 _ _ k1))) (evds_cons (evd_ref (ev_var rfl) (SqL.of (e36 _ _ k2))) evds_nil))) (by show 3 ≤ 100000; decide)) fd (by decide) (by decide)) (et_f (ev_neCC (ec_hsClock (ev_var rfl) (hP3.same e36)) (ec_makeR (ev_var rfl) (SqL.of (e36 _ _ k1)) ok.v)) (by rw [decide_eq_true rfl]; rfl))) (fun z => nomatch z) fun _ H7 e7 => ?_
        dsimp only
        show tIfS _ _ _ _ [some (.ref b), some (.ref p), some (.ref w), some (.int 0), some (.ref x1), some (.ref x2), some (.ref x3), some (.ref x4), some (.ref x5), some (.ref f), x10] H7
        exact s_when (b := false) (et_is (et_test (ev_op (ev_var rfl) ev_c rv_I0)) rfl) (fun z => nomatch z) fun _ H8 e8 => ⟨_, _, _, rfl, e36.trans (e7.trans e8)⟩
      · refine q_skip (et_is (et_eqI (ev_var rfl) ev_c) (decide_eq_false w0)) fun H5 e5 => ?_
        refine s_when (b := true) (et_is (et_test (ev_op (ev_var rfl) ev_c rv_I0)) (decide_eq_true (by omega))) (fun _ H6 e6 => ?_) fun z => nomatch z
        have e36 := e4.trans (e5.trans e6)
        have hP6 := hP3.same e36
        obtain ⟨j, hj⟩ := Int.eq_ofNat_of_zero_le (show 0 ≤ wy - 1 by omega)
        have rowm : ∀ {row : Hs → List V} {m : Str} {H' : Hp}, Ex H6 H' → (∀ c f tr tk td : Addr, List.lookup m [("_clock", V.ref c), ("_needs", .ref f), ("_rooms", .ref tr), ("_kept", .ref tk), ("_doors", .ref td)] = none) → EvL (tMeth T.C_House.C m (spHsRow K T.C_House.C T.C_Clock.C T.C_Needs.C row) [] E0 (tVar 1) tNil) [some (.ref b), some (.ref p), some (.ref w), some (.int wy), some (.ref x1), some (.ref x2), some (.ref x3), some (.ref x4), some (.ref x5), x9, x10] H' (row h) := fun {row m H'} e hm => el_hsRow (ev_var rfl) (hP6.same e) hm
        refine q_pick3 (j := j) (rowm (row := fun h => ovR h.n h.r) (Ex.refl H6) fun _ _ _ _ _ => rfl) (rowm (row := fun h => iv (Clk.row h.n h.k)) (Ex.refl H6) fun _ _ _ _ _ => rfl) (rowm (row := fun h => ovR h.n h.d) (Ex.refl H6) fun _ _ _ _ _ => rfl) rfl rfl rfl (by omega) (fun H7 e7 => ev_is (ev_op (ev_var rfl) ev_c rv_I0) (by rw [hj])) fun g m H7 ng e7 hg hm => ?_
        obtain ⟨F, hF, hmF, fF⟩ : ∃ F : Int → Option Int, H7 g = some (.lst (ovR h.n F)) ∧ H7 m = some (.lst (ovR h.n F)) ∧ Fine 1 6000 (.list ((ovO h.n F).map dO)) := by
          have e37 := e36.trans e7
          have w : j = 0 ∨ j = 1 ∨ j = 2 := by omega
          rcases w with rfl | rfl | rfl
          · subst hm
            exact ⟨h.r, hg, e37 _ _ k3, fineO top fun i hi x hx => ⟨ok.r0 i hi x hx, by have := sm.r i hi x hx; omega⟩⟩
          · subst hm
            refine ⟨fun i => some (h.k i), ?_, e37 _ _ k4, fineO top fun i hi x hx => ?_⟩
            · rw [← row_some]
              exact hg
            · obtain rfl := Option.some.inj hx
              exact ⟨ok.k0 i hi, by have := sm.k i hi; omega⟩
          · subst hm
            exact ⟨h.d, hg, e37 _ _ k5, fineO top fun i hi x hx => ⟨ok.d0 i hi x hx, by have := sm.d i hi x hx; omega⟩⟩
        show tSeq _ _ _ [some (.ref b), some (.ref p), some (.ref w), some (.int wy), some (.ref x1), some (.ref x2), some (.ref x3), some (.ref x4), some (.ref x5), some (.ref g), some (.ref m)] H7
        refine q_skip (et_or2 (et_is (et_not (a := true) (et_B (ev_isiLst (ev_var rfl) hF))) rfl) (et_reprSame (evd_at (ev_var rfl) (dp_ov hF)) (evd_at (ev_var rfl) (dp_ov hmF)) fF (by decide) (by decide))) fun H8 e8 => ?_
        refine s_app (e8 _ _ hF) (ev_var rfl) ev_c (by rw [ovR_len]; omega) fun H9 e9 => ⟨_, _, _, rfl, ?_⟩
        exact e36.trans (Ex.mut (e7.trans (e8.trans e9)) ng)
    · rintro σ' H4 ⟨_, _, _, rfl, e4⟩
      dsimp only
      exact s_ret ev_c fun H5 e5 => q H5 ((Drew.of hb e1).trans (d13.trans (Drew.of d3.bag (e4.trans e5))))

theorem ec_makeW {σ : L2.St} {H : Hp} {ta : TE} {CC u : Addr} {ns : List Int} {E : XK} (ha : Ev ta σ H (.ref u)) (hu : SqL K H u (iv ns)) (v : Clk.Valid ns) : EvC K CC (tMake CC (spInit K CC) [] E (tCons ta tNil)) σ H ns := fun H1 e Q q =>
  ha H1 e _ fun H2 e2 => fun x dx nx nd nex => ⟨x, dx, u, _, rfl, upd_same, made_ints nx nd (.inl (ex_l (e.trans e2) hu)), v, fun H' kb hC => ⟨rfl, q x H' (e2.trans (made_same nx nd kb)) hC⟩⟩
theorem ok_lmade (T : Env K mg) : FnOk P w K mg base CX0 7 T.lmade.f T.lmade.fd ["_law_world"] (spMade K T.C_House.C T.C_Clock.C T.C_Needs.C) := by
  refine T.lmade.F.ok sc_lmade (fun vs H Q E h => ?_) (fun cdv A outer s H vs Q E hr h => ?_)
  · obtain ⟨b, w, h, rfl, _⟩ := h
    rfl
  · obtain ⟨b, w, h, rfl, hw, ok, q⟩ := h
    refine ⟨_, (pss_cons (ps_asg (pv 0) (pg_tup rfl (pgs_cons (pg_name (i := 1) sc_lmade.nd rfl (by first | exact Or.inl rfl | exact Or.inr rfl)) (pgs_cons (pg_name (i := 2) sc_lmade.nd rfl (by first | exact Or.inl rfl | exact Or.inr rfl)) (pgs_cons (pg_name (i := 3) sc_lmade.nd rfl (by first | exact Or.inl rfl | exact Or.inr rfl)) (pgs_cons (pg_name (i := 4) sc_lmade.nd rfl (by first | exact Or.inl rfl | exact Or.inr rfl)) (pgs_cons (pg_name (i := 5) sc_lmade.nd rfl (by first | exact Or.inl rfl | exact Or.inr rfl)) pgs_nil)))))))
      (pss_one (ps_ret (pe_makeK T.mk_House (ok_House_init T) (hr.mono (by decide)) (by rfl) T.C_House.mg T.kb_House_init pass0 (pa_cons (pe_make T.mk_Clock (ok_Clock_init T) (hr.mono (by decide)) (by rfl) T.C_Clock.mg T.Clock_init.b .nil pass0 (pa_cons (pv 1) pa_nil)) (pa_cons (pe_make T.mk_Needs (ok_Needs_init T) (hr.mono (by decide)) (by rfl) T.C_Needs.mg T.Needs_init.b .nil pass0 (pa_cons (pv 2) pa_nil)) pa_nil)) (pk_cons (pv 3) (pk_cons (pv 4) (pk_cons (pv 5) pk_nil))))))), ?_⟩
    have pos : 0 < h.n := ok.v.pos
    have top : h.n ≤ 48 := ok.v.top
    refine q_world (ev_var rfl) hw fun x1 x2 x3 x4 x5 H1 e1 h1 h2 h3 h4 h5 => ?_
    show tRet _ _ [some (.ref w), some (.ref x1), some (.ref x2), some (.ref x3), some (.ref x4), some (.ref x5)] H1
    have hc : EvC K T.C_Clock.C (tMake T.C_Clock.C (spInit K T.C_Clock.C) [] E0 (tCons (tVar 1) tNil)) [some (.ref w), some (.ref x1), some (.ref x2), some (.ref x3), some (.ref x4), some (.ref x5)] H1 h.ns := ec_makeW (ev_var rfl) (SqL.of h1) ok.v
    unfold tRet tMakeK
    dsimp only [tCons]
    refine hc H1 (Ex.refl H1) _ fun c H2 e2 hC => ?_
    have hf : EvR K T.C_Needs.C "_row" h.n (tMake T.C_Needs.C (spRowInit K T.C_Needs.C "_row") [] E0 (tCons (tVar 2) tNil)) [some (.ref w), some (.ref x1), some (.ref x2), some (.ref x3), some (.ref x4), some (.ref x5)] H2 h.g := er_make (ev_var rfl) (SqL.of (e2 _ _ h2)) pos top (fun i hi => ok.g0 i hi)
    show tMake T.C_Needs.C (spRowInit K T.C_Needs.C "_row") [] E0 (tCons (tVar 2) tNil) _ H2 _
    refine hf H2 (Ex.refl H2) _ fun f H3 e3 hF => ?_
    refine ⟨_, rfl, _, rfl, _, rfl, rfl, rfl, fun x dx nx nd nex => ?_⟩
    have e23 := e2.trans e3
    have s : Same H3 (upd (upd H3 dx (.own x)) x (.ins T.C_House.C dx [])) := made_same nx nd fun b o _ h => h
    refine ⟨x, dx, c, f, _, _, _, h, rfl, upd_same, ok, (hC.same e3).same s, hF.same s, .inr ⟨x3, rfl, .inl (SqL.of (s _ _ (e23 _ _ h3)))⟩, .inr ⟨x4, rfl, .inl (SqL.of (s _ _ (e23 _ _ h4)))⟩, .inr ⟨x5, rfl, .inl (SqL.of (s _ _ (e23 _ _ h5)))⟩, fun H' k hH => ⟨rfl, ?_⟩⟩
    have e13 := e1.trans e23
    exact q H' x (fresh_back e13 nx) (e13.trans (made_same nx nd k)) hH

theorem ok_Needs_eq (T : Env K mg) : FnOk P w K mg base CX0 1 T.Needs_eq.f T.Needs_eq.fd ["self", "other"] (spRowEq K T.C_Needs.C "_row") := by
  refine T.Needs_eq.F.ok sc_Needs_eq (fun vs H Q E h => ?_) (fun cdv A outer s H vs Q E hr h => ?_)
  · obtain ⟨p, r, ns, ms, rfl, _⟩ := h
    rfl
  · obtain ⟨p, r, ns, ms, rfl, hc, hd, q⟩ := h
    obtain ⟨dx, t, h1, h2⟩ := hc.ex
    obtain ⟨dy, u, g1, g2⟩ := hd.ex
    refine ⟨_, (pss_one (ps_ret (pe_and (pe_callB (K_isi (K := K) rfl) (by rfl) T.n_isinstance (by decide +kernel) (pa_cons (pv 1) (pa_cons (pe_glob (v := .ref T.C_Needs.C) (by rfl) T.C_Needs.mg rfl) pa_nil))) (pe_one (pe_cmpR (K_eqD (K := K) hr.units rfl) (K_fld (K := K) rfl (pv 0) rfl) (K_fld (K := K) rfl (pv 1) rfl) (nomark _)))))), ?_⟩
    refine ⟨_, rfl, .ref r, .ref T.C_Needs.C, .ref T.C_Needs.C, .ref T.C_Needs.C, true, rfl, .own _, .base (.ins g1 T.C_Needs.cl T.ic_Needs T.ig_Needs T.it_Needs T.ob_Needs), kit_self _ _, true, rfl, ?_⟩
    refine iteT ?_
    refine ⟨_, rfl, p, _, dx, _, .ref t, rfl, h1, T.C_Needs.cl, T.n_Needs__row, rfl, _, rfl, r, _, dy, _, .ref u, rfl, g1, T.C_Needs.cl, T.n_Needs__row, rfl, ?_⟩
    refine ⟨.tuple (ns.map PyData.int), .tuple (ms.map PyData.int), .tup h2 (dpI ns), .tup g2 (dpI ms), shaped_tupI ns, shaped_tupI ms, ?_⟩
    rw [eqv_tupI]
    exact q

section
variable {K : PySem.W.Frag} {CC CN c c' : Addr} {σ : L2.St} {H : Hp} {ta tb : TE} {ns ms : List Int} {E : XK} {l m : List (Option Int)} {a b : Addr}
theorem ev_eqC (ha : Ev ta σ H (.ref c)) (hc : ClkAt K CC H c ns) (hb : Ev tb σ H (.ref c')) (hd : ClkAt K CC H c' ms) {neg : Bool} : Ev (tOp (rCmpOwn CC (spEq K CC) E neg) ta tb) σ H (.bl (if neg then !decide (ns = ms) else decide (ns = ms))) := fun H1 e Q k =>
  ha H1 e _ fun H2 e2 => hb H2 (e.trans e2) _ fun H3 e3 => by
    have h1 := hc.same (e.trans (e2.trans e3))
    have h2 := hd.same (e.trans (e2.trans e3))
    obtain ⟨dx, t, g1, _⟩ := h1.ex
    obtain ⟨dy, u, g2, _⟩ := h2.ex
    exact ⟨c, c', dx, dy, _, _, rfl, rfl, g1, g2, c, c', ns, ms, rfl, h1, h2, _, rfl, k H3 (e2.trans e3)⟩
theorem ev_eqN {f : Str} (ha : Ev ta σ H (.ref c)) (hc : RowAt K CN f H c ns) (hb : Ev tb σ H (.ref c')) (hd : RowAt K CN f H c' ms) : Ev (tOp (rCmpOwn CN (spRowEq K CN f) E false) ta tb) σ H (.bl (decide (ns = ms))) := fun H1 e Q k =>
  ha H1 e _ fun H2 e2 => hb H2 (e.trans e2) _ fun H3 e3 => by
    have h1 := hc.same (e.trans (e2.trans e3))
    have h2 := hd.same (e.trans (e2.trans e3))
    obtain ⟨dx, t, g1, _⟩ := h1.ex
    obtain ⟨dy, u, g2, _⟩ := h2.ex
    exact ⟨c, c', dx, dy, _, _, rfl, rfl, g1, g2, c, c', ns, ms, rfl, h1, h2, _, rfl, k H3 (e2.trans e3)⟩
theorem ev_eqTO (ha : Ev ta σ H (.ref a)) (hl : SqT K H a (l.map oV)) (hb : Ev tb σ H (.ref b)) (hm : SqT K H b (m.map oV)) : Ev (tOp (rEqD K) ta tb) σ H (.bl (decide (l = m))) := fun H1 e Q k =>
  ha H1 e _ fun H2 e2 => hb H2 (e.trans e2) _ fun H3 e3 => ⟨.tuple (l.map dO), .tuple (m.map dO), .tup (ex_t (e.trans (e2.trans e3)) hl) (dpAll_O l), .tup (ex_t (e.trans (e2.trans e3)) hm) (dpAll_O m), shaped_O l, shaped_O m, by
    rw [eqv_tupO]
    exact k H3 (e2.trans e3)⟩
theorem ev_eqTI {l m : List Int} (ha : Ev ta σ H (.ref a)) (hl : SqT K H a (iv l)) (hb : Ev tb σ H (.ref b)) (hm : SqT K H b (iv m)) : Ev (tOp (rEqD K) ta tb) σ H (.bl (decide (l = m))) := fun H1 e Q k =>
  ha H1 e _ fun H2 e2 => hb H2 (e.trans e2) _ fun H3 e3 => ⟨.tuple (l.map PyData.int), .tuple (m.map PyData.int), .tup (ex_t (e.trans (e2.trans e3)) hl) (dpI l), .tup (ex_t (e.trans (e2.trans e3)) hm) (dpI m), shaped_tupI l, shaped_tupI m, by
    rw [eqv_tupI]
    exact k H3 (e2.trans e3)⟩
end
theorem ok_House_eq (T : Env K mg) : FnOk P w K mg base CX0 3 T.House_eq.f T.House_eq.fd ["self", "other"] (spHouseEq K T.C_House.C T.C_Clock.C T.C_Needs.C) := by
  refine T.House_eq.F.ok sc_House_eq (fun vs H Q E h => ?_) (fun cdv A outer s H vs Q E hr h => ?_)
  · obtain ⟨p, y, h, rfl, _⟩ := h
    rfl
  · obtain ⟨p, y, h, rfl, hP, h⟩ := h
    refine ⟨_, (pss_one (ps_ret (pe_and (pe_callB (K_isi (K := K) rfl) (by rfl) T.n_isinstance (by decide +kernel) (pa_cons (pv 1) (pa_cons (pe_glob (v := .ref T.C_House.C) (by rfl) T.C_House.mg rfl) pa_nil))) (pe_and (pe_cmpR (op_eqOwn T.m_Clock_eq (ok_Clock_eq T) (hr.mono (by decide)) T.Clock_eq.b pass0) (K_fld (K := K) rfl (pv 0) rfl) (K_fld (K := K) rfl (pv 1) rfl) (nomark _)) (pe_and (pe_cmpR (op_eqOwn T.m_Needs_eq (ok_Needs_eq T) (hr.mono (by decide)) T.Needs_eq.b pass0) (K_fld (K := K) rfl (pv 0) rfl) (K_fld (K := K) rfl (pv 1) rfl) (nomark _)) (pe_and (pe_cmpR (K_eqD (K := K) hr.units rfl) (K_fld (K := K) rfl (pv 0) rfl) (K_fld (K := K) rfl (pv 1) rfl) (nomark _)) (pe_and (pe_cmpR (K_eqD (K := K) hr.units rfl) (K_fld (K := K) rfl (pv 0) rfl) (K_fld (K := K) rfl (pv 1) rfl) (nomark _)) (pe_one (pe_cmpR (K_eqD (K := K) hr.units rfl) (K_fld (K := K) rfl (pv 0) rfl) (K_fld (K := K) rfl (pv 1) rfl) (nomark _)))))))))), ?_⟩
    obtain ⟨dx, c, f, tr, tk, td, h1, h2, h3, h4, h5, h6⟩ := id hP.ex
    rcases h with ⟨r, h', rfl, hR, q⟩ | ⟨t, ty, ko, q⟩
    · obtain ⟨dx', c', f', tr', tk', td', g1, g2, g3, g4, g5, g6⟩ := id hR.ex
      show tRet _ _ [some (.ref p), some (.ref r)] H
      rw [ovR_O] at h4 h6 g4 g6
      have F : ∀ {f : Str} {v : V}, NoAttr K T.C_House.C f → List.lookup f [("_clock", V.ref c), ("_needs", .ref f'), ("_rooms", .ref tr), ("_kept", .ref tk), ("_doors", .ref td)] = some v → True := fun _ _ => trivial
      refine s_ret (v := .bl (hEqB h h')) (ev_andV (a := true) (ev_isiC (ev_var rfl) g1 T.C_House.cl T.ic_House T.ig_House T.it_House T.ob_House) fun _ => ev_andV (ev_eqC (neg := false) (ev_fld (ev_var rfl) h1 T.C_House.cl T.n_House__clock rfl) h2 (ev_fld (ev_var rfl) g1 T.C_House.cl T.n_House__clock rfl) g2) fun _ => ev_andV (ev_eqN (ev_fld (ev_var rfl) h1 T.C_House.cl T.n_House__needs rfl) h3 (ev_fld (ev_var rfl) g1 T.C_House.cl T.n_House__needs rfl) g3) fun _ =>
        ev_andV (ev_eqTO (ev_fld (ev_var rfl) h1 T.C_House.cl T.n_House__rooms rfl) h4 (ev_fld (ev_var rfl) g1 T.C_House.cl T.n_House__rooms rfl) g4) fun _ => ev_andV (ev_eqTI (ev_fld (ev_var rfl) h1 T.C_House.cl T.n_House__kept rfl) h5 (ev_fld (ev_var rfl) g1 T.C_House.cl T.n_House__kept rfl) g5) fun _ => ev_eqTO (ev_fld (ev_var rfl) h1 T.C_House.cl T.n_House__doors rfl) h6 (ev_fld (ev_var rfl) g1 T.C_House.cl T.n_House__doors rfl) g6) q
    · show tRet _ _ [some (.ref p), some y] H
      exact ⟨y, rfl, y, .ref T.C_House.C, t, .ref T.C_House.C, false, rfl, .own _, ty, ko, false, rfl, q H (Ex.refl H)⟩

section
variable {K : PySem.W.Frag} {σ : L2.St} {H : Hp} {te tx ta tb : TE} {p : Addr} {xs : List V} {D : Ends} {tz tu : TS}
theorem q_forTopN {j : Nat} {tl : TE} (h : tl σ H fun v H1 => tSeq (tFor (iTup K (tC v)) (gName j) tu) tz D σ H1) : tSeq (tFor (iTup K tl) (gName j) tu) tz D σ H := h
theorem tup_two {Q : VK} (h : ta σ H fun v H1 => tb σ H1 fun w H2 => 2 ≤ sizeLine ∧ ∀ p, H2 p = none → Q (.ref p) (upd H2 p (.tup [v, w]))) : tTup (tCons ta (tCons tb tNil)) σ H Q := h
theorem el_cutLo {f : Nat} (h : Ev te σ H (.ref p)) (hp : SqL K H p xs) (hx : ∀ H1, Ex H H1 → Ev tx σ H1 (.int (f : Nat))) (f1 : f ≤ xs.length) : EvL (tSl (rSlL K) te (tPart tx) tNoPart) σ H (xs.drop f) := fun H1 e Q k =>
  h H1 e _ fun H2 e2 => hx _ (e.trans e2) _ (Ex.refl _) _ fun H3 e3 => ⟨(f : Int), rfl, p, xs, rfl, ex_l (e.trans (e2.trans e3)) hp, fun r nr => k r _ (fresh_back (e2.trans e3) nr) ((e2.trans e3).trans (Ex.new nr)) (by rw [upd_same, cut_lo f1])⟩
theorem el_cutHi {f : Nat} (h : Ev te σ H (.ref p)) (hp : SqL K H p xs) (hx : ∀ H1, Ex H H1 → Ev tx σ H1 (.int (f : Nat))) (f1 : f ≤ xs.length) : EvL (tSl (rSlL K) te tNoPart (tPart tx)) σ H (xs.take f) := fun H1 e Q k =>
  h H1 e _ fun H2 e2 => hx _ (e.trans e2) _ (Ex.refl _) _ fun H3 e3 => ⟨(f : Int), rfl, p, xs, rfl, ex_l (e.trans (e2.trans e3)) hp, fun r nr => k r _ (fresh_back (e2.trans e3) nr) ((e2.trans e3).trans (Ex.new nr)) (by rw [upd_same, cut_hi f1])⟩
end
theorem ok_lnear (T : Env K mg) : FnOk P w K mg base CX0 2 T.lnear.f T.lnear.fd ["_law_bag_here", "_law_world"] spNear := by
  refine T.lnear.F.ok sc_lnear (fun vs H Q E h => ?_) (fun cdv A outer s H vs Q E hr h => ?_)
  · obtain ⟨b, w, h, rfl, _⟩ := h
    rfl
  · obtain ⟨b, w, h, rfl, hb, hw, ok, q⟩ := h
    refine ⟨_, (pss_cons (ps_set (i := 2) sc_lnear.nd rfl (by first | exact Or.inl rfl | exact Or.inr rfl) (pe_callB (K_len (K := K) rfl) (by rfl) T.n_len PySem.boot_len (pa_cons (pe_ix (K_ixT (K := K) rfl) (pv 1) pe_int (fun _ _ => rfl)) pa_nil)))
      (pss_cons (ps_par (i := 5) (j := 6) (by rfl) sc_lnear.nd rfl rfl (by decide) rfl rfl (pa_cons (pe_call (ok_ltake T) (hr.mono (by decide)) (by rfl) T.ltake.m T.ltake.F.kp T.ltake.b .nil pass0 (pa_cons (pv 0) (pa_cons (pv 2) pa_nil))) (pa_cons (pe_lst pa_nil) pa_nil)) (by rfl))
      (pss_cons (ps_for PassesOwn.never rfl (K_pit (K := K) rfl (pe_tup (pa_cons (pe_op op_rep (pe_lst (pa_cons pe_int pa_nil)) (pv 2)) (pa_cons (pe_op op_cat (pe_slice (K_slL (K := K) rfl) (pe_ix (K_ixT (K := K) rfl) (pv 1) pe_int (fun _ _ => rfl)) (po_some pe_int) po_none) (pe_slice (K_slL (K := K) rfl) (pe_ix (K_ixT (K := K) rfl) (pv 1) pe_int (fun _ _ => rfl)) po_none (po_some pe_int))) pa_nil)))) (pg_name (i := 3) sc_lnear.nd rfl (by first | exact Or.inl rfl | exact Or.inr rfl))
      (pss_one (ps_if (pt_cmpR (K_neD (K := K) hr.units rfl) (pe_ix (K_ixT (K := K) rfl) (pv 1) pe_int (fun _ _ => rfl)) (pv 3) (nomark _)) (pss_one (ps_expr (pe_bm PySem.F.plainAttrs_list PySem.F.slot_list_append PySem.F.type_list_append mt_append (pv 6) (pa_cons (pe_op (K_catT (K := K) rfl) (pe_tup (pa_cons (pv 3) pa_nil)) (pe_slice (K_slT (K := K) rfl) (pv 1) (po_some pe_int) po_none)) pa_nil)))) pss_nil)))
      (pss_cons (ps_for PassesOwn.never rfl (pi_range2 (by rfl) T.n_range (pa_cons pe_int (pa_cons pe_int pa_nil))) (pg_name (i := 4) sc_lnear.nd rfl (by first | exact Or.inl rfl | exact Or.inr rfl))
      (pss_cons (ps_set (i := 7) sc_lnear.nd rfl (by first | exact Or.inl rfl | exact Or.inr rfl) (pe_callTy (K_list (K := K) rfl) (by rfl) T.n_list (by decide +kernel) (pa_cons (pe_ix (K_ixT (K := K) rfl) (pv 1) (pv 4) (fun _ _ => rfl)) pa_nil)))
      (pss_cons (ps_asg (pe_ifExp (pt_cmpR op_isN (pe_ix (K_ixL (K := K) rfl) (pv 7) (pv 5) (fun _ _ => rfl)) pe_non (nomark _)) pe_int (pe_op op_add (pe_ix (K_ixL (K := K) rfl) (pv 7) (pv 5) (fun _ _ => rfl)) pe_int)) (pg_sub (pv 7) (pv 5) set_list))
      (pss_one (ps_expr (pe_bm PySem.F.plainAttrs_list PySem.F.slot_list_append PySem.F.type_list_append mt_append (pv 6) (pa_cons (pe_op (K_catT (K := K) rfl) (pe_op (K_catT (K := K) rfl) (pe_slice (K_slT (K := K) rfl) (pv 1) po_none (po_some (pv 4))) (pe_tup (pa_cons (pv 7) pa_nil))) (pe_slice (K_slT (K := K) rfl) (pv 1) (po_some (pe_op op_add (pv 4) pe_int)) po_none)) pa_nil)))))))
      (pss_one (ps_ret (pv 6))))))), ?_⟩
    have pos : 0 < h.n := ok.v.pos
    have top : h.n ≤ 48 := ok.v.top
    have pos2 : 0 < h.ns.length := pos
    have top2 : h.ns.length ≤ 48 := top
    obtain ⟨x1, x2, x3, x4, x5, h0, h1, h2, h3, h4, h5, n1, n2, n3, n4, n5⟩ := hw
    have w0 : ∀ {σ : L2.St} {H' : Hp} {o : Addr}, σ[1]? = some (some (.ref w)) → H' w = some (.tup [.ref x1, .ref x2, .ref x3, .ref x4, .ref x5]) → Ev (tOp (rIxT K) (tVar 1) (tC (.int 0))) σ H' (.ref x1) := fun hs hh => ev_op (ev_var hs) ev_c (rv_ixT (SqT.of hh) rfl)
    show tSeq _ _ _ [some (.ref b), some (.ref w), none, none, none, none, none, none] H
    refine q_asg (v := .int (h.n : Nat)) (ev_lenK (w0 (o := w) rfl h0) (SqL.of h1) (iv_len _)) fun H1 e1 => ?_
    show tSeq _ _ _ [some (.ref b), some (.ref w), some (.int (h.n : Nat)), none, none, none, none, none] H1
    refine ⟨_, rfl, _, rfl, b, (h.n : Nat), rfl, hb.same e1, by omega, by omega, fun H2 v d2 v0 v1 => ?_⟩
    obtain ⟨j, rfl⟩ := Int.eq_ofNat_of_zero_le v0
    have hj : j < h.n := by omega
    refine ⟨by show 0 ≤ sizeLine; decide, fun L nL => ⟨_, _, rfl, ?_⟩⟩
    have d02 : Drew b H H2 := (Drew.of hb e1).trans d2
    have nL0 : H L = none := d02.free nL
    have nLb : L ≠ b := hb.ne nL0
    have keep : ∀ {x : Addr} {o : HO}, x ≠ b → H x = some o → H2 x = some o := fun n o => d02.but _ _ n o
    have nwb : w ≠ b := by
      obtain ⟨xs, hx⟩ := hb.lst
      exact ne_of h0 hx fun z => nomatch z
    have g0 := keep nwb h0
    have g1 := keep n1 h1
    have g2 := keep n2 h2
    have g3 := keep n3 h3
    have g4 := keep n4 h4
    have g5 := keep n5 h5
    have e3 : Ex H2 (upd H2 L (.lst [])) := Ex.new nL
    have dL : ∀ {H' : Hp}, But L (upd H2 L (.lst [])) H' → Drew b H H' := fun bt => d02.past nL e3 bt
    have hL : upd H2 L (.lst []) L = some (.lst []) := upd_same
    have ml : ∀ {x : Addr} {o : HO} {H' : Hp}, H2 x = some o → But L (upd H2 L (.lst [])) H' → H' x = some o := fun {x o H'} hx bt => bt _ _ (ne_of_none hx nL) (e3 _ _ hx)
    have okx : ∀ {x : Addr} {o : HO}, H2 x = some o → x ≠ b → x ≠ b ∧ x ≠ L := fun hx n => ⟨n, ne_of_none hx nL⟩
    have fresh : ∀ {x : Addr} {H' : Hp}, But L (upd H2 L (.lst [])) H' → H' x = none → (∃ xs, H' L = some (.lst xs)) → x ≠ b ∧ x ≠ L := fun {x H'} bt hx ⟨xs, hl⟩ => by
      refine ⟨fun z => ?_, fun z => ?_⟩
      · obtain ⟨ys, hy⟩ := d02.bag.lst
        have y := ml hy bt
        rw [← z, hx] at y
        cases y
      · rw [z, hl] at hx
        cases hx
    generalize upd H2 L (.lst []) = H3 at e3 dL hL ml fresh
    let okA : Addr → Prop := fun a => a ≠ b ∧ a ≠ L
    have okL : ∀ a, okA a → a ≠ L := fun a h => h.2
    dsimp only
    show tSeq _ _ _ [some (.ref b), some (.ref w), some (.int (h.n : Nat)), none, none, some (.int (j : Nat)), some (.ref L), none] H3
    let Inv : Hp → Prop := fun H' => But L H3 H' ∧ ∃ as : List Addr, H' L = some (.lst (as.map V.ref)) ∧ NearL okA h H' as ∧ as.length ≤ 10
    have wL : ∀ {H' : Hp}, But L H3 H' → H' w = some (.tup [.ref x1, .ref x2, .ref x3, .ref x4, .ref x5]) := fun bt => ml g0 bt
    refine q_forTopN (tup_two ?_)
    refine el_repI (n := h.n) (s := 1) (σ := [some (.ref b), some (.ref w), some (.int (h.n : Nat)), none, none, some (.int (j : Nat)), some (.ref L), none]) ev_c (ev_var rfl) (by omega) H3 (Ex.refl H3) _ fun p1 H4 np1 e4 hp1 => ?_
    refine el_catL (el_cutLo (f := 1) (w0 (σ := [some (.ref b), some (.ref w), some (.int (h.n : Nat)), none, none, some (.int (j : Nat)), some (.ref L), none]) (H' := H4) (o := w) rfl (wL (But.of e4))) (SqL.of (ml g1 (But.of e4))) (fun _ _ => ev_c) (by rw [iv_len]; omega)) (el_cutHi (f := 1) (w0 (σ := [some (.ref b), some (.ref w), some (.int (h.n : Nat)), none, none, some (.int (j : Nat)), some (.ref L), none]) (H' := H4) (o := w) rfl (wL (But.of e4))) (SqL.of (ml g1 (But.of e4))) (fun _ _ => ev_c) (by rw [iv_len]; omega)) (by rw [List.length_drop, List.length_take, iv_len]; omega) H4 (Ex.refl H4) _ fun p2 H5 np2 e5 hp2 => ?_
    refine ⟨by show 2 ≤ sizeLine; decide, fun u nu => ?_⟩
    have e6 : Ex H5 (upd H5 u (.tup [.ref p1, .ref p2])) := Ex.new nu
    have hu : upd H5 u (.tup [.ref p1, .ref p2]) u = some (.tup [.ref p1, .ref p2]) := upd_same
    generalize upd H5 u (.tup [.ref p1, .ref p2]) = H6 at e6 hu ⊢
    have e36 := e4.trans (e5.trans e6)
    have ok1 : okA p1 := fresh (But.refl L H3) np1 ⟨_, hL⟩
    have ok2 : okA p2 := fresh (But.of e4) np2 ⟨_, e4 _ _ hL⟩
    have q1 : H6 p1 = some (.lst (iv (List.replicate h.n 1))) := by
      have z : iv (Clk.row h.n fun _ => 1) = iv (List.replicate h.n 1) := by
        unfold Clk.row
        rw [List.map_const', List.length_range]
      rw [← z]
      exact e6 _ _ (e5 _ _ hp1)
    have q2 : H6 p2 = some (.lst (iv (h.ns.drop 1 ++ h.ns.take 1))) := by
      have z : (iv h.ns).drop 1 ++ (iv h.ns).take 1 = iv (h.ns.drop 1 ++ h.ns.take 1) := by
        unfold iv
        rw [List.map_append, List.map_drop, List.map_take]
      rw [← z]
      exact e6 _ _ hp2
    have nuL : u ≠ L := ne_of hu (e36 _ _ hL) fun z => nomatch z
    have okx2 := okx g2 n2
    have okx3 := okx g3 n3
    have okx4 := okx g4 n4
    have okx5 := okx g5 n5
    have okx1 := okx g1 n1
    refine q_forT (xs := [.ref p1, .ref p2]) ev_c (SqT.of hu) (fun i σ' H' => ∃ y3, σ' = [some (.ref b), some (.ref w), some (.int (h.n : Nat)), y3, none, some (.int (j : Nat)), some (.ref L), none] ∧ But L H6 H' ∧ ∃ as : List Addr, H' L = some (.lst (as.map V.ref)) ∧ NearL okA h H' as ∧ as.length ≤ i) (fun H7 e7 => ⟨_, rfl, But.of e7, [], e7 _ _ (e36 _ _ hL), (fun a ha => (nomatch ha)), Nat.le_refl 0⟩) (fun i σ' H' _ ⟨_, _, bt, _⟩ => SqT.of (bt _ _ nuL hu)) ?_ ?_
    · rintro i v σ' H7 hv ⟨y3, rfl, bt, as, hLa, near, la⟩
      obtain ⟨p, ms, rfl, hp, vm, lm, okp⟩ : ∃ (p : Addr) (ms : List Int), v = .ref p ∧ H6 p = some (.lst (iv ms)) ∧ Clk.Valid ms ∧ ms.length = h.n ∧ okA p := by
        cases i with
        | zero => exact ⟨p1, _, (Option.some.inj hv).symm, q1, Clk.even_valid pos top (by decide) (by omega), List.length_replicate, ok1⟩
        | succ i =>
          cases i with
          | zero => exact ⟨p2, _, (Option.some.inj hv).symm, q2, rot_valid ok.v, by rw [List.length_append, List.length_drop, List.length_take]; show h.n - 1 + min 1 h.n = h.n; omega, ok2⟩
          | succ i => cases hv
      have il : i < 2 := (List.getElem?_eq_some_iff.mp hv).1
      show tIfS _ _ _ _ [some (.ref b), some (.ref w), some (.int (h.n : Nat)), some (.ref p), none, some (.int (j : Nat)), some (.ref L), none] H7
      have b37 : But L H3 H7 := (But.of e36).trans bt
      have hp7 := bt _ _ okp.2 hp
      refine s_when (b := !decide (h.ns = ms)) (et_test (ev_op (w0 (o := w) rfl (wL b37)) (ev_var rfl) fun H8 e8 Q k => ⟨dI h.ns, dI ms, Dp.ints (SqL.of (e8 _ _ (ml g1 b37))), Dp.ints (SqL.of (e8 _ _ hp7)), shaped_I _, shaped_I _, by rw [eqv_I]; exact k H8 (Ex.refl H8)⟩)) (fun hne H8 e8 => ?_) fun _ H8 e8 => ⟨_, rfl, bt.trans (But.of e8), as, e8 _ _ hLa, near.but okL ⟨_, hLa⟩ (But.of e8), by omega⟩
      have hne' : ¬ h.ns = ms := fun z => by
        rw [decide_eq_true z] at hne
        cases hne
      have b38 := b37.trans (But.of e8)
      refine s_appU (e8 _ _ hLa) (ev_var rfl) (eu_catT (eu_tup (vs := [.ref p]) (ea_cons (ev_var rfl) ea_nil) (by show 1 ≤ 100000; decide)) (eu_cutLo (f := 1) (ev_var rfl) (wL b38) (fun _ _ => ev_c) (by decide) (by show 1 ≤ 5; decide)) (fun z => nomatch z) (by show 1 + 4 ≤ 100; decide)) (by rw [List.length_map]; omega) fun t H9 nt e9 ht => ?_
      have b39 := b38.trans (But.of e9)
      have ntL : t ≠ L := (ne_of_none (e8 _ _ hLa) nt).symm
      have near9 := near.but okL ⟨_, hLa⟩ (But.of (e8.trans e9))
      have bu : But L H9 (upd H9 L (.lst (as.map V.ref ++ [.ref t]))) := (But.refl L H9).upd
      have hL9 := e9 _ _ (e8 _ _ hLa)
      have wt : WorldF okA H9 t { h with ns := ms } := by
        have lm' : ms.length = h.ns.length := lm
        refine ⟨p, x2, x3, x4, x5, ht, e9 _ _ (e8 _ _ hp7), ?_, ?_, ?_, ?_, okp, okx2, okx3, okx4, okx5⟩
        · show _ = some (HO.lst (iv (Clk.row ms.length h.g)))
          rw [lm]
          exact ml g2 b39
        · show _ = some (HO.lst (ovR ms.length h.r))
          rw [lm]
          exact ml g3 b39
        · show _ = some (HO.lst (iv (Clk.row ms.length h.k)))
          rw [lm]
          exact ml g4 b39
        · show _ = some (HO.lst (ovR ms.length h.d))
          rw [lm]
          exact ml g5 b39
      exact ⟨_, rfl, (bt.trans (But.of (e8.trans e9))).trans bu, as ++ [t], by rw [upd_same, List.map_append]; rfl, (near9.snoc wt (other_len ok vm lm) (near_stays hne')).but okL ⟨_, hL9⟩ bu, by rw [List.length_append]; show as.length + 1 ≤ i + 1; omega⟩
    · rintro σ' H7 ⟨y3, rfl, bt7, as7, hL7, near7, la7⟩
      have la7' : as7.length ≤ 2 := la7
      have b37 : But L H3 H7 := (But.of e36).trans bt7
      show tSeq _ _ _ [some (.ref b), some (.ref w), some (.int (h.n : Nat)), y3, none, some (.int (j : Nat)), some (.ref L), none] H7
      refine q_forR2 (lo := 1) (n := 5) (ea_cons ev_c (ea_cons ev_c ea_nil)) (by decide) (fun i σ' H' => ∃ y4 y7, σ' = [some (.ref b), some (.ref w), some (.int (h.n : Nat)), y3, y4, some (.int (j : Nat)), some (.ref L), y7] ∧ But L H3 H' ∧ ∃ as : List Addr, H' L = some (.lst (as.map V.ref)) ∧ NearL okA h H' as ∧ as.length ≤ 2 + i) (fun H8 e8 => ⟨_, _, rfl, b37.trans (But.of e8), as7, e8 _ _ hL7, near7.but okL ⟨_, hL7⟩ (But.of e8), by omega⟩) ?_ ?_
      · rintro i σ' H8 hi ⟨y4, y7, rfl, b38, as, hL8, near8, la⟩
        obtain ⟨a, ha⟩ : ∃ a : Nat, a = 1 + i := ⟨_, rfl⟩
        have ea : (1 : Int) + (i : Int) = (a : Int) := by omega
        have a1 : 1 ≤ a ∧ a ≤ 4 := by omega
        rw [ea]
        show tSeq _ _ _ [some (.ref b), some (.ref w), some (.int (h.n : Nat)), y3, some (.int (a : Nat)), some (.int (j : Nat)), some (.ref L), y7] H8
        obtain ⟨X, hX, hXr⟩ : ∃ X : Addr, atI [V.ref x1, .ref x2, .ref x3, .ref x4, .ref x5] (a : Int) = some (.ref X) ∧ H8 X = some (.lst (ovR h.n (h.rowF a))) := by
          have w : a = 1 ∨ a = 2 ∨ a = 3 ∨ a = 4 := by omega
          rcases w with rfl | rfl | rfl | rfl
          · exact ⟨x2, rfl, by rw [ml g2 b38, row_someN]; rfl⟩
          · exact ⟨x3, rfl, ml g3 b38⟩
          · exact ⟨x4, rfl, by rw [ml g4 b38, row_someN]; rfl⟩
          · exact ⟨x5, rfl, ml g5 b38⟩
        refine q_asgL (el_listK (ev_op (ev_var rfl) (ev_var rfl) (rv_ixT (SqT.of (wL b38)) hX)) (SqL.of hXr)) fun r H9 nr e9 hr9 => ?_
        show tSeq _ _ _ [some (.ref b), some (.ref w), some (.int (h.n : Nat)), y3, some (.int (a : Nat)), some (.int (j : Nat)), some (.ref L), some (.ref r)] H9
        have okr : okA r := fresh b38 nr ⟨_, hL8⟩
        have atj : atI (ovR h.n (h.rowF a)) (j : Int) = some (oV (h.rowF a (j : Int))) := at_ov (by omega) (by omega)
        refine q_setL (v := .int (bump (h.rowF a) (j : Int))) hr9 (ev_if (b := decide (oV (h.rowF a (j : Int)) = .non)) (et_test (ev_isN (ev_ix (ev_var rfl) (ev_var rfl) (SqL.of hr9) atj))) (fun hb => ev_is ev_c ?_) fun hb => ?_) (ev_var rfl) (ev_var rfl) (by rw [ovR_len]; exact hj) fun H10 e10 => ?_
        · unfold bump
          cases e : h.rowF a (j : Int) with
          | none => rfl
          | some x =>
            rw [e] at hb
            cases of_decide_eq_true hb
        · cases e : h.rowF a (j : Int) with
          | none =>
            rw [e] at hb
            cases hb
          | some x =>
            rw [e] at atj
            refine ev_is (ev_op (ev_ix (ev_var rfl) (ev_var rfl) (SqL.of hr9) atj) ev_c rv_I0) ?_
            unfold bump
            rw [e]
        have e8u : Ex H8 (upd H10 r (.lst ((ovR h.n (h.rowF a)).set j (.int (bump (h.rowF a) (j : Int)))))) := Ex.mut (e9.trans e10) nr
        have hru : upd H10 r (.lst ((ovR h.n (h.rowF a)).set j (.int (bump (h.rowF a) (j : Int))))) r = some (.lst (ovR h.n (Stl.upI (h.rowF a) (j : Int) (some (bump (h.rowF a) (j : Int)))))) := by rw [upd_same, ovR_set]
        generalize upd H10 r (.lst ((ovR h.n (h.rowF a)).set j (.int (bump (h.rowF a) (j : Int))))) = H11 at e8u hru ⊢
        have b311 := b38.trans (But.of e8u)
        have hL11 := e8u _ _ hL8
        refine s_appU (xs := as.map V.ref) (ys := (([V.ref x1, .ref x2, .ref x3, .ref x4, .ref x5].take a ++ [.ref r]) ++ [V.ref x1, .ref x2, .ref x3, .ref x4, .ref x5].drop (a + 1))) hL11 (ev_var rfl) (eu_catT (eu_catT (eu_cutHi (ev_var rfl) (wL b311) (fun _ _ => ev_var rfl) (by show a < 5; omega)) (eu_tup (vs := [.ref r]) (ea_cons (ev_var rfl) ea_nil) (by show 1 ≤ 100000; decide)) (fun z => ?_) (by rw [List.length_take]; show min a 5 + 1 ≤ 100; omega)) (eu_cutLo (f := a + 1) (ev_var rfl) (wL b311) (fun _ _ => ev_is (ev_op (ev_var rfl) ev_c rv_I0) (by rw [show ((a + 1 : Nat) : Int) = (a : Int) + 1 by omega])) (by omega) (by show a + 1 ≤ 5; omega)) (fun z => ?_) (by rw [List.length_append, List.length_take, List.length_drop]; show min a 5 + 1 + (5 - (a + 1)) ≤ 100; omega)) (by rw [List.length_map]; omega) fun t H12 nt e12 ht => ?_
        · have := congrArg List.length z
          rw [List.length_take] at this
          have this : min a 5 = 0 := this
          omega
        · exact absurd z (by simp)
        have b312 := b311.trans (But.of e12)
        have hL12 := e12 _ _ hL11
        have near12 := near8.but okL ⟨_, hL8⟩ (But.of (e8u.trans e12))
        have bu : But L H12 (upd H12 L (.lst (as.map V.ref ++ [.ref t]))) := (But.refl L H12).upd
        have hr12 := e12 _ _ hru
        have wt : WorldF okA H12 t (h.with_ a j) := by
          have w : a = 1 ∨ a = 2 ∨ a = 3 ∨ a = 4 := by omega
          rcases w with rfl | rfl | rfl | rfl
          · refine ⟨x1, r, x3, x4, x5, ht, ml g1 b312, ?_, ml g3 b312, ml g4 b312, ml g5 b312, okx1, okr, okx3, okx4, okx5⟩
            rw [hr12]
            show some (HO.lst (ovR h.n (Stl.upI (fun i => some (h.g i)) (j : Int) (some (h.g (j : Int) + 1))))) = some (HO.lst (iv (Clk.row h.n (Stl.upI h.g (j : Int) (h.g (j : Int) + 1)))))
            rw [upI_some, row_someN]
          · exact ⟨x1, x2, r, x4, x5, ht, ml g1 b312, ml g2 b312, hr12, ml g4 b312, ml g5 b312, okx1, okx2, okr, okx4, okx5⟩
          · refine ⟨x1, x2, x3, r, x5, ht, ml g1 b312, ml g2 b312, ml g3 b312, ?_, ml g5 b312, okx1, okx2, okx3, okr, okx5⟩
            rw [hr12]
            show some (HO.lst (ovR h.n (Stl.upI (fun i => some (h.k i)) (j : Int) (some (h.k (j : Int) + 1))))) = some (HO.lst (iv (Clk.row h.n (Stl.upI h.k (j : Int) (h.k (j : Int) + 1)))))
            rw [upI_some, row_someN]
          · exact ⟨x1, x2, x3, x4, r, ht, ml g1 b312, ml g2 b312, ml g3 b312, ml g4 b312, hr12, okx1, okx2, okx3, okx4, okr⟩
        exact ⟨_, _, rfl, b312.trans bu, as ++ [t], by rw [upd_same, List.map_append]; rfl, (near12.snoc wt (with_ok ok hj) (with_ne hj)).but okL ⟨_, hL12⟩ bu, by rw [List.length_append]; show as.length + 1 ≤ 2 + (i + 1); omega⟩
      · rintro σ' H8 ⟨y4, y7, rfl, b38, as, hL8, near8, la⟩
        refine s_ret (ev_var rfl) fun H9 e9 => q H9 L as nL0 ((dL b38).trans (Drew.of (dL b38).bag e9)) (e9 _ _ hL8) fun a ha => ?_
        obtain ⟨h', z1, z2, z3⟩ := near8.but okL ⟨_, hL8⟩ (But.of e9) a ha
        exact ⟨h', z1.world fun a z => z.1, z2, z3⟩

section
open Evl
variable {K : PySem.W.Frag} {CH CC CN : Addr} {b p q : Addr} {σ : L2.St} {H : Hp} {ta tb te : TE} {t : TT} {h h' : Hs} {E : XK} {D : Ends} {tz tu : TS} {xs ys : List V}
theorem ta_cons40 {tr : TA} {Q : List V → Hp → Prop} (h : te σ H fun x H1 => tr σ H1 fun xs H2 => Q (x :: xs) H2) : tCons te tr σ H Q := h
theorem q_callA40 {sp : Sp} {ts : TA} {i : Nat} (h : ts σ H fun vs H1 => sp (vs ++ []) H1 (fun v H2 => tz D (σ.set i (some v)) H2) E) : tSeq (tAsg (tCall sp [] E ts) (gName i)) tz D σ H := h
theorem q_makeK {C : Addr} {n m i : Nat} {sp : Sp} {gV : List V → List V → List V} {t tk : TA} (h : t σ H fun vs H1 => tk σ H1 fun zs H2 => vs.length = n ∧ zs.length = m ∧ ∀ x dx, H2 x = none → H2 dx = none → dx ≠ x → sp (gV (.ref x :: vs) zs) (upd (upd H2 dx (.own x)) x (.ins C dx [])) (fun v H3 => v = .non ∧ tz D (σ.set i (some (.ref x))) H3) E) :
    tSeq (tAsg (tMakeK C n m sp gV E t tk) (gName i)) tz D σ H := h
theorem ta_nil40 {Q : List V → Hp → Prop} (h : Q [] H) : tNil σ H Q := h
def EtDrB (b : Addr) (t : TT) (σ : L2.St) (H : Hp) (c : Bool) : Prop := ∀ Q : Bool → Hp → Prop, (∀ H1, Drew b H H1 → Q c H1) → t σ H Q
theorem s_ifDrF (h : EtDrB b t σ H false) (k : ∀ H1, Drew b H H1 → D.nx σ H1) : tIfS t tu tNext D σ H := h _ fun H1 d => k H1 d
theorem q_ifK {M : L2.St → Hp → Prop} (ht : EtDr b t σ H) (k : ∀ σ' H', M σ' H' → tz D σ' H') (h1 : ∀ H1, Drew b H H1 → (∀ σ' H', M σ' H' → tz D σ' H') → tu { D with nx := tz D } σ H1) (h2 : ∀ H1, Drew b H H1 → M σ H1) : tSeq (tIfS t tu tNext) tz D σ H :=
  ht _ fun H1 c d => by
    cases c with
    | true => exact h1 H1 d k
    | false => exact k _ _ (h2 H1 d)
/-- a row handed in, or nothing -/
def OptP (v : V) (p : Addr) (xs : List V) (d : V) : Prop := v = .ref p ∨ (v = .non ∧ xs = List.replicate xs.length d)
def Giv (H : Hp) (p : Addr) (xs : List V) : Prop := H p = some (.lst xs) ∨ H p = some (.tup xs)
theorem Giv.ex {H' : Hp} (e : Ex H H') (g : Giv H p xs) : Giv H' p xs := g.elim (fun h => .inl (e _ _ h)) fun h => .inr (e _ _ h)
theorem Giv.drew {H' : Hp} (e : Drew b H H') (n : p ≠ b) (g : Giv H p xs) : Giv H' p xs := g.elim (fun h => .inl (e.but _ _ n h)) fun h => .inr (e.but _ _ n h)
theorem OptP.at_ {v d : V} (o : OptP v p xs d) (g : Giv H p xs) : OptAt K H v xs d := by
  rcases o with rfl | ⟨rfl, e⟩
  · exact .inr ⟨p, rfl, g.elim (fun h => .inl (SqL.of h)) fun h => .inr (SqT.of h)⟩
  · exact .inl ⟨rfl, e⟩
theorem ev_optIf {x : Addr} {n : Nat} {F : Int → Option Int} {dd : Option Int} {i i3 : Nat} (hi : σ[i]? = some (some (.ref x))) (h3 : σ[i3]? = some (some (.int (n : Nat)))) (hx : H x = some (.lst (ovR n F))) (n1 : n ≤ 10000) (hp : Ev te σ H (.ref p)) :
    ∃ v, OptP v p (ovR n F) (oV dd) ∧ Ev (tIf (tTest (tOp (rEqD K) (tVar i) (tOp rRep (tLst (tCons (tC (oV dd)) tNil)) (tVar i3)))) (tC .non) te) σ H v := by
  have ev : Ev (tOp (rEqD K) (tVar i) (tOp rRep (tLst (tCons (tC (oV dd)) tNil)) (tVar i3))) σ H (.bl (decide (ovO n F = List.replicate n dd))) := fun H1 e Q k =>
    ⟨_, hi, el_repV (n := n) (v := oV dd) ev_c (ev_var h3) n1 H1 e _ fun l H2 nl e2 hl => ⟨.list ((ovO n F).map dO), .list ((List.replicate n dd).map dO), by
      have z := (e.trans e2) _ _ hx
      rw [ovR_O] at z
      exact .lst (SqL.of z) (dpAll_O _), by
      have z : List.replicate n (oV dd) = (List.replicate n dd).map oV := by rw [List.map_replicate]
      rw [z] at hl
      exact .lst (SqL.of hl) (dpAll_O _), shaped_O _, shaped_O _, by
      rw [eqv_listO]
      exact k H2 e2⟩⟩
  by_cases c : ovO n F = List.replicate n dd
  · rw [decide_eq_true c] at ev
    refine ⟨.non, .inr ⟨rfl, ?_⟩, ev_if (b := true) (et_test ev) (fun _ => ev_c) fun z => nomatch z⟩
    rw [ovR_len, ovR_O, c, List.map_replicate]
  · rw [decide_eq_false c] at ev
    exact ⟨.ref p, .inl rfl, ev_if (b := false) (et_test ev) (fun z => nomatch z) fun _ => hp⟩
theorem s_clear40 {r : Addr} {xs : List V} (ha : Ev ta σ H (.ref r)) (hr : H r = some (.lst xs)) (k : ∀ H1, Ex H H1 → D.nx σ (upd H1 r (.lst []))) : tDrop (tBM0 K "list" rClear ta) D σ H :=
  ha H (Ex.refl H) _ fun H1 e1 => ⟨.inl ⟨rfl, xs, SqL.of (e1 _ _ hr)⟩, r, xs, rfl, rfl, e1 _ _ hr, k H1 e1⟩
theorem ev_isiL {v : V} {s : String} {c : Bool} (ha : Ev ta σ H v) (ty : ∀ H1, Ex H H1 → TyX K H1 v (.type s)) (k : kitB s "list" = some c) : Ev (tCB (rIsi K) (tCons ta (tCons (tC (.ty "list")) tNil))) σ H (.bl c) := fun H1 e Q q =>
  ha H1 e _ fun H2 e2 => ⟨v, .ty "list", .type s, .type "list", c, rfl, .ty _, ty H2 (e.trans e2), kit_ty k, q H2 e2⟩
def LT (H : Hp) (q : Addr) : Prop := (∃ ys, H q = some (.lst ys)) ∨ ∃ ys, H q = some (.tup ys)
theorem LT.ex {H' : Hp} (e : Ex H H') (g : LT H q) : LT H' q := g.elim (fun ⟨ys, h⟩ => .inl ⟨ys, e _ _ h⟩) fun ⟨ys, h⟩ => .inr ⟨ys, e _ _ h⟩
theorem LT.put {r : Addr} (g : LT H q) : LT (upd H r (.lst [])) q := by
  by_cases e : q = r
  · subst e
    exact .inl ⟨[], upd_same⟩
  · rcases g with ⟨ys, h⟩ | ⟨ys, h⟩
    · exact .inl ⟨ys, by rw [upd_ne e]; exact h⟩
    · exact .inr ⟨ys, by rw [upd_ne e]; exact h⟩
theorem s_clearIf {q : Addr} (ev : σ[7]? = some (some (.ref q))) (lt : LT H q) (k1 : ∀ H1, Ex H H1 → D.nx σ H1) (k2 : ∀ H1 ys, Ex H H1 → H1 q = some (.lst ys) → D.nx σ (upd H1 q (.lst []))) : tIfS (tB (tCB (rIsi K) (tCons (tVar 7) (tCons (tC (.ty "list")) tNil)))) (tDrop (tBM0 K "list" rClear (tVar 7))) tNext D σ H := by
  rcases lt with ⟨ys, hy⟩ | ⟨ys, hy⟩
  · exact s_when (b := true) (et_B (ev_isiL (s := "list") (ev_var ev) (fun H1 e1 => .base (.lst (e1 _ _ hy))) (by decide +kernel))) (fun _ H1 e1 => s_clear40 (ev_var ev) (e1 _ _ hy) fun H2 e2 => k2 H2 ys (e1.trans e2) ((e1.trans e2) _ _ hy)) fun z => nomatch z
  · exact s_when (b := false) (et_B (ev_isiL (s := "tuple") (ev_var ev) (fun H1 e1 => .base (.tup (e1 _ _ hy))) (by decide +kernel))) (fun z => nomatch z) fun _ H1 e1 => k1 H1 e1
theorem s_clearNo (ev : σ[7]? = some (some .non)) (k1 : ∀ H1, Ex H H1 → D.nx σ H1) : tIfS (tB (tCB (rIsi K) (tCons (tVar 7) (tCons (tC (.ty "list")) tNil)))) (tDrop (tBM0 K "list" rClear (tVar 7))) tNext D σ H :=
  s_when (b := false) (et_B (ev_isiL (s := "NoneType") (ev_var ev) (fun H1 e1 => .base .non) (by decide +kernel))) (fun z => nomatch z) fun _ H1 e1 => k1 H1 e1
theorem q_five {i : Nat} {t1 t2 t3 t4 t5 : TE} {l1 l2 l3 l4 l5 : List V} (h1 : EvL t1 σ H l1) (h2 : EvL t2 σ H l2) (h3 : EvL t3 σ H l3) (h4 : EvL t4 σ H l4) (h5 : EvL t5 σ H l5)
    (k : ∀ r z1 z2 z3 z4 z5 H1, Ex H H1 → H1 r = some (.tup [.ref z1, .ref z2, .ref z3, .ref z4, .ref z5]) → H1 z1 = some (.lst l1) → H1 z2 = some (.lst l2) → H1 z3 = some (.lst l3) → H1 z4 = some (.lst l4) → H1 z5 = some (.lst l5) → H z1 = none ∧ H z2 = none ∧ H z3 = none ∧ H z4 = none ∧ H z5 = none → tz D (σ.set i (some (.ref r))) H1) :
    tSeq (tAsg (tTup (tCons t1 (tCons t2 (tCons t3 (tCons t4 (tCons t5 tNil)))))) (gName i)) tz D σ H :=
  h1 H (Ex.refl H) _ fun z1 H1 n1 e1 g1 => h2 H1 e1 _ fun z2 H2 n2 e2 g2 => h3 H2 (e1.trans e2) _ fun z3 H3 n3 e3 g3 => h4 H3 (e1.trans (e2.trans e3)) _ fun z4 H4 n4 e4 g4 => h5 H4 (e1.trans (e2.trans (e3.trans e4))) _ fun z5 H5 n5 e5 g5 => ⟨by show 5 ≤ sizeLine; decide, fun r nr => by
    have e6 : Ex H5 (upd H5 r (.tup [.ref z1, .ref z2, .ref z3, .ref z4, .ref z5])) := Ex.new nr
    exact k r z1 z2 z3 z4 z5 _ (e1.trans (e2.trans (e3.trans (e4.trans (e5.trans e6))))) upd_same (e6 _ _ (e5 _ _ (e4 _ _ (e3 _ _ (e2 _ _ g1))))) (e6 _ _ (e5 _ _ (e4 _ _ (e3 _ _ g2)))) (e6 _ _ (e5 _ _ (e4 _ _ g3))) (e6 _ _ (e5 _ _ g4)) (e6 _ _ g5)
      ⟨n1, fresh_back e1 n2, fresh_back (e1.trans e2) n3, fresh_back (e1.trans (e2.trans e3)) n4, fresh_back (e1.trans (e2.trans (e3.trans e4))) n5⟩⟩
/-- three comparisons with a house unlike -/
theorem evd_three (ha : Ev ta σ H (.ref p)) (hp : HouseAt K CH CC CN H p h) (hb : Ev tb σ H (.ref q)) (hq : HouseAt K CH CC CN H q h') (ne : hEqB h h' = false) :
    EvD K (tLst (tCons (tOp (rCmpOwn CH (spHouseEq K CH CC CN) E false) ta tb) (tCons (tOp (rCmpOwn CH (spHouseEq K CH CC CN) E false) tb ta) (tCons (tOp (rCmpOwn CH (spHouseEq K CH CC CN) E true) ta tb) tNil)))) σ H (.list [.bool false, .bool false, .bool true]) :=
  evd_lst (evds_cons (evd_bl (ev_is (ev_eqH (neg := false) ha hp hb hq) (by rw [ne]; rfl))) (evds_cons (evd_bl (ev_is (ev_eqH (neg := false) hb hq ha hp) (by rw [hEqB_comm, ne]; rfl))) (evds_cons (evd_bl (ev_is (ev_eqH (neg := true) ha hp hb hq) (by rw [ne]; rfl))) evds_nil))) (by show 3 ≤ 100000; decide)
theorem fine_bools {bs : List Bool} (hl : bs.length ≤ 10) : Fine 1 6000 (.list (bs.map PyData.bool)) :=
  (Fine.list (n := 0) (m := 102) (k := 10) (fun d hd => by
    obtain ⟨x, _, rfl⟩ := List.mem_map.mp hd
    exact Fine.bool x) (by rw [List.length_map]; exact hl)).mono (by decide) (by decide)
end
def spLaw (K : PySem.W.Frag) : Sp := fun vs H Q _ => ∃ (a : Addr) (ns : List Int), vs = [.ref a] ∧ SqL K H a (ns.map V.int) ∧ ns.length ≤ 63 ∧ ∀ H', Q (.bl true) H'
theorem ok_law (T : Env K mg) : FnG P w K mg base 8 T.law.f T.law.fd ["_law_script"] (spLaw K) := by
  refine okG T.law.F sc_law (fun vs H Q E h => ?_) (fun cdv A outer s H vs Q E hG hr h => ?_)
  · obtain ⟨a, ns, rfl, _⟩ := h
    rfl
  · obtain ⟨a, ns, rfl, hS, hl, q⟩ := h
    refine ⟨_, (pss_cons (ps_set (i := 1) sc_law.nd rfl (by first | exact Or.inl rfl | exact Or.inr rfl) (pe_call (ok_lbag T) (hr.mono (by decide)) (by rfl) T.lbag.m T.lbag.F.kp T.lbag.b .nil pass0 (pa_cons (pv 0) pa_nil)))
      (pss_cons (ps_for PassesOwn.never rfl (pi_range1 (by rfl) T.n_range (pa_cons pe_int pa_nil)) (pg_name (i := 2) sc_law.nd rfl (by first | exact Or.inl rfl | exact Or.inr rfl))
      (pss_cons (ps_set (i := 3) sc_law.nd rfl (by first | exact Or.inl rfl | exact Or.inr rfl) (pe_op op_add pe_int (pe_call (ok_ltake T) (hr.mono (by decide)) (by rfl) T.ltake.m T.ltake.F.kp T.ltake.b .nil pass0 (pa_cons (pv 1) (pa_cons pe_int pa_nil)))))
      (pss_cons (ps_set (i := 4) sc_law.nd rfl (by first | exact Or.inl rfl | exact Or.inr rfl) (pe_call (ok_lfree_world T) (hr.mono (by decide)) (by rfl) T.lfree_world.m T.lfree_world.F.kp T.lfree_world.b .nil pass0 (pa_cons (pv 1) (pa_cons (pv 3) pa_nil))))
      (pss_cons (ps_asg (pv 4) (pg_tup rfl (pgs_cons (pg_name (i := 14) sc_law.nd rfl (by first | exact Or.inl rfl | exact Or.inr rfl)) (pgs_cons (pg_name (i := 15) sc_law.nd rfl (by first | exact Or.inl rfl | exact Or.inr rfl)) (pgs_cons (pg_name (i := 16) sc_law.nd rfl (by first | exact Or.inl rfl | exact Or.inr rfl)) (pgs_cons (pg_name (i := 17) sc_law.nd rfl (by first | exact Or.inl rfl | exact Or.inr rfl)) (pgs_cons (pg_name (i := 18) sc_law.nd rfl (by first | exact Or.inl rfl | exact Or.inr rfl)) pgs_nil)))))))
      (pss_cons (ps_set (i := 5) sc_law.nd rfl (by first | exact Or.inl rfl | exact Or.inr rfl) (pe_lst (pa_cons (pe_call (ok_lgiven T) (hr.mono (by decide)) (by rfl) T.lgiven.m T.lgiven.F.kp T.lgiven.b .nil pass0 (pa_cons (pv 1) (pa_cons (pv 16) pa_nil))) (pa_cons (pe_call (ok_lgiven T) (hr.mono (by decide)) (by rfl) T.lgiven.m T.lgiven.F.kp T.lgiven.b .nil pass0 (pa_cons (pv 1) (pa_cons (pv 17) pa_nil))) (pa_cons (pe_call (ok_lgiven T) (hr.mono (by decide)) (by rfl) T.lgiven.m T.lgiven.F.kp T.lgiven.b .nil pass0 (pa_cons (pv 1) (pa_cons (pv 18) pa_nil))) pa_nil)))))
      (pss_cons (ps_if (pt_cmpR op_eq (pe_call (ok_ltake T) (hr.mono (by decide)) (by rfl) T.ltake.m T.ltake.F.kp T.ltake.b .nil pass0 (pa_cons (pv 1) (pa_cons pe_int pa_nil))) pe_int (nomark _)) (pss_cons (ps_set (i := 5) sc_law.nd rfl (by first | exact Or.inl rfl | exact Or.inr rfl) (pe_lst (pa_cons (pe_ifExp (pt_cmpR (K_eqD (K := K) hr.units rfl) (pv 16) (pe_op op_rep (pe_lst (pa_cons pe_non pa_nil)) (pv 3)) (nomark _)) pe_non (pe_ix (K_ixL (K := K) rfl) (pv 5) pe_int (fun _ _ => rfl))) (pa_cons (pe_ifExp (pt_cmpR (K_eqD (K := K) hr.units rfl) (pv 17) (pe_op op_rep (pe_lst (pa_cons pe_int pa_nil)) (pv 3)) (nomark _)) pe_non (pe_ix (K_ixL (K := K) rfl) (pv 5) pe_int (fun _ _ => rfl))) (pa_cons (pe_ix (K_ixL (K := K) rfl) (pv 5) pe_int (fun _ _ => rfl)) pa_nil)))))
      (pss_one (ps_asg (pe_ifExp (pt_cmpR (K_eqD (K := K) hr.units rfl) (pv 18) (pe_op op_rep (pe_lst (pa_cons pe_non pa_nil)) (pv 3)) (nomark _)) pe_non (pe_ix (K_ixL (K := K) rfl) (pv 5) pe_int (fun _ _ => rfl))) (pg_sub (pv 5) pe_int set_list)))) pss_nil)
      (pss_cons (ps_set (i := 6) sc_law.nd rfl (by first | exact Or.inl rfl | exact Or.inr rfl) (pe_makeK T.mk_House (ok_House_init T) (hr.mono (by decide)) (by rfl) T.C_House.mg T.kb_House_init pass0 (pa_cons (pe_make T.mk_Clock (ok_Clock_init T) (hr.mono (by decide)) (by rfl) T.C_Clock.mg T.Clock_init.b .nil pass0 (pa_cons (pv 14) pa_nil)) (pa_cons (pe_make T.mk_Needs (ok_Needs_init T) (hr.mono (by decide)) (by rfl) T.C_Needs.mg T.Needs_init.b .nil pass0 (pa_cons (pv 15) pa_nil)) pa_nil)) (pk_cons (pe_ix (K_ixL (K := K) rfl) (pv 5) pe_int (fun _ _ => rfl)) (pk_cons (pe_ix (K_ixL (K := K) rfl) (pv 5) pe_int (fun _ _ => rfl)) (pk_cons (pe_ix (K_ixL (K := K) rfl) (pv 5) pe_int (fun _ _ => rfl)) pk_nil)))))
      (pss_cons (ps_for PassesOwn.never rfl (K_pil (K := K) rfl (pv 5)) (pg_name (i := 7) sc_law.nd rfl (by first | exact Or.inl rfl | exact Or.inr rfl))
      (pss_one (ps_if (pt_val (pe_callB (K_isi (K := K) rfl) (by rfl) T.n_isinstance (by decide +kernel) (pa_cons (pv 7) (pa_cons (pe_bltn (v := .ty "list") (by rfl) T.n_list (by decide +kernel) rfl) pa_nil)))) (pss_one (ps_expr (pe_bm0 PySem.F.plainAttrs_list PySem.F.slot_list_clear PySem.F.type_list_clear mt_clear (pv 7)))) pss_nil)))
      (pss_cons (ps_for PassesOwn.never rfl (pi_range1 (by rfl) T.n_range (pa_cons pe_int pa_nil)) (pg_name (i := 8) sc_law.nd rfl (by first | exact Or.inl rfl | exact Or.inr rfl))
      (pss_one (ps_if (pt_not (pt_val (pe_callG (ok_lright T) hG (hr.mono (by decide)) (by rfl) T.lright.m T.lright.F.kp T.lright.b pass0 (pa_cons (pv 1) (pa_cons (pv 6) (pa_cons (pv 4) pa_nil)))))) (pss_one (ps_ret pe_bl)) pss_nil)))
      (pss_cons (ps_set (i := 9) sc_law.nd rfl (by first | exact Or.inl rfl | exact Or.inr rfl) (pe_call (ok_lmade T) (hr.mono (by decide)) (by rfl) T.lmade.m T.lmade.F.kp T.lmade.b .nil pass0 (pa_cons (pv 4) pa_nil)))
      (pss_cons (ps_set (i := 10) sc_law.nd rfl (by first | exact Or.inl rfl | exact Or.inr rfl) (pe_lst (pa_cons (pe_cmpR (op_eqOwn T.m_House_eq (ok_House_eq T) (hr.mono (by decide)) T.House_eq.b pass0) (pv 6) (pv 9) (nomark _)) (pa_cons (pe_cmpR (op_neOwn T.m_House_eq T.ne_House T.ob_House (ok_House_eq T) (hr.mono (by decide)) T.House_eq.b pass0) (pv 6) (pv 9) (nomark _)) (pa_cons (pe_cmpR (K_eqAny (K := K) rfl T.m_House_eq (ok_House_eq T) (hr.mono (by decide)) T.House_eq.b pass0) (pv 6) (pv 14) (nomark _)) (pa_cons (pe_cmpR (K_eqAny (K := K) rfl T.m_House_eq (ok_House_eq T) (hr.mono (by decide)) T.House_eq.b pass0) (pv 6) (pe_make T.mk_Clock (ok_Clock_init T) (hr.mono (by decide)) (by rfl) T.C_Clock.mg T.Clock_init.b .nil pass0 (pa_cons (pv 14) pa_nil)) (nomark _)) (pa_cons (pe_cmpR (K_eqAny (K := K) rfl T.m_House_eq (ok_House_eq T) (hr.mono (by decide)) T.House_eq.b pass0) (pv 6) pe_int (nomark _)) pa_nil)))))))
      (pss_cons (ps_if (pt_cmpR op_ne (pe_callB (K_repr (K := K) rfl hG hr.units) (by rfl) T.n_repr (by decide +kernel) (pa_cons (pv 10) pa_nil)) (pe_callB (K_repr (K := K) rfl hG hr.units) (by rfl) T.n_repr (by decide +kernel) (pa_cons (pe_lst (pa_cons pe_bl (pa_cons pe_bl (pa_cons pe_bl (pa_cons pe_bl (pa_cons pe_bl pa_nil)))))) pa_nil)) (nomark _)) (pss_one (ps_ret pe_bl)) pss_nil)
      (pss_cons (ps_set (i := 11) sc_law.nd rfl (by first | exact Or.inl rfl | exact Or.inr rfl) (pe_tup (pa_cons (pe_op op_cat (pv 14) (pe_lst (pa_cons (pe_callB (call_max2 rfl) (by rfl) T.n_max (by decide +kernel) (pa_cons pe_int (pa_cons (pe_op op_sub (pe_ix (K_ixL (K := K) rfl) (pv 14) (pe_un un_neg pe_int) (fun _ _ => rfl)) pe_int) pa_nil))) pa_nil))) (pa_cons (pe_op op_cat (pv 15) (pe_lst (pa_cons pe_int pa_nil))) (pa_cons (pe_op op_cat (pv 16) (pe_lst (pa_cons pe_non pa_nil))) (pa_cons (pe_op op_cat (pv 17) (pe_lst (pa_cons pe_int pa_nil))) (pa_cons (pe_op op_cat (pv 18) (pe_lst (pa_cons pe_non pa_nil))) pa_nil)))))))
      (pss_cons (ps_set (i := 12) sc_law.nd rfl (by first | exact Or.inl rfl | exact Or.inr rfl) (pe_call (ok_lmade T) (hr.mono (by decide)) (by rfl) T.lmade.m T.lmade.F.kp T.lmade.b .nil pass0 (pa_cons (pv 11) pa_nil)))
      (pss_cons (ps_if (pt_cmpR op_ne (pe_callB (K_repr (K := K) rfl hG hr.units) (by rfl) T.n_repr (by decide +kernel) (pa_cons (pe_lst (pa_cons (pe_cmpR (op_eqOwn T.m_House_eq (ok_House_eq T) (hr.mono (by decide)) T.House_eq.b pass0) (pv 6) (pv 12) (nomark _)) (pa_cons (pe_cmpR (op_eqOwn T.m_House_eq (ok_House_eq T) (hr.mono (by decide)) T.House_eq.b pass0) (pv 12) (pv 6) (nomark _)) (pa_cons (pe_cmpR (op_neOwn T.m_House_eq T.ne_House T.ob_House (ok_House_eq T) (hr.mono (by decide)) T.House_eq.b pass0) (pv 6) (pv 12) (nomark _)) pa_nil)))) pa_nil)) (pe_callB (K_repr (K := K) rfl hG hr.units) (by rfl) T.n_repr (by decide +kernel) (pa_cons (pe_lst (pa_cons pe_bl (pa_cons pe_bl (pa_cons pe_bl pa_nil)))) pa_nil)) (nomark _)) (pss_one (ps_ret pe_bl)) pss_nil)
      (pss_one (ps_for PassesOwn.never rfl (K_pil (K := K) rfl (pe_call (ok_lnear T) (hr.mono (by decide)) (by rfl) T.lnear.m T.lnear.F.kp T.lnear.b .nil pass0 (pa_cons (pv 1) (pa_cons (pv 4) pa_nil)))) (pg_name (i := 13) sc_law.nd rfl (by first | exact Or.inl rfl | exact Or.inr rfl))
      (pss_cons (ps_set (i := 12) sc_law.nd rfl (by first | exact Or.inl rfl | exact Or.inr rfl) (pe_call (ok_lmade T) (hr.mono (by decide)) (by rfl) T.lmade.m T.lmade.F.kp T.lmade.b .nil pass0 (pa_cons (pv 13) pa_nil)))
      (pss_one (ps_if (pt_cmpR op_ne (pe_callB (K_repr (K := K) rfl hG hr.units) (by rfl) T.n_repr (by decide +kernel) (pa_cons (pe_lst (pa_cons (pe_cmpR (op_eqOwn T.m_House_eq (ok_House_eq T) (hr.mono (by decide)) T.House_eq.b pass0) (pv 6) (pv 12) (nomark _)) (pa_cons (pe_cmpR (op_eqOwn T.m_House_eq (ok_House_eq T) (hr.mono (by decide)) T.House_eq.b pass0) (pv 12) (pv 6) (nomark _)) (pa_cons (pe_cmpR (op_neOwn T.m_House_eq T.ne_House T.ob_House (ok_House_eq T) (hr.mono (by decide)) T.House_eq.b pass0) (pv 6) (pv 12) (nomark _)) pa_nil)))) pa_nil)) (pe_callB (K_repr (K := K) rfl hG hr.units) (by rfl) T.n_repr (by decide +kernel) (pa_cons (pe_lst (pa_cons pe_bl (pa_cons pe_bl (pa_cons pe_bl pa_nil)))) pa_nil)) (nomark _)) (pss_one (ps_ret pe_bl)) pss_nil))))))))))))))))))))
      (pss_one (ps_ret pe_bl)))), ?_⟩
    refine ⟨.ref a, rfl, a, ns, rfl, hS, hl, fun b H1 nb s1 hb1 => ?_⟩
    refine q_forR1 (n := 5) (ea_cons ev_c ea_nil) (by decide) (fun i σ H' => ∃ x2 x3 x4 x5 x6 x7 x8 x9 x10 x11 x12 x13 x14 x15 x16 x17 x18, σ = [some (.ref a), some (.ref b), x2, x3, x4, x5, x6, x7, x8, x9, x10, x11, x12, x13, x14, x15, x16, x17, x18] ∧ Bag H' b)
      (fun H2 e2 => ⟨none, none, none, none, none, none, none, none, none, none, none, none, none, none, none, none, none, rfl, hb1.same e2⟩) ?_ (fun σ H' _ => q H')
    rintro t σ H2 ht ⟨x2, x3, x4, x5, x6, x7, x8, x9, x10, x11, x12, x13, x14, x15, x16, x17, x18, rfl, hb2⟩
    show tSeq _ _ _ [some (.ref a), some (.ref b), some (.int (t : Nat)), x3, x4, x5, x6, x7, x8, x9, x10, x11, x12, x13, x14, x15, x16, x17, x18] H2
    refine q_asgDr (b := b) (P := fun v => 1 ≤ v ∧ v ≤ 10) (evdr_op (f := fun x y => x + y) (P1 := fun v => v = 1) (evdr_ev hb2 ev_c) (fun H4 d4 => evdr_take d4.bag rfl (by decide) (by decide)) (fun x y H1 p1 p2 => rv_I0) fun x y p1 p2 => ⟨by omega, by omega⟩) fun H3 v d3 hv => ?_
    obtain ⟨n, rfl⟩ := Int.eq_ofNat_of_zero_le (show 0 ≤ v by omega)
    have n0 : 0 < n := by omega
    have n10 : n ≤ 10 := by omega
    show tSeq _ _ _ [some (.ref a), some (.ref b), some (.int (t : Nat)), some (.int (n : Nat)), x4, x5, x6, x7, x8, x9, x10, x11, x12, x13, x14, x15, x16, x17, x18] H3
    refine q_callA40 ⟨_, rfl, _, rfl, b, n, rfl, d3.bag, n0, by omega, fun H4 w h nw d4 hw ok hn sm => ?_⟩
    subst hn
    have b4 := d4.bag
    show tSeq _ _ _ [some (.ref a), some (.ref b), some (.int (t : Nat)), some (.int (h.n : Nat)), some (.ref w), x5, x6, x7, x8, x9, x10, x11, x12, x13, x14, x15, x16, x17, x18] H4
    clear d3 d4 nw hb2
    refine q_worldB (ev_var rfl) hw fun y1 y2 y3 y4 y5 H5 e5 h1 h2 h3 h4 h5 ⟨n1, n2, n3, n4, n5⟩ => ?_
    have hw5 := hw.ex e5
    have b5 := b4.same e5
    clear hw e5
    show tSeq _ _ _ [some (.ref a), some (.ref b), some (.int (t : Nat)), some (.int (h.n : Nat)), some (.ref w), x5, x6, x7, x8, x9, x10, x11, x12, x13, some (.ref y1), some (.ref y2), some (.ref y3), some (.ref y4), some (.ref y5)] H5
    refine ⟨_, rfl, _, rfl, b, y3, _, rfl, b5, h3, n3, fun H6 p3 np3 d6 hp3 => ⟨_, rfl, _, rfl, b, y4, _, rfl, d6.bag, d6.but _ _ n4 h4, n4, fun H7 p4 np4 d7 hp4 => ⟨_, rfl, _, rfl, b, y5, _, rfl, d7.bag, (d6.trans d7).but _ _ n5 h5, n5, fun H8 p5 np5 d8 hp5 => ⟨by show 3 ≤ sizeLine; decide, fun G nG => ?_⟩⟩⟩⟩
    rw [row_someN] at h4 hp4
    have f4 : H5 p4 = none := d6.free np4
    have f5 : H5 p5 = none := (d6.trans d7).free np5
    have fG : H5 G = none := (d6.trans (d7.trans d8)).free nG
    have b3 := b5.ne np3
    have b4' := b5.ne f4
    have b5' := b5.ne f5
    have bG := b5.ne fG
    have i3 : Giv H8 p3 (ovR h.n h.r) := Giv.drew d8 b3 (Giv.drew d7 b3 hp3)
    have i4 : Giv H8 p4 (ovR h.n fun i => some (h.k i)) := Giv.drew d8 b4' hp4
    have i5 : Giv H8 p5 (ovR h.n h.d) := hp5
    have neG : ∀ {q : Addr} {xs : List V}, Giv H8 q xs → G ≠ q := fun g z => by
      subst z
      rcases g with g | g <;> (rw [nG] at g; cases g)
    have e9 : Ex H8 (upd H8 G (.lst [.ref p3, .ref p4, .ref p5])) := Ex.new nG
    have hG9 : upd H8 G (.lst [.ref p3, .ref p4, .ref p5]) G = some (.lst [.ref p3, .ref p4, .ref p5]) := upd_same
    generalize upd H8 G (.lst [.ref p3, .ref p4, .ref p5]) = H9 at e9 hG9 ⊢
    have d59 : Drew b H5 H9 := (d6.trans (d7.trans d8)).same e9
    have b9 := d59.bag
    have j3 := Giv.ex e9 i3
    have j4 := Giv.ex e9 i4
    have j5 := Giv.ex e9 i5
    clear hp3 hp4 hp5 d6 d7 d8 np4 np5 nG
    show tSeq _ _ _ [some (.ref a), some (.ref b), some (.int (t : Nat)), some (.int (h.n : Nat)), some (.ref w), some (.ref G), x6, x7, x8, x9, x10, x11, x12, x13, some (.ref y1), some (.ref y2), some (.ref y3), some (.ref y4), some (.ref y5)] H9
    have n480 : h.n ≤ 10000 := by omega
    refine q_ifK (b := b) (M := fun σ' H' => ∃ G' v3 v4 v5, σ' = [some (.ref a), some (.ref b), some (.int (t : Nat)), some (.int (h.n : Nat)), some (.ref w), some (.ref G'), x6, x7, x8, x9, x10, x11, x12, x13, some (.ref y1), some (.ref y2), some (.ref y3), some (.ref y4), some (.ref y5)] ∧ Drew b H9 H' ∧ H' G' = some (.lst [v3, v4, v5]) ∧ G' ≠ b ∧ OptP v3 p3 (ovR h.n h.r) .non ∧ OptP v4 p4 (ovR h.n fun i => some (h.k i)) (.int 0) ∧ OptP v5 p5 (ovR h.n h.d) .non ∧ G' ≠ p3 ∧ G' ≠ p4 ∧ G' ≠ p5 ∧ H5 G' = none)
      (etdr_op (evdr_take b9 rfl (by decide) (by decide)) fun v H1 => rv_eq rfl) ?_ (fun H10 d10 kk => ?_) fun H10 d10 => ⟨G, .ref p3, .ref p4, .ref p5, rfl, d10, d10.but _ _ bG hG9, bG, .inl rfl, .inl rfl, .inl rfl, neG i3, neG i4, neG i5, fG⟩
    rotate_left
    · have k3 := (d59.trans d10).but _ _ n3 h3
      have k4 := (d59.trans d10).but _ _ n4 h4
      have k5 := (d59.trans d10).but _ _ n5 h5
      have kG := d10.but _ _ bG hG9
      obtain ⟨v3, o3, ev3⟩ := ev_optIf (K := K) (te := tOp (rIxL K) (tVar 5) (tC (.int 0))) (dd := none) (i := 16) (i3 := 3) (σ := [some (.ref a), some (.ref b), some (.int (t : Nat)), some (.int (h.n : Nat)), some (.ref w), some (.ref G), x6, x7, x8, x9, x10, x11, x12, x13, some (.ref y1), some (.ref y2), some (.ref y3), some (.ref y4), some (.ref y5)]) rfl rfl k3 n480 (ev_ix (ev_var rfl) ev_c (SqL.of kG) (v := .ref p3) rfl)
      obtain ⟨v4, o4, ev4⟩ := ev_optIf (K := K) (te := tOp (rIxL K) (tVar 5) (tC (.int 1))) (dd := some 0) (i := 17) (i3 := 3) (σ := [some (.ref a), some (.ref b), some (.int (t : Nat)), some (.int (h.n : Nat)), some (.ref w), some (.ref G), x6, x7, x8, x9, x10, x11, x12, x13, some (.ref y1), some (.ref y2), some (.ref y3), some (.ref y4), some (.ref y5)]) rfl rfl k4 n480 (ev_ix (ev_var rfl) ev_c (SqL.of kG) (v := .ref p4) rfl)
      refine q_asgL (xs := [v3, v4, .ref p5]) (el_lst (ea_cons ev3 (ea_cons ev4 (ea_cons (ev_ix (ev_var rfl) ev_c (SqL.of kG) (v := .ref p5) rfl) ea_nil))) (by show 3 ≤ 100000; decide)) fun G' H11 nG' e11 hG' => ?_
      show tAsg _ _ _ [some (.ref a), some (.ref b), some (.int (t : Nat)), some (.int (h.n : Nat)), some (.ref w), some (.ref G'), x6, x7, x8, x9, x10, x11, x12, x13, some (.ref y1), some (.ref y2), some (.ref y3), some (.ref y4), some (.ref y5)] H11
      obtain ⟨v5, o5, ev5⟩ := ev_optIf (K := K) (te := tOp (rIxL K) (tVar 5) (tC (.int 2))) (dd := none) (i := 18) (i3 := 3) (σ := [some (.ref a), some (.ref b), some (.int (t : Nat)), some (.int (h.n : Nat)), some (.ref w), some (.ref G'), x6, x7, x8, x9, x10, x11, x12, x13, some (.ref y1), some (.ref y2), some (.ref y3), some (.ref y4), some (.ref y5)]) rfl rfl (e11 _ _ k5) n480 (ev_ix (ev_var rfl) ev_c (SqL.of hG') (v := .ref p5) rfl)
      have f9 : H9 G' = none := d10.free nG'
      have neG' : ∀ {q : Addr} {xs : List V}, Giv H9 q xs → G' ≠ q := fun g z => by
        subst z
        rcases g with g | g <;> (rw [f9] at g; cases g)
      refine s_setL (xs := [v3, v4, .ref p5]) (j := 2) hG' ev5 (ev_var rfl) ev_c (by show 2 < 3; decide) fun H12 e12 => kk _ _ ⟨G', v3, v4, v5, rfl, ((d10.same e11).same e12).put f9, upd_same, b9.ne f9, o3, o4, o5, neG' j3, neG' j4, neG' j5, d59.free f9⟩
    rintro σ' H10 ⟨G', v3, v4, v5, rfl, d10, hG', bG', o3, o4, o5, g3, g4, g5, fG'⟩
    have d510 := d59.trans d10
    have hw10 := hw5.drew b5 d510
    have k1 := d510.but _ _ n1 h1
    have k2 := d510.but _ _ n2 h2
    have l3 := Giv.drew d10 b3 j3
    have l4 := Giv.drew d10 b4' j4
    have l5 := Giv.drew d10 b5' j5
    have pos : 0 < h.n := ok.v.pos
    have hc : EvC K T.C_Clock.C (tMake T.C_Clock.C (spInit K T.C_Clock.C) [] E0 (tCons (tVar 14) tNil)) [some (.ref a), some (.ref b), some (.int (t : Nat)), some (.int (h.n : Nat)), some (.ref w), some (.ref G'), x6, x7, x8, x9, x10, x11, x12, x13, some (.ref y1), some (.ref y2), some (.ref y3), some (.ref y4), some (.ref y5)] H10 h.ns := ec_makeW (ev_var rfl) (SqL.of k1) ok.v
    refine q_makeK (ta_cons40 (hc H10 (Ex.refl H10) _ fun c H11 e11 hC => ?_))
    have hf : EvR K T.C_Needs.C "_row" h.n (tMake T.C_Needs.C (spRowInit K T.C_Needs.C "_row") [] E0 (tCons (tVar 15) tNil)) [some (.ref a), some (.ref b), some (.int (t : Nat)), some (.int (h.n : Nat)), some (.ref w), some (.ref G'), x6, x7, x8, x9, x10, x11, x12, x13, some (.ref y1), some (.ref y2), some (.ref y3), some (.ref y4), some (.ref y5)] H11 h.g := er_make (ev_var rfl) (SqL.of (e11 _ _ k2)) pos (by omega) (fun i hi => ok.g0 i hi)
    refine ta_cons40 (hf H11 (Ex.refl H11) _ fun f H12 e12 hF => ?_)
    have e1012 := e11.trans e12
    have kG := e1012 _ _ hG'
    have hx : EvA (tCons (tOp (rIxL K) (tVar 5) (tC (.int 0))) (tCons (tOp (rIxL K) (tVar 5) (tC (.int 1))) (tCons (tOp (rIxL K) (tVar 5) (tC (.int 2))) tNil))) [some (.ref a), some (.ref b), some (.int (t : Nat)), some (.int (h.n : Nat)), some (.ref w), some (.ref G'), x6, x7, x8, x9, x10, x11, x12, x13, some (.ref y1), some (.ref y2), some (.ref y3), some (.ref y4), some (.ref y5)] H12 [v3, v4, v5] := ea_cons (ev_ix (ev_var rfl) ev_c (SqL.of kG) rfl) (ea_cons (ev_ix (ev_var rfl) ev_c (SqL.of kG) rfl) (ea_cons (ev_ix (ev_var rfl) ev_c (SqL.of kG) rfl) ea_nil))
    refine ta_nil40 ?_
    refine hx H12 (Ex.refl H12) _ fun H13 e13 => ⟨rfl, rfl, fun p dx np nd nex => ?_⟩
    have e1013 := e1012.trans e13
    have sp : Same H13 (upd (upd H13 dx (.own p)) p (.ins T.C_House.C dx [])) := made_same np nd fun b o _ h => h
    have at_ : ∀ {v d : V} {q : Addr} {xs : List V}, OptP v q xs d → Giv H10 q xs → OptAt K (upd (upd H13 dx (.own p)) p (.ins T.C_House.C dx [])) v xs d := fun o g => (o.at_ (Giv.ex e1013 g)).same sp
    have a4 := at_ o4 l4
    rw [← row_someN] at a4
    refine ⟨p, dx, c, f, v3, v4, v5, h, rfl, upd_same, ok, ((hC.same e12).same e13).same sp, (hF.same e13).same sp, at_ o3 l3, a4, at_ o5 l5, fun H14 kb14 hP14 => ⟨rfl, ?_⟩⟩
    have e14 : Ex H10 H14 := e1013.trans (made_same np nd kb14)
    have d514 := d510.same e14
    dsimp only
    show tSeq _ _ _ [some (.ref a), some (.ref b), some (.int (t : Nat)), some (.int (h.n : Nat)), some (.ref w), some (.ref G'), some (.ref p), x7, x8, x9, x10, x11, x12, x13, some (.ref y1), some (.ref y2), some (.ref y3), some (.ref y4), some (.ref y5)] H14
    have t3 : LT H14 p3 := LT.ex e14 (l3.elim (fun h => .inl ⟨_, h⟩) fun h => .inr ⟨_, h⟩)
    have t4 : LT H14 p4 := LT.ex e14 (l4.elim (fun h => .inl ⟨_, h⟩) fun h => .inr ⟨_, h⟩)
    have t5 : LT H14 p5 := LT.ex e14 (l5.elim (fun h => .inl ⟨_, h⟩) fun h => .inr ⟨_, h⟩)
    have mG : H14 G' = some (.lst [v3, v4, v5]) := e14 _ _ hG'
    have vs_ : ∀ v ∈ [v3, v4, v5], v = .non ∨ v = .ref p3 ∨ v = .ref p4 ∨ v = .ref p5 := fun v hv => by
      rcases List.mem_cons.mp hv with rfl | hv
      · exact o3.elim (fun z => .inr (.inl z)) fun z => .inl z.1
      rcases List.mem_cons.mp hv with rfl | hv
      · exact o4.elim (fun z => .inr (.inr (.inl z))) fun z => .inl z.1
      · obtain rfl := List.mem_singleton.mp hv
        exact o5.elim (fun z => .inr (.inr (.inr z))) fun z => .inl z.1
    clear hx hc hf a4 at_ sp kb14 np nd nex e1013 e13 kG e1012 e12 e11 hC hF l3 l4 l5 k1 k2 hw10 d510 hG' d10 o3 o4 o5 j3 j4 j5 i3 i4 i5 neG hG9 e9 d59 b9 fG bG
    refine q_forLn (a := G') (xs := [v3, v4, v5]) (ev_var rfl) (SqL.of mG) (fun i σ' H' => ∃ z7, σ' = [some (.ref a), some (.ref b), some (.int (t : Nat)), some (.int (h.n : Nat)), some (.ref w), some (.ref G'), some (.ref p), z7, x8, x9, x10, x11, x12, x13, some (.ref y1), some (.ref y2), some (.ref y3), some (.ref y4), some (.ref y5)] ∧ Drew b H5 H' ∧ HouseAt K T.C_House.C T.C_Clock.C T.C_Needs.C H' p h ∧ H' G' = some (.lst [v3, v4, v5]) ∧ LT H' p3 ∧ LT H' p4 ∧ LT H' p5) (fun H15 e15 => ⟨_, rfl, d514.same e15, hP14.same e15, e15 _ _ mG, t3.ex e15, t4.ex e15, t5.ex e15⟩) (fun i σ' H' _ ⟨_, _, _, _, z, _⟩ => SqL.of z) ?_ ?_
    · rintro i v σ' H15 hv ⟨z7, rfl, d15, hP15, mG15, t3, t4, t5⟩
      have mv := vs_ v (List.mem_of_getElem? hv)
      show tIfS _ _ _ _ [some (.ref a), some (.ref b), some (.int (t : Nat)), some (.int (h.n : Nat)), some (.ref w), some (.ref G'), some (.ref p), some v, x8, x9, x10, x11, x12, x13, some (.ref y1), some (.ref y2), some (.ref y3), some (.ref y4), some (.ref y5)] H15
      rcases mv with rfl | mv
      · exact s_clearNo rfl fun H16 e16 => ⟨_, rfl, d15.same e16, hP15.same e16, e16 _ _ mG15, t3.ex e16, t4.ex e16, t5.ex e16⟩
      obtain ⟨q, rfl, lt, fq, nq⟩ : ∃ q : Addr, v = .ref q ∧ LT H15 q ∧ H5 q = none ∧ G' ≠ q := by
        rcases mv with e | e | e
        · exact ⟨p3, e, t3, np3, g3⟩
        · exact ⟨p4, e, t4, f4, g4⟩
        · exact ⟨p5, e, t5, f5, g5⟩
      refine s_clearIf rfl lt (fun H16 e16 => ⟨_, rfl, d15.same e16, hP15.same e16, e16 _ _ mG15, t3.ex e16, t4.ex e16, t5.ex e16⟩) fun H16 ys e16 hq => ⟨_, rfl, (d15.same e16).put fq, (hP15.same e16).but ⟨_, hq⟩ (But.refl q H16).upd, by rw [upd_ne nq]; exact e16 _ _ mG15, (t3.ex e16).put, (t4.ex e16).put, (t5.ex e16).put⟩
    · rintro σ' H15 ⟨z7, rfl, d15, hP15, _⟩
      have hw15 := hw5.drew b5 d15
      have k1 := d15.but _ _ n1 h1
      have k2 := d15.but _ _ n2 h2
      have k3 := d15.but _ _ n3 h3
      have k4 := d15.but _ _ n4 h4
      have k5 := d15.but _ _ n5 h5
      have b15 := d15.bag
      clear d15 hw5 b5 vs_ mG t3 t4 t5 d514 e14 hP14 np3 f4 f5 h1 h2 h3 h4 h5
      show tSeq _ _ _ [some (.ref a), some (.ref b), some (.int (t : Nat)), some (.int (h.n : Nat)), some (.ref w), some (.ref G'), some (.ref p), z7, x8, x9, x10, x11, x12, x13, some (.ref y1), some (.ref y2), some (.ref y3), some (.ref y4), some (.ref y5)] H15
      refine q_forR1 (n := 3) (ea_cons ev_c ea_nil) (by decide) (fun i σ' H' => ∃ z8, σ' = [some (.ref a), some (.ref b), some (.int (t : Nat)), some (.int (h.n : Nat)), some (.ref w), some (.ref G'), some (.ref p), z7, z8, x9, x10, x11, x12, x13, some (.ref y1), some (.ref y2), some (.ref y3), some (.ref y4), some (.ref y5)] ∧ Drew b H15 H') (fun H16 e16 => ⟨_, rfl, Drew.of b15 e16⟩) ?_ ?_
      · rintro i σ' H16 hi ⟨z8, rfl, d16⟩
        show tIfS _ _ _ _ [some (.ref a), some (.ref b), some (.int (t : Nat)), some (.int (h.n : Nat)), some (.ref w), some (.ref G'), some (.ref p), z7, some (.int (i : Nat)), x9, x10, x11, x12, x13, some (.ref y1), some (.ref y2), some (.ref y3), some (.ref y4), some (.ref y5)] H16
        exact s_ifDrF (b := b) (fun Q kk => ⟨_, rfl, _, rfl, _, rfl, b, p, w, h, rfl, d16.bag, hP15.drew b15 d16, hw15.drew b15 d16, sm, fun H17 d17 => ⟨true, rfl, kk H17 d17⟩⟩) fun H17 d17 => ⟨_, rfl, d16.trans d17⟩
      · rintro σ' H16 ⟨z8, rfl, d16⟩
        have hw16 := hw15.drew b15 d16
        have hP16 := hP15.drew b15 d16
        replace k1 := d16.but _ _ n1 k1
        replace k2 := d16.but _ _ n2 k2
        replace k3 := d16.but _ _ n3 k3
        replace k4 := d16.but _ _ n4 k4
        replace k5 := d16.but _ _ n5 k5
        have b16 := d16.bag
        clear d16 hw15 hP15 b15
        show tSeq _ _ _ [some (.ref a), some (.ref b), some (.int (t : Nat)), some (.int (h.n : Nat)), some (.ref w), some (.ref G'), some (.ref p), z7, z8, x9, x10, x11, x12, x13, some (.ref y1), some (.ref y2), some (.ref y3), some (.ref y4), some (.ref y5)] H16
        refine q_callA40 ⟨_, rfl, b, w, h, rfl, hw16, ok, fun H17 o no e17 hO => ?_⟩
        show tSeq _ _ _ [some (.ref a), some (.ref b), some (.int (t : Nat)), some (.int (h.n : Nat)), some (.ref w), some (.ref G'), some (.ref p), z7, z8, some (.ref o), x10, x11, x12, x13, some (.ref y1), some (.ref y2), some (.ref y3), some (.ref y4), some (.ref y5)] H17
        have hP17 := hP16.same e17
        have c17 := e17 _ _ k1
        have ecl : EvC K T.C_Clock.C (tMake T.C_Clock.C (spInit K T.C_Clock.C) [] E0 (tCons (tVar 14) tNil)) [some (.ref a), some (.ref b), some (.int (t : Nat)), some (.int (h.n : Nat)), some (.ref w), some (.ref G'), some (.ref p), z7, z8, some (.ref o), x10, x11, x12, x13, some (.ref y1), some (.ref y2), some (.ref y3), some (.ref y4), some (.ref y5)] H17 h.ns := ec_makeW (ev_var rfl) (SqL.of c17) ok.v
        refine q_asgD (K := K) (ds := [.bool true, .bool false, .bool false, .bool false, .bool false]) (evd_lst (evds_cons (evd_bl (ev_is (ev_eqH (neg := false) (ev_var rfl) hP17 (ev_var rfl) hO) (by rw [hEqB_self]; rfl))) (evds_cons (evd_bl (ev_is (ev_eqH (neg := true) (ev_var rfl) hP17 (ev_var rfl) hO) (by rw [hEqB_self]; rfl)))
          (evds_cons (evd_bl (ev_eqHx (y := .non) (t := .none) (ev_var rfl) hP17 fun H1 e Q kk => ⟨_, rfl, kk _ _ H1 (Ex.refl H1) (ty_list (SqL.of (e _ _ c17))) nf_list T.kl_House⟩))
          (evds_cons (evd_bl (ev_eqHx (y := .non) (t := .none) (ev_var rfl) hP17 fun H1 e Q kk => ecl H1 e _ fun c H2 e2 hC => by
            obtain ⟨dx, u, i1, _⟩ := hC.ex
            exact kk _ _ H2 e2 (.base (.ins i1 T.C_Clock.cl T.ic_Clock T.ig_Clock T.it_Clock T.ob_Clock)) T.nf_House T.kc_House))
          (evds_cons (evd_bl (ev_eqHx (y := .non) (t := .none) (ev_var rfl) hP17 fun H1 e Q kk => kk _ _ H1 (Ex.refl H1) (.base (.int 3)) nf_int T.ki_House)) evds_nil))))) (by show 5 ≤ 100000; decide)) fun fo H18 e18 hfo => ?_
        show tSeq _ _ _ [some (.ref a), some (.ref b), some (.int (t : Nat)), some (.int (h.n : Nat)), some (.ref w), some (.ref G'), some (.ref p), z7, z8, some (.ref o), some (.ref fo), x11, x12, x13, some (.ref y1), some (.ref y2), some (.ref y3), some (.ref y4), some (.ref y5)] H18
        refine q_skip (et_reprSame (evd_at (ev_var rfl) hfo) (evd_lst (evds_cons (evd_bl ev_c) (evds_cons (evd_bl ev_c) (evds_cons (evd_bl ev_c) (evds_cons (evd_bl ev_c) (evds_cons (evd_bl ev_c) evds_nil))))) (by show 5 ≤ 100000; decide)) (fine_bools (bs := [true, false, false, false, false]) (by decide)) (by decide) (by decide)) fun H19 e19 => ?_
        have e169 := e17.trans (e18.trans e19)
        have b19 := b16.same e169
        have hP19 := hP16.same e169
        have hw19 := hw16.ex e169
        replace k1 := e169 _ _ k1
        replace k2 := e169 _ _ k2
        replace k3 := e169 _ _ k3
        replace k4 := e169 _ _ k4
        replace k5 := e169 _ _ k5
        have pos2 : 0 < h.ns.length := pos
        have top2 : h.ns.length ≤ 10 := n10
        clear hfo hO e17 e18 e19 e169 ecl c17 hP17 hP16 hw16 b16 no
        refine q_five (l1 := iv h.ns ++ [V.int (lastS h.ns)]) (l2 := iv (Clk.row h.n h.g) ++ [V.int 0]) (l3 := ovR h.n h.r ++ [V.non]) (l4 := (ovR h.n fun i => some (h.k i)) ++ [V.int 0]) (l5 := ovR h.n h.d ++ [V.non])
          (el_catVL (ev_var rfl) k1 (el_lst (ea_cons (ev_is (ev_mx ev_c (ev_op (ev_ix (ev_var rfl) (ev_un ev_c fun H1 _ Q kk => ⟨1, rfl, kk H1 (Ex.refl H1)⟩) (SqL.of k1) (at_neg1 pos2)) ev_c rv_I0)) rfl) ea_nil) (by show 1 ≤ 100000; decide)) (by rw [iv_len]; show h.ns.length + 1 ≤ 10000; omega))
          (el_catVL (ev_var rfl) k2 (el_lst (vs := [.int 0]) (ea_cons ev_c ea_nil) (by show 1 ≤ 100000; decide)) (by rw [iv_len, Clk.row_len]; show h.n + 1 ≤ 10000; omega))
          (el_catVL (ev_var rfl) k3 (el_lst (vs := [.non]) (ea_cons ev_c ea_nil) (by show 1 ≤ 100000; decide)) (by rw [ovR_len]; show h.n + 1 ≤ 10000; omega))
          (el_catVL (ev_var rfl) k4 (el_lst (vs := [.int 0]) (ea_cons ev_c ea_nil) (by show 1 ≤ 100000; decide)) (by rw [ovR_len]; show h.n + 1 ≤ 10000; omega))
          (el_catVL (ev_var rfl) k5 (el_lst (vs := [.non]) (ea_cons ev_c ea_nil) (by show 1 ≤ 100000; decide)) (by rw [ovR_len]; show h.n + 1 ≤ 10000; omega))
          fun lo z1 z2 z3 z4 z5 H20 e20 hlo q1 q2 q3 q4 q5 ⟨m1, m2, m3, m4, m5⟩ => ?_
        have wl : WorldAt b H20 lo h.longer := by
          refine ⟨z1, z2, z3, z4, z5, hlo, ?_, ?_, ?_, ?_, ?_, b19.ne m1, b19.ne m2, b19.ne m3, b19.ne m4, b19.ne m5⟩
          · rw [q1]
            show _ = some (HO.lst (iv (h.ns ++ [lastS h.ns])))
            unfold iv
            rw [List.map_append]
            rfl
          · rw [q2, row_more0, longer_n]
            rfl
          · rw [q3, ovR_more, longer_n]
            rfl
          · rw [q4, ← row_someN, row_more0, longer_n]
            rfl
          · rw [q5, ovR_more, longer_n]
            rfl
        show tSeq _ _ _ [some (.ref a), some (.ref b), some (.int (t : Nat)), some (.int (h.n : Nat)), some (.ref w), some (.ref G'), some (.ref p), z7, z8, some (.ref o), some (.ref fo), some (.ref lo), x12, x13, some (.ref y1), some (.ref y2), some (.ref y3), some (.ref y4), some (.ref y5)] H20
        refine q_callA40 ⟨_, rfl, b, lo, h.longer, rfl, wl, longer_ok ok (by omega), fun H21 ot no e21 hOt => ?_⟩
        show tSeq _ _ _ [some (.ref a), some (.ref b), some (.int (t : Nat)), some (.int (h.n : Nat)), some (.ref w), some (.ref G'), some (.ref p), z7, z8, some (.ref o), some (.ref fo), some (.ref lo), some (.ref ot), x13, some (.ref y1), some (.ref y2), some (.ref y3), some (.ref y4), some (.ref y5)] H21
        have hP21 := (hP19.same e20).same e21
        have three : ∀ {σ : L2.St} {H' : Hp}, EvD K (tLst (tCons (tC (.bl false)) (tCons (tC (.bl false)) (tCons (tC (.bl true)) tNil)))) σ H' (.list [.bool false, .bool false, .bool true]) := evd_lst (evds_cons (evd_bl ev_c) (evds_cons (evd_bl ev_c) (evds_cons (evd_bl ev_c) evds_nil))) (by show 3 ≤ 100000; decide)
        refine q_skip (et_reprSame (evd_three (ev_var rfl) hP21 (ev_var rfl) hOt (longer_ne h)) three (fine_bools (bs := [false, false, true]) (by decide)) (by decide) (by decide)) fun H22 e22 => ?_
        have e1922 := e20.trans (e21.trans e22)
        show tFor _ _ _ _ [some (.ref a), some (.ref b), some (.int (t : Nat)), some (.int (h.n : Nat)), some (.ref w), some (.ref G'), some (.ref p), z7, z8, some (.ref o), some (.ref fo), some (.ref lo), some (.ref ot), x13, some (.ref y1), some (.ref y2), some (.ref y3), some (.ref y4), some (.ref y5)] H22
        refine ⟨_, rfl, _, rfl, b, w, h, rfl, b19.same e1922, hw19.ex e1922, ok, fun H23 l as nl d23 hl near => ⟨l, rfl, ⟨_, SqL.of hl⟩, ?_⟩⟩
        have hP23 := (hP19.same e1922).drew (b19.same e1922) d23
        refine for_list (fun i σ' H' => ∃ z12 z13, σ' = [some (.ref a), some (.ref b), some (.int (t : Nat)), some (.int (h.n : Nat)), some (.ref w), some (.ref G'), some (.ref p), z7, z8, some (.ref o), some (.ref fo), some (.ref lo), z12, z13, some (.ref y1), some (.ref y2), some (.ref y3), some (.ref y4), some (.ref y5)] ∧ Ex H23 H') ⟨_, _, rfl, Ex.refl H23⟩ (fun i σ' H' _ ⟨_, _, _, e⟩ => SqL.of (e _ _ hl)) ?_ ?_
        · rintro i v σ' H24 hv ⟨z12, z13, rfl, e24⟩
          obtain ⟨aa, maa, rfl⟩ := List.mem_map.mp (List.mem_of_getElem? hv)
          obtain ⟨h', w', ok', ne'⟩ := near aa maa
          show tSeq _ _ _ [some (.ref a), some (.ref b), some (.int (t : Nat)), some (.int (h.n : Nat)), some (.ref w), some (.ref G'), some (.ref p), z7, z8, some (.ref o), some (.ref fo), some (.ref lo), z12, some (.ref aa), some (.ref y1), some (.ref y2), some (.ref y3), some (.ref y4), some (.ref y5)] H24
          refine q_callA40 ⟨_, rfl, b, aa, h', rfl, w'.ex e24, ok', fun H25 o2 no2 e25 hO2 => ?_⟩
          show tIfS _ _ _ _ [some (.ref a), some (.ref b), some (.int (t : Nat)), some (.int (h.n : Nat)), some (.ref w), some (.ref G'), some (.ref p), z7, z8, some (.ref o), some (.ref fo), some (.ref lo), some (.ref o2), some (.ref aa), some (.ref y1), some (.ref y2), some (.ref y3), some (.ref y4), some (.ref y5)] H25
          exact s_when (b := false) (et_reprSame (evd_three (ev_var rfl) (hP23.same (e24.trans e25)) (ev_var rfl) hO2 ne') three (fine_bools (bs := [false, false, true]) (by decide)) (by decide) (by decide)) (fun z => nomatch z) fun _ H26 e26 => ⟨_, _, rfl, e24.trans (e25.trans e26)⟩
        · rintro σ' H24 ⟨z12, z13, rfl, e24⟩
          exact ⟨_, _, _, _, _, _, _, _, _, _, _, _, _, _, _, _, _, rfl, d23.bag.same e24⟩

end
end Hn
namespace Hn
open PySem L2
open PyProof.Rows hiding St
def ck0 : Ck := fun K => (He.Fa.glo "NeedError").ok K
def ck1 : Ck := fun K => (He.Fa.cls "Clock").ok K
def ck2 : Ck := fun K => (He.Fa.glo "Clock").ok K
def ck3 : Ck := fun K => (He.Fa.cls "Needs").ok K
def ck4 : Ck := fun K => (He.Fa.glo "Needs").ok K
def ck5 : Ck := fun K => (He.Fa.cls "House").ok K
def ck6 : Ck := fun K => (He.Fa.glo "House").ok K
def ck7 : Ck := fun K => (He.Fa.glo "_law_bag").ok K
def ck8 : Ck := fun K => (He.Fa.glo "_law_take").ok K
def ck9 : Ck := fun K => (He.Fa.glo "_law_number").ok K
def ck10 : Ck := fun K => (He.Fa.glo "_law_numbers").ok K
def ck11 : Ck := fun K => (He.Fa.glo "_law_stays").ok K
def ck12 : Ck := fun K => (He.Fa.glo "_law_free_world").ok K
def ck13 : Ck := fun K => (He.Fa.glo "_law_given").ok K
def ck14 : Ck := fun K => propB K (He.ga K "Needs") "hours"
def ck15 : Ck := fun K => propB K (He.ga K "Clock") "hours"
def ck16 : Ck := fun K => (He.Fa.glo "_is_row").ok K
def ck17 : Ck := fun K => (He.Fa.glo "is_integer").ok K
def ck18 : Ck := fun K => (He.Fa.glo "is_count").ok K
def ck19 : Ck := fun K => (He.Fa.glo "are_limits").ok K
def ck20 : Ck := fun K => (He.Fa.glo "are_counts").ok K
def ck21 : Ck := fun K => (He.Fa.glo "_filled_row").ok K
def ck22 : Ck := fun K => (He.Fa.mkr "House").ok K
def ck23 : Ck := fun K => (He.Fa.glo "is_row").ok K
def ck24 : Ck := fun K => (He.Fa.glo "_is_from_one").ok K
def ck25 : Ck := fun K => (He.Fa.glo "_are_stays").ok K
def ck26 : Ck := fun K => (He.Fa.glo "_check_nobody_overtaken").ok K
def ck27 : Ck := fun K => (He.Fa.mkr "Clock").ok K
def ck28 : Ck := fun K => (He.Fa.glo "is_count_row").ok K
def ck29 : Ck := fun K => (He.Fa.mkr "Needs").ok K
def ck30 : Ck := fun K => (He.Fa.glo "_law_mixed").ok K
def ck31 : Ck := fun K => propB K (He.ga K "House") "hours"
def ck32 : Ck := fun K => (He.Fa.meth "Clock" "__iter__").ok K
def ck33 : Ck := fun K => (He.Fa.meth "Clock" "__len__").ok K
def ck34 : Ck := fun K => propB K (He.ga K "House") "clock"
def ck35 : Ck := fun K => (He.Fa.meth "Needs" "__iter__").ok K
def ck36 : Ck := fun K => (He.Fa.meth "Needs" "__len__").ok K
def ck37 : Ck := fun K => propB K (He.ga K "House") "needs"
def ck38 : Ck := fun K => (He.Fa.meth "Clock" "__eq__").ok K
def ck39 : Ck := fun K => (He.Fa.meth "House" "rooms").ok K
def ck40 : Ck := fun K => (He.Fa.meth "House" "kept").ok K
def ck41 : Ck := fun K => (He.Fa.meth "House" "doors").ok K
def ck42 : Ck := fun K => (He.Fa.glo "_law_right").ok K
def ck43 : Ck := fun K => (He.Fa.glo "_law_made").ok K
def ck44 : Ck := fun K => (He.Fa.meth "Needs" "__eq__").ok K
def ck45 : Ck := fun K => (He.Fa.meth "House" "__eq__").ok K
def ck46 : Ck := fun K => (He.Fa.glo "_law_near").ok K
def ck47 : Ck := fun K => (He.Fa.glo "law").ok K
def ck48 : Ck := fun K => decide (PySem.W.subIn K (.ref (He.ga K "NeedError")) (.type "BaseException") = some true)
def ck49 : Ck := fun K => decide (PySem.W.isClsIn K (He.ga K "NeedError") = true)
def ck50 : Ck := fun K => decide (PySem.W.typeIn K (.ref (He.ga K "NeedError")) = some (.type "type"))
def ck51 : Ck := fun K => (He.Fa.noat "Clock" "_stays").ok K
def ck52 : Ck := fun K => decide (PySem.W.findIn K (.ref (He.ga K "Clock")) "__class__" = some (some (.builtin "object.__class__")))
def ck53 : Ck := fun K => decide (PySem.W.specialIn K (.builtin "object.__class__") "__get__" = some (some (.builtin "getset_descriptor.__get__")))
def ck54 : Ck := fun K => decide (PySem.W.takesIn K (.builtin "object.__class__") = some true)
def ck55 : Ck := fun K => decide (PySem.W.mroIn K (He.ga K "Clock") (.type "object") = some true)
def ck56 : Ck := fun K => decide (PySem.W.findIn K (.ref (He.ga K "Clock")) "__ne__" = some (some (.builtin "object.__ne__")))
def ck57 : Ck := fun K => (He.Fa.noat "Needs" "_row").ok K
def ck58 : Ck := fun K => decide (PySem.W.findIn K (.ref (He.ga K "Needs")) "__class__" = some (some (.builtin "object.__class__")))
def ck59 : Ck := fun K => decide (PySem.W.specialIn K (.builtin "object.__class__") "__get__" = some (some (.builtin "getset_descriptor.__get__")))
def ck60 : Ck := fun K => decide (PySem.W.takesIn K (.builtin "object.__class__") = some true)
def ck61 : Ck := fun K => decide (PySem.W.mroIn K (He.ga K "Needs") (.type "object") = some true)
def ck62 : Ck := fun K => decide (PySem.W.findIn K (.ref (He.ga K "Needs")) "__ne__" = some (some (.builtin "object.__ne__")))
def ck63 : Ck := fun K => decide (PySem.W.selfFirst K (He.ga K "Needs") = true)
def ck64 : Ck := fun K => (He.Fa.noat "House" "_clock").ok K
def ck65 : Ck := fun K => (He.Fa.noat "House" "_needs").ok K
def ck66 : Ck := fun K => (He.Fa.noat "House" "_rooms").ok K
def ck67 : Ck := fun K => (He.Fa.noat "House" "_kept").ok K
def ck68 : Ck := fun K => (He.Fa.noat "House" "_doors").ok K
def ck69 : Ck := fun K => decide (PySem.W.findIn K (.ref (He.ga K "House")) "__class__" = some (some (.builtin "object.__class__")))
def ck70 : Ck := fun K => decide (PySem.W.specialIn K (.builtin "object.__class__") "__get__" = some (some (.builtin "getset_descriptor.__get__")))
def ck71 : Ck := fun K => decide (PySem.W.takesIn K (.builtin "object.__class__") = some true)
def ck72 : Ck := fun K => decide (PySem.W.mroIn K (He.ga K "House") (.type "object") = some true)
def ck73 : Ck := fun K => decide (PySem.W.findIn K (.ref (He.ga K "House")) "__ne__" = some (some (.builtin "object.__ne__")))
def ck74 : Ck := fun K => decide (PySem.W.kitOne K (.type "list") (.ref (He.ga K "House")) = some false)
def ck75 : Ck := fun K => decide (PySem.W.kitOne K (.type "int") (.ref (He.ga K "House")) = some false)
def ck76 : Ck := fun K => decide (PySem.W.kitOne K (.ref (He.ga K "Clock")) (.ref (He.ga K "House")) = some false)
def ck77 : Ck := fun K => decide (PySem.W.notFirst K (He.ga K "House") (.ref (He.ga K "Clock")) = true)
def ck78 : Ck := fun K => (He.Fa.int "MOST_HOURS" 48).ok K
def ck79 : Ck := fun K => (He.Fa.free "zip").ok K
def ck80 : Ck := fun K => (He.Fa.free "len").ok K
def ck81 : Ck := fun K => (He.Fa.free "range").ok K
def ck82 : Ck := fun K => (He.Fa.free "abs").ok K
def ck83 : Ck := fun K => (He.Fa.free "int").ok K
def ck84 : Ck := fun K => (He.Fa.free "bool").ok K
def ck85 : Ck := fun K => (He.Fa.free "list").ok K
def ck86 : Ck := fun K => (He.Fa.free "tuple").ok K
def ck87 : Ck := fun K => (He.Fa.free "isinstance").ok K
def ck88 : Ck := fun K => (He.Fa.free "all").ok K
def ck89 : Ck := fun K => (He.Fa.free "min").ok K
def ck90 : Ck := fun K => (He.Fa.free "max").ok K
def ck91 : Ck := fun K => (He.Fa.free "enumerate").ok K
def ck92 : Ck := fun K => (He.Fa.free "repr").ok K
def ck93 : Ck := fun K => (He.Fa.free "iter").ok K
def fe0 : FnE := ⟨fun K => (He.ga K "_law_bag"), "_law_bag", "_law_bag", s_lbag, []⟩
def fe1 : FnE := ⟨fun K => (He.ga K "_law_take"), "_law_take", "_law_take", s_ltake, []⟩
def fe2 : FnE := ⟨fun K => (He.ga K "_law_number"), "_law_number", "_law_number", s_lnumber, []⟩
def fe3 : FnE := ⟨fun K => (He.ga K "_law_numbers"), "_law_numbers", "_law_numbers", s_lnumbers, []⟩
def fe4 : FnE := ⟨fun K => (He.ga K "_law_stays"), "_law_stays", "_law_stays", s_lstays, []⟩
def fe5 : FnE := ⟨fun K => (He.ga K "_law_free_world"), "_law_free_world", "_law_free_world", s_lfree_world, []⟩
def fe6 : FnE := ⟨fun K => (He.ga K "_law_given"), "_law_given", "_law_given", s_lgiven, []⟩
def fe7 : FnE := ⟨fun K => (recF K (He.ma K (He.ga K "Needs") "hours") "property"), "hours", "Needs.hours", s_Needs_hours, []⟩
def fe8 : FnE := ⟨fun K => (recF K (He.ma K (He.ga K "Clock") "hours") "property"), "hours", "Clock.hours", s_Clock_hours, []⟩
def fe9 : FnE := ⟨fun K => (He.ga K "_is_row"), "_is_row", "_is_row", s_p_is_row, []⟩
def fe10 : FnE := ⟨fun K => (He.ga K "is_integer"), "is_integer", "is_integer", s_is_integer, []⟩
def fe11 : FnE := ⟨fun K => (He.ga K "is_count"), "is_count", "is_count", s_is_count, []⟩
def fe12 : FnE := ⟨fun K => (He.ga K "are_limits"), "are_limits", "are_limits", s_are_limits, []⟩
def fe13 : FnE := ⟨fun K => (He.ga K "are_counts"), "are_counts", "are_counts", s_are_counts, []⟩
def fe14 : FnE := ⟨fun K => (He.ga K "_filled_row"), "_filled_row", "_filled_row", s_filled_row, []⟩
def fe15 : FnE := ⟨fun K => (He.ma K (He.ga K "House") "__init__"), "__init__", "House.__init__", s_House_init, [("rooms", .non), ("kept", .non), ("doors", .non)]⟩
def fe16 : FnE := ⟨fun K => (He.ga K "is_row"), "is_row", "is_row", s_is_row, []⟩
def fe17 : FnE := ⟨fun K => (He.ga K "_is_from_one"), "_is_from_one", "_is_from_one", s_is_from_one, []⟩
def fe18 : FnE := ⟨fun K => (He.ga K "_are_stays"), "_are_stays", "_are_stays", s_are_stays, []⟩
def fe19 : FnE := ⟨fun K => (He.ga K "_check_nobody_overtaken"), "_check_nobody_overtaken", "_check_nobody_overtaken", s_check_nobody_overtaken, []⟩
def fe20 : FnE := ⟨fun K => (He.ma K (He.ga K "Clock") "__init__"), "__init__", "Clock.__init__", s_Clock_init, []⟩
def fe21 : FnE := ⟨fun K => (He.ga K "is_count_row"), "is_count_row", "is_count_row", s_is_count_row, []⟩
def fe22 : FnE := ⟨fun K => (He.ma K (He.ga K "Needs") "__init__"), "__init__", "Needs.__init__", s_Needs_init, []⟩
def fe23 : FnE := ⟨fun K => (He.ga K "_law_mixed"), "_law_mixed", "_law_mixed", s_lmixed, []⟩
def fe24 : FnE := ⟨fun K => (recF K (He.ma K (He.ga K "House") "hours") "property"), "hours", "House.hours", s_House_hours, []⟩
def fe25 : FnE := ⟨fun K => (He.ma K (He.ga K "Clock") "__iter__"), "__iter__", "Clock.__iter__", s_Clock_iter, []⟩
def fe26 : FnE := ⟨fun K => (He.ma K (He.ga K "Clock") "__len__"), "__len__", "Clock.__len__", s_Clock_len, []⟩
def fe27 : FnE := ⟨fun K => (recF K (He.ma K (He.ga K "House") "clock") "property"), "clock", "House.clock", s_House_clock, []⟩
def fe28 : FnE := ⟨fun K => (He.ma K (He.ga K "Needs") "__iter__"), "__iter__", "Needs.__iter__", s_Needs_iter, []⟩
def fe29 : FnE := ⟨fun K => (He.ma K (He.ga K "Needs") "__len__"), "__len__", "Needs.__len__", s_Needs_len, []⟩
def fe30 : FnE := ⟨fun K => (recF K (He.ma K (He.ga K "House") "needs") "property"), "needs", "House.needs", s_House_needs, []⟩
def fe31 : FnE := ⟨fun K => (He.ma K (He.ga K "Clock") "__eq__"), "__eq__", "Clock.__eq__", s_Clock_eq, []⟩
def fe32 : FnE := ⟨fun K => (He.ma K (He.ga K "House") "rooms"), "rooms", "House.rooms", s_House_rooms, []⟩
def fe33 : FnE := ⟨fun K => (He.ma K (He.ga K "House") "kept"), "kept", "House.kept", s_House_kept, []⟩
def fe34 : FnE := ⟨fun K => (He.ma K (He.ga K "House") "doors"), "doors", "House.doors", s_House_doors, []⟩
def fe35 : FnE := ⟨fun K => (He.ga K "_law_right"), "_law_right", "_law_right", s_lright, []⟩
def fe36 : FnE := ⟨fun K => (He.ga K "_law_made"), "_law_made", "_law_made", s_lmade, []⟩
def fe37 : FnE := ⟨fun K => (He.ma K (He.ga K "Needs") "__eq__"), "__eq__", "Needs.__eq__", s_Needs_eq, []⟩
def fe38 : FnE := ⟨fun K => (He.ma K (He.ga K "House") "__eq__"), "__eq__", "House.__eq__", s_House_eq, []⟩
def fe39 : FnE := ⟨fun K => (He.ga K "_law_near"), "_law_near", "_law_near", s_lnear, []⟩
def fe40 : FnE := ⟨fun K => (He.ga K "law"), "law", "law", s_law, []⟩
def ckl_0 : List Ck := [ck0, ck1, ck2, ck3, ck4, ck5, ck6, ck7, ck8, ck9, ck10, ck11, ck12, ck13, ck14, ck15, ck16, ck17, ck18, ck19, ck20, ck21, ck22, ck23, ck24, ck25, ck26, ck27, ck28, ck29]
def ckl_1 : List Ck := [ck30, ck31, ck32, ck33, ck34, ck35, ck36, ck37, ck38, ck39, ck40, ck41, ck42, ck43, ck44, ck45, ck46, ck47, ck48, ck49, ck50, ck51, ck52, ck53, ck54, ck55, ck56, ck57, ck58, ck59]
def ckl_2 : List Ck := [ck60, ck61, ck62, ck63, ck64, ck65, ck66, ck67, ck68, ck69, ck70, ck71, ck72, ck73, ck74, ck75, ck76, ck77, ck78, ck79, ck80, ck81, ck82, ck83, ck84, ck85, ck86, ck87, ck88, ck89]
def ckl_3 : List Ck := [ck90, ck91, ck92, ck93]
def ckl : List Ck := ckl_0 ++ (ckl_1 ++ (ckl_2 ++ (ckl_3)))
def fel_0 : List FnE := [fe0, fe1, fe2, fe3, fe4, fe5, fe6, fe7, fe8, fe9, fe10, fe11, fe12, fe13, fe14, fe15, fe16, fe17, fe18, fe19, fe20, fe21, fe22, fe23, fe24, fe25, fe26, fe27, fe28, fe29]
def fel_1 : List FnE := [fe30, fe31, fe32, fe33, fe34, fe35, fe36, fe37, fe38, fe39, fe40]
def fel : List FnE := fel_0 ++ (fel_1)
def loose_0 : List PySem.Str := ["_wall", "NeedError", "Wrong", "Overtaken", "NoHour", "Unlike", "MOST_HOURS", "is_integer", "is_count", "is_hour", "are_counts", "are_limits", "_is_row", "is_row", "is_count_row", "check_hour", "check_alike", "turned_row", "Clock", "_is_from_one", "_are_stays", "_check_nobody_overtaken", "Needs", "House", "_filled_row", "_law_bag", "_law_take", "_law_mixed", "_law_number", "_law_stays"]
def loose_1 : List PySem.Str := ["_law_numbers", "_law_free_world", "_law_made", "_law_given", "_law_right", "_law_near"]
def loose : List PySem.Str := loose_0 ++ (loose_1)
def ob (s : PySem.W.SharedT) : AlX := obsXG ckl fel (HandSHeadRun.getT s)
theorem ob_eq (s : PySem.W.SharedT) : ob s = (hookX ckl fel).obs s.abs := obsXG_eq (HandSHeadRun.getT_eq s)
set_option maxHeartbeats 0 in
theorem run (w : World) : HandSHeadRun.RunEq (PySem.W.OpenLaw.row PySem.Challenge.rw_hourneeds_k40_houses_told) (PySem.W.view (PySem.W.OpenLaw.row PySem.Challenge.rw_hourneeds_k40_houses_told).prog [43]) (hookX ckl fel) ob 60000 loose w := by
  intro os
  kernel_rfl
theorem facts2 {P : Program} {w : World} {K : PySem.W.Frag} {h : Heap} {mg : Str → Option Value} {fa : Addr} (X : K.In h) (G : h.Ns mainGlobals mg) (hfa : mg ("law" : Str) = some (.ref fa)) (c : SaysX ckl fel K) :
    ∃ fd : FuncData, (∀ (s : Shared) (v : Value), BindsTo s fd ⟨[v], []⟩ [("_law_script", v)]) ∧ ∀ base : Heap, K.In base → base.Ns mainGlobals mg → FnG P w K mg base 8 fa fd ["_law_script"] (spLaw K) := by
  obtain ⟨fd0, F0, kw0⟩ : ∃ fd, Fun K "_law_bag" "_law_bag" s_lbag (He.ga K "_law_bag") fd ∧ He.kwdB K fd.kwdefaults [] = true := c.def_ (d := fe0) 0 (by kernel_rfl)
  obtain ⟨fd1, F1, kw1⟩ : ∃ fd, Fun K "_law_take" "_law_take" s_ltake (He.ga K "_law_take") fd ∧ He.kwdB K fd.kwdefaults [] = true := c.def_ (d := fe1) 1 (by kernel_rfl)
  obtain ⟨fd2, F2, kw2⟩ : ∃ fd, Fun K "_law_number" "_law_number" s_lnumber (He.ga K "_law_number") fd ∧ He.kwdB K fd.kwdefaults [] = true := c.def_ (d := fe2) 2 (by kernel_rfl)
  obtain ⟨fd3, F3, kw3⟩ : ∃ fd, Fun K "_law_numbers" "_law_numbers" s_lnumbers (He.ga K "_law_numbers") fd ∧ He.kwdB K fd.kwdefaults [] = true := c.def_ (d := fe3) 3 (by kernel_rfl)
  obtain ⟨fd4, F4, kw4⟩ : ∃ fd, Fun K "_law_stays" "_law_stays" s_lstays (He.ga K "_law_stays") fd ∧ He.kwdB K fd.kwdefaults [] = true := c.def_ (d := fe4) 4 (by kernel_rfl)
  obtain ⟨fd5, F5, kw5⟩ : ∃ fd, Fun K "_law_free_world" "_law_free_world" s_lfree_world (He.ga K "_law_free_world") fd ∧ He.kwdB K fd.kwdefaults [] = true := c.def_ (d := fe5) 5 (by kernel_rfl)
  obtain ⟨fd6, F6, kw6⟩ : ∃ fd, Fun K "_law_given" "_law_given" s_lgiven (He.ga K "_law_given") fd ∧ He.kwdB K fd.kwdefaults [] = true := c.def_ (d := fe6) 6 (by kernel_rfl)
  obtain ⟨fd7, F7, kw7⟩ : ∃ fd, Fun K "hours" "Needs.hours" s_Needs_hours (recF K (He.ma K (He.ga K "Needs") "hours") "property") fd ∧ He.kwdB K fd.kwdefaults [] = true := c.def_ (d := fe7) 7 (by kernel_rfl)
  obtain ⟨fd8, F8, kw8⟩ : ∃ fd, Fun K "hours" "Clock.hours" s_Clock_hours (recF K (He.ma K (He.ga K "Clock") "hours") "property") fd ∧ He.kwdB K fd.kwdefaults [] = true := c.def_ (d := fe8) 8 (by kernel_rfl)
  obtain ⟨fd9, F9, kw9⟩ : ∃ fd, Fun K "_is_row" "_is_row" s_p_is_row (He.ga K "_is_row") fd ∧ He.kwdB K fd.kwdefaults [] = true := c.def_ (d := fe9) 9 (by kernel_rfl)
  obtain ⟨fd10, F10, kw10⟩ : ∃ fd, Fun K "is_integer" "is_integer" s_is_integer (He.ga K "is_integer") fd ∧ He.kwdB K fd.kwdefaults [] = true := c.def_ (d := fe10) 10 (by kernel_rfl)
  obtain ⟨fd11, F11, kw11⟩ : ∃ fd, Fun K "is_count" "is_count" s_is_count (He.ga K "is_count") fd ∧ He.kwdB K fd.kwdefaults [] = true := c.def_ (d := fe11) 11 (by kernel_rfl)
  obtain ⟨fd12, F12, kw12⟩ : ∃ fd, Fun K "are_limits" "are_limits" s_are_limits (He.ga K "are_limits") fd ∧ He.kwdB K fd.kwdefaults [] = true := c.def_ (d := fe12) 12 (by kernel_rfl)
  obtain ⟨fd13, F13, kw13⟩ : ∃ fd, Fun K "are_counts" "are_counts" s_are_counts (He.ga K "are_counts") fd ∧ He.kwdB K fd.kwdefaults [] = true := c.def_ (d := fe13) 13 (by kernel_rfl)
  obtain ⟨fd14, F14, kw14⟩ : ∃ fd, Fun K "_filled_row" "_filled_row" s_filled_row (He.ga K "_filled_row") fd ∧ He.kwdB K fd.kwdefaults [] = true := c.def_ (d := fe14) 14 (by kernel_rfl)
  obtain ⟨fd15, F15, kw15⟩ : ∃ fd, Fun K "__init__" "House.__init__" s_House_init (He.ma K (He.ga K "House") "__init__") fd ∧ He.kwdB K fd.kwdefaults [("rooms", .non), ("kept", .non), ("doors", .non)] = true := c.def_ (d := fe15) 15 (by kernel_rfl)
  obtain ⟨fd16, F16, kw16⟩ : ∃ fd, Fun K "is_row" "is_row" s_is_row (He.ga K "is_row") fd ∧ He.kwdB K fd.kwdefaults [] = true := c.def_ (d := fe16) 16 (by kernel_rfl)
  obtain ⟨fd17, F17, kw17⟩ : ∃ fd, Fun K "_is_from_one" "_is_from_one" s_is_from_one (He.ga K "_is_from_one") fd ∧ He.kwdB K fd.kwdefaults [] = true := c.def_ (d := fe17) 17 (by kernel_rfl)
  obtain ⟨fd18, F18, kw18⟩ : ∃ fd, Fun K "_are_stays" "_are_stays" s_are_stays (He.ga K "_are_stays") fd ∧ He.kwdB K fd.kwdefaults [] = true := c.def_ (d := fe18) 18 (by kernel_rfl)
  obtain ⟨fd19, F19, kw19⟩ : ∃ fd, Fun K "_check_nobody_overtaken" "_check_nobody_overtaken" s_check_nobody_overtaken (He.ga K "_check_nobody_overtaken") fd ∧ He.kwdB K fd.kwdefaults [] = true := c.def_ (d := fe19) 19 (by kernel_rfl)
  obtain ⟨fd20, F20, kw20⟩ : ∃ fd, Fun K "__init__" "Clock.__init__" s_Clock_init (He.ma K (He.ga K "Clock") "__init__") fd ∧ He.kwdB K fd.kwdefaults [] = true := c.def_ (d := fe20) 20 (by kernel_rfl)
  obtain ⟨fd21, F21, kw21⟩ : ∃ fd, Fun K "is_count_row" "is_count_row" s_is_count_row (He.ga K "is_count_row") fd ∧ He.kwdB K fd.kwdefaults [] = true := c.def_ (d := fe21) 21 (by kernel_rfl)
  obtain ⟨fd22, F22, kw22⟩ : ∃ fd, Fun K "__init__" "Needs.__init__" s_Needs_init (He.ma K (He.ga K "Needs") "__init__") fd ∧ He.kwdB K fd.kwdefaults [] = true := c.def_ (d := fe22) 22 (by kernel_rfl)
  obtain ⟨fd23, F23, kw23⟩ : ∃ fd, Fun K "_law_mixed" "_law_mixed" s_lmixed (He.ga K "_law_mixed") fd ∧ He.kwdB K fd.kwdefaults [] = true := c.def_ (d := fe23) 23 (by kernel_rfl)
  obtain ⟨fd24, F24, kw24⟩ : ∃ fd, Fun K "hours" "House.hours" s_House_hours (recF K (He.ma K (He.ga K "House") "hours") "property") fd ∧ He.kwdB K fd.kwdefaults [] = true := c.def_ (d := fe24) 24 (by kernel_rfl)
  obtain ⟨fd25, F25, kw25⟩ : ∃ fd, Fun K "__iter__" "Clock.__iter__" s_Clock_iter (He.ma K (He.ga K "Clock") "__iter__") fd ∧ He.kwdB K fd.kwdefaults [] = true := c.def_ (d := fe25) 25 (by kernel_rfl)
  obtain ⟨fd26, F26, kw26⟩ : ∃ fd, Fun K "__len__" "Clock.__len__" s_Clock_len (He.ma K (He.ga K "Clock") "__len__") fd ∧ He.kwdB K fd.kwdefaults [] = true := c.def_ (d := fe26) 26 (by kernel_rfl)
  obtain ⟨fd27, F27, kw27⟩ : ∃ fd, Fun K "clock" "House.clock" s_House_clock (recF K (He.ma K (He.ga K "House") "clock") "property") fd ∧ He.kwdB K fd.kwdefaults [] = true := c.def_ (d := fe27) 27 (by kernel_rfl)
  obtain ⟨fd28, F28, kw28⟩ : ∃ fd, Fun K "__iter__" "Needs.__iter__" s_Needs_iter (He.ma K (He.ga K "Needs") "__iter__") fd ∧ He.kwdB K fd.kwdefaults [] = true := c.def_ (d := fe28) 28 (by kernel_rfl)
  obtain ⟨fd29, F29, kw29⟩ : ∃ fd, Fun K "__len__" "Needs.__len__" s_Needs_len (He.ma K (He.ga K "Needs") "__len__") fd ∧ He.kwdB K fd.kwdefaults [] = true := c.def_ (d := fe29) 29 (by kernel_rfl)
  obtain ⟨fd30, F30, kw30⟩ : ∃ fd, Fun K "needs" "House.needs" s_House_needs (recF K (He.ma K (He.ga K "House") "needs") "property") fd ∧ He.kwdB K fd.kwdefaults [] = true := c.def_ (d := fe30) 30 (by kernel_rfl)
  obtain ⟨fd31, F31, kw31⟩ : ∃ fd, Fun K "__eq__" "Clock.__eq__" s_Clock_eq (He.ma K (He.ga K "Clock") "__eq__") fd ∧ He.kwdB K fd.kwdefaults [] = true := c.def_ (d := fe31) 31 (by kernel_rfl)
  obtain ⟨fd32, F32, kw32⟩ : ∃ fd, Fun K "rooms" "House.rooms" s_House_rooms (He.ma K (He.ga K "House") "rooms") fd ∧ He.kwdB K fd.kwdefaults [] = true := c.def_ (d := fe32) 32 (by kernel_rfl)
  obtain ⟨fd33, F33, kw33⟩ : ∃ fd, Fun K "kept" "House.kept" s_House_kept (He.ma K (He.ga K "House") "kept") fd ∧ He.kwdB K fd.kwdefaults [] = true := c.def_ (d := fe33) 33 (by kernel_rfl)
  obtain ⟨fd34, F34, kw34⟩ : ∃ fd, Fun K "doors" "House.doors" s_House_doors (He.ma K (He.ga K "House") "doors") fd ∧ He.kwdB K fd.kwdefaults [] = true := c.def_ (d := fe34) 34 (by kernel_rfl)
  obtain ⟨fd35, F35, kw35⟩ : ∃ fd, Fun K "_law_right" "_law_right" s_lright (He.ga K "_law_right") fd ∧ He.kwdB K fd.kwdefaults [] = true := c.def_ (d := fe35) 35 (by kernel_rfl)
  obtain ⟨fd36, F36, kw36⟩ : ∃ fd, Fun K "_law_made" "_law_made" s_lmade (He.ga K "_law_made") fd ∧ He.kwdB K fd.kwdefaults [] = true := c.def_ (d := fe36) 36 (by kernel_rfl)
  obtain ⟨fd37, F37, kw37⟩ : ∃ fd, Fun K "__eq__" "Needs.__eq__" s_Needs_eq (He.ma K (He.ga K "Needs") "__eq__") fd ∧ He.kwdB K fd.kwdefaults [] = true := c.def_ (d := fe37) 37 (by kernel_rfl)
  obtain ⟨fd38, F38, kw38⟩ : ∃ fd, Fun K "__eq__" "House.__eq__" s_House_eq (He.ma K (He.ga K "House") "__eq__") fd ∧ He.kwdB K fd.kwdefaults [] = true := c.def_ (d := fe38) 38 (by kernel_rfl)
  obtain ⟨fd39, F39, kw39⟩ : ∃ fd, Fun K "_law_near" "_law_near" s_lnear (He.ga K "_law_near") fd ∧ He.kwdB K fd.kwdefaults [] = true := c.def_ (d := fe39) 39 (by kernel_rfl)
  obtain ⟨fd40, F40, kw40⟩ : ∃ fd, Fun K "law" "law" s_law (He.ga K "law") fd ∧ He.kwdB K fd.kwdefaults [] = true := c.def_ (d := fe40) 40 (by kernel_rfl)
  have neB : PySem.W.subIn K (.ref (He.ga K "NeedError")) (.type "BaseException") = some true := of_decide_eq_true (c.fact (f := ck48) 48 (by kernel_rfl))
  have neI : PySem.W.isClsIn K (He.ga K "NeedError") = true := of_decide_eq_true (c.fact (f := ck49) 49 (by kernel_rfl))
  have neT : PySem.W.typeIn K (.ref (He.ga K "NeedError")) = some (.type "type") := of_decide_eq_true (c.fact (f := ck50) 50 (by kernel_rfl))
  have xic_Clock : PySem.W.findIn K (.ref (He.ga K "Clock")) "__class__" = some (some (.builtin "object.__class__")) := of_decide_eq_true (c.fact (f := ck52) 52 (by kernel_rfl))
  have xig_Clock : PySem.W.specialIn K (.builtin "object.__class__") "__get__" = some (some (.builtin "getset_descriptor.__get__")) := of_decide_eq_true (c.fact (f := ck53) 53 (by kernel_rfl))
  have xit_Clock : PySem.W.takesIn K (.builtin "object.__class__") = some true := of_decide_eq_true (c.fact (f := ck54) 54 (by kernel_rfl))
  have xob_Clock : PySem.W.mroIn K (He.ga K "Clock") (.type "object") = some true := of_decide_eq_true (c.fact (f := ck55) 55 (by kernel_rfl))
  have xne_Clock : PySem.W.findIn K (.ref (He.ga K "Clock")) "__ne__" = some (some (.builtin "object.__ne__")) := of_decide_eq_true (c.fact (f := ck56) 56 (by kernel_rfl))
  have xic_Needs : PySem.W.findIn K (.ref (He.ga K "Needs")) "__class__" = some (some (.builtin "object.__class__")) := of_decide_eq_true (c.fact (f := ck58) 58 (by kernel_rfl))
  have xig_Needs : PySem.W.specialIn K (.builtin "object.__class__") "__get__" = some (some (.builtin "getset_descriptor.__get__")) := of_decide_eq_true (c.fact (f := ck59) 59 (by kernel_rfl))
  have xit_Needs : PySem.W.takesIn K (.builtin "object.__class__") = some true := of_decide_eq_true (c.fact (f := ck60) 60 (by kernel_rfl))
  have xob_Needs : PySem.W.mroIn K (He.ga K "Needs") (.type "object") = some true := of_decide_eq_true (c.fact (f := ck61) 61 (by kernel_rfl))
  have xne_Needs : PySem.W.findIn K (.ref (He.ga K "Needs")) "__ne__" = some (some (.builtin "object.__ne__")) := of_decide_eq_true (c.fact (f := ck62) 62 (by kernel_rfl))
  have xsf_Needs : PySem.W.selfFirst K (He.ga K "Needs") = true := of_decide_eq_true (c.fact (f := ck63) 63 (by kernel_rfl))
  have xic_House : PySem.W.findIn K (.ref (He.ga K "House")) "__class__" = some (some (.builtin "object.__class__")) := of_decide_eq_true (c.fact (f := ck69) 69 (by kernel_rfl))
  have xig_House : PySem.W.specialIn K (.builtin "object.__class__") "__get__" = some (some (.builtin "getset_descriptor.__get__")) := of_decide_eq_true (c.fact (f := ck70) 70 (by kernel_rfl))
  have xit_House : PySem.W.takesIn K (.builtin "object.__class__") = some true := of_decide_eq_true (c.fact (f := ck71) 71 (by kernel_rfl))
  have xob_House : PySem.W.mroIn K (He.ga K "House") (.type "object") = some true := of_decide_eq_true (c.fact (f := ck72) 72 (by kernel_rfl))
  have xne_House : PySem.W.findIn K (.ref (He.ga K "House")) "__ne__" = some (some (.builtin "object.__ne__")) := of_decide_eq_true (c.fact (f := ck73) 73 (by kernel_rfl))
  have xkl_House : PySem.W.kitOne K (.type "list") (.ref (He.ga K "House")) = some false := of_decide_eq_true (c.fact (f := ck74) 74 (by kernel_rfl))
  have xki_House : PySem.W.kitOne K (.type "int") (.ref (He.ga K "House")) = some false := of_decide_eq_true (c.fact (f := ck75) 75 (by kernel_rfl))
  have xkc_House : PySem.W.kitOne K (.ref (He.ga K "Clock")) (.ref (He.ga K "House")) = some false := of_decide_eq_true (c.fact (f := ck76) 76 (by kernel_rfl))
  have xnf_House : PySem.W.notFirst K (He.ga K "House") (.ref (He.ga K "Clock")) = true := of_decide_eq_true (c.fact (f := ck77) 77 (by kernel_rfl))
  obtain ⟨tc_MOST_HOURS, k_MOST_HOURS⟩ := He.int_ok X G (x := "MOST_HOURS") (i := 48) (c.fact (f := ck78) 78 (by kernel_rfl))
  have e := hfa.symm.trans (He.glo_ok X G (x := "law") (c.fact (f := ck47) 47 (by kernel_rfl)))
  cases e
  let T : Env K mg := {
    C_NeedError := ⟨(He.ga K "NeedError"), He.glo_ok X G (x := "NeedError") (c.fact (f := ck0) 0 (by kernel_rfl))⟩
    C_Clock := ⟨(He.ga K "Clock"), He.cls_ok (x := "Clock") (c.fact (f := ck1) 1 (by kernel_rfl)), He.glo_ok X G (x := "Clock") (c.fact (f := ck2) 2 (by kernel_rfl))⟩
    C_Needs := ⟨(He.ga K "Needs"), He.cls_ok (x := "Needs") (c.fact (f := ck3) 3 (by kernel_rfl)), He.glo_ok X G (x := "Needs") (c.fact (f := ck4) 4 (by kernel_rfl))⟩
    C_House := ⟨(He.ga K "House"), He.cls_ok (x := "House") (c.fact (f := ck5) 5 (by kernel_rfl)), He.glo_ok X G (x := "House") (c.fact (f := ck6) 6 (by kernel_rfl))⟩
    lbag := ⟨(He.ga K "_law_bag"), _, F0, He.glo_ok X G (x := "_law_bag") (c.fact (f := ck7) 7 (by kernel_rfl)), (F0.binds (ps := ["_law_script"]) fun _ _ _ _ _ _ us hl => match us, hl with | [_], _ => rfl)⟩
    ltake := ⟨(He.ga K "_law_take"), _, F1, He.glo_ok X G (x := "_law_take") (c.fact (f := ck8) 8 (by kernel_rfl)), (F1.binds (ps := ["_law_bag_here", "_law_upto"]) fun _ _ _ _ _ _ us hl => match us, hl with | [_, _], _ => rfl)⟩
    lnumber := ⟨(He.ga K "_law_number"), _, F2, He.glo_ok X G (x := "_law_number") (c.fact (f := ck9) 9 (by kernel_rfl)), (F2.binds (ps := ["_law_bag_here"]) fun _ _ _ _ _ _ us hl => match us, hl with | [_], _ => rfl)⟩
    lnumbers := ⟨(He.ga K "_law_numbers"), _, F3, He.glo_ok X G (x := "_law_numbers") (c.fact (f := ck10) 10 (by kernel_rfl)), (F3.binds (ps := ["_law_bag_here", "_law_many"]) fun _ _ _ _ _ _ us hl => match us, hl with | [_, _], _ => rfl)⟩
    lstays := ⟨(He.ga K "_law_stays"), _, F4, He.glo_ok X G (x := "_law_stays") (c.fact (f := ck11) 11 (by kernel_rfl)), (F4.binds (ps := ["_law_bag_here", "_law_many"]) fun _ _ _ _ _ _ us hl => match us, hl with | [_, _], _ => rfl)⟩
    lfree_world := ⟨(He.ga K "_law_free_world"), _, F5, He.glo_ok X G (x := "_law_free_world") (c.fact (f := ck12) 12 (by kernel_rfl)), (F5.binds (ps := ["_law_bag_here", "_law_many"]) fun _ _ _ _ _ _ us hl => match us, hl with | [_, _], _ => rfl)⟩
    lgiven := ⟨(He.ga K "_law_given"), _, F6, He.glo_ok X G (x := "_law_given") (c.fact (f := ck13) 13 (by kernel_rfl)), (F6.binds (ps := ["_law_bag_here", "_law_row"]) fun _ _ _ _ _ _ us hl => match us, hl with | [_, _], _ => rfl)⟩
    Needs_hours := ⟨(recF K (He.ma K (He.ga K "Needs") "hours") "property"), _, F7, (F7.binds (ps := ["self"]) fun _ _ _ _ _ _ us hl => match us, hl with | [_], _ => rfl)⟩
    p_Needs_hours_p := (He.ma K (He.ga K "Needs") "hours")
    p_Needs_hours := propB_ok (c.fact (f := ck14) 14 (by kernel_rfl))
    Clock_hours := ⟨(recF K (He.ma K (He.ga K "Clock") "hours") "property"), _, F8, (F8.binds (ps := ["self"]) fun _ _ _ _ _ _ us hl => match us, hl with | [_], _ => rfl)⟩
    p_Clock_hours_p := (He.ma K (He.ga K "Clock") "hours")
    p_Clock_hours := propB_ok (c.fact (f := ck15) 15 (by kernel_rfl))
    p_is_row := ⟨(He.ga K "_is_row"), _, F9, He.glo_ok X G (x := "_is_row") (c.fact (f := ck16) 16 (by kernel_rfl)), (F9.binds (ps := ["hours", "thing"]) fun _ _ _ _ _ _ us hl => match us, hl with | [_, _], _ => rfl)⟩
    is_integer := ⟨(He.ga K "is_integer"), _, F10, He.glo_ok X G (x := "is_integer") (c.fact (f := ck17) 17 (by kernel_rfl)), (F10.binds (ps := ["thing"]) fun _ _ _ _ _ _ us hl => match us, hl with | [_], _ => rfl)⟩
    is_count := ⟨(He.ga K "is_count"), _, F11, He.glo_ok X G (x := "is_count") (c.fact (f := ck18) 18 (by kernel_rfl)), (F11.binds (ps := ["thing"]) fun _ _ _ _ _ _ us hl => match us, hl with | [_], _ => rfl)⟩
    are_limits := ⟨(He.ga K "are_limits"), _, F12, He.glo_ok X G (x := "are_limits") (c.fact (f := ck19) 19 (by kernel_rfl)), (F12.binds (ps := ["hours", "thing"]) fun _ _ _ _ _ _ us hl => match us, hl with | [_, _], _ => rfl)⟩
    are_counts := ⟨(He.ga K "are_counts"), _, F13, He.glo_ok X G (x := "are_counts") (c.fact (f := ck20) 20 (by kernel_rfl)), (F13.binds (ps := ["hours", "thing"]) fun _ _ _ _ _ _ us hl => match us, hl with | [_, _], _ => rfl)⟩
    filled_row := ⟨(He.ga K "_filled_row"), _, F14, He.glo_ok X G (x := "_filled_row") (c.fact (f := ck21) 21 (by kernel_rfl)), (F14.binds (ps := ["hours", "row", "item"]) fun _ _ _ _ _ _ us hl => match us, hl with | [_, _, _], _ => rfl)⟩
    House_init := ⟨(He.ma K (He.ga K "House") "__init__"), _, F15⟩
    kb_House_init := Kw.kb (F15.funD (kws := [("rooms", .non), ("kept", .non), ("doors", .non)]) kw15) 3 ["rooms", "kept", "doors"] (fun z => nomatch z) (fun D doc pm an cdv ct us ws l1 l2 => match us, l1, ws, l2 with | [u0, u1, u2], _, [w0, w1, w2], _ => rfl)
    kb0_House_init := FunD.binds0 (ps := ["self", "clock", "needs", "rooms", "kept", "doors"]) (F15.funD (kws := [("rooms", .non), ("kept", .non), ("doors", .non)]) kw15) 3 (fun z => nomatch z) rfl (fun D doc pm an cdv ct us ks l1 l2 => match us, l1, ks, l2 with | [u0, u1, u2], _, [w0, w1, w2], _ => ⟨_, _, _, _, _, _, rfl, rfl, ⟨_, _, _, _, _, _, rfl, rfl, ⟨_, _, _, _, _, _, rfl, rfl, rfl⟩⟩⟩)
    mk_House := He.mkr_ok (x := "House") (c.fact (f := ck22) 22 (by kernel_rfl))
    is_row := ⟨(He.ga K "is_row"), _, F16, He.glo_ok X G (x := "is_row") (c.fact (f := ck23) 23 (by kernel_rfl)), (F16.binds (ps := ["thing"]) fun _ _ _ _ _ _ us hl => match us, hl with | [_], _ => rfl)⟩
    is_from_one := ⟨(He.ga K "_is_from_one"), _, F17, He.glo_ok X G (x := "_is_from_one") (c.fact (f := ck24) 24 (by kernel_rfl)), (F17.binds (ps := ["most", "thing"]) fun _ _ _ _ _ _ us hl => match us, hl with | [_, _], _ => rfl)⟩
    are_stays := ⟨(He.ga K "_are_stays"), _, F18, He.glo_ok X G (x := "_are_stays") (c.fact (f := ck25) 25 (by kernel_rfl)), (F18.binds (ps := ["thing"]) fun _ _ _ _ _ _ us hl => match us, hl with | [_], _ => rfl)⟩
    check_nobody_overtaken := ⟨(He.ga K "_check_nobody_overtaken"), _, F19, He.glo_ok X G (x := "_check_nobody_overtaken") (c.fact (f := ck26) 26 (by kernel_rfl)), (F19.binds (ps := ["stays"]) fun _ _ _ _ _ _ us hl => match us, hl with | [_], _ => rfl)⟩
    Clock_init := ⟨(He.ma K (He.ga K "Clock") "__init__"), _, F20, (F20.binds (ps := ["self", "stays"]) fun _ _ _ _ _ _ us hl => match us, hl with | [_, _], _ => rfl)⟩
    mk_Clock := He.mkr_ok (x := "Clock") (c.fact (f := ck27) 27 (by kernel_rfl))
    is_count_row := ⟨(He.ga K "is_count_row"), _, F21, He.glo_ok X G (x := "is_count_row") (c.fact (f := ck28) 28 (by kernel_rfl)), (F21.binds (ps := ["thing"]) fun _ _ _ _ _ _ us hl => match us, hl with | [_], _ => rfl)⟩
    Needs_init := ⟨(He.ma K (He.ga K "Needs") "__init__"), _, F22, (F22.binds (ps := ["self", "row"]) fun _ _ _ _ _ _ us hl => match us, hl with | [_, _], _ => rfl)⟩
    mk_Needs := He.mkr_ok (x := "Needs") (c.fact (f := ck29) 29 (by kernel_rfl))
    lmixed := ⟨(He.ga K "_law_mixed"), _, F23, He.glo_ok X G (x := "_law_mixed") (c.fact (f := ck30) 30 (by kernel_rfl)), (F23.binds (ps := ["_law_bag_here", "_law_things"]) fun _ _ _ _ _ _ us hl => match us, hl with | [_, _], _ => rfl)⟩
    House_hours := ⟨(recF K (He.ma K (He.ga K "House") "hours") "property"), _, F24, (F24.binds (ps := ["self"]) fun _ _ _ _ _ _ us hl => match us, hl with | [_], _ => rfl)⟩
    p_House_hours_p := (He.ma K (He.ga K "House") "hours")
    p_House_hours := propB_ok (c.fact (f := ck31) 31 (by kernel_rfl))
    Clock_iter := ⟨(He.ma K (He.ga K "Clock") "__iter__"), _, F25, (F25.binds (ps := ["self"]) fun _ _ _ _ _ _ us hl => match us, hl with | [_], _ => rfl)⟩
    m_Clock_iter := He.meth_ok (x := "Clock") (m := "__iter__") (c.fact (f := ck32) 32 (by kernel_rfl))
    Clock_len := ⟨(He.ma K (He.ga K "Clock") "__len__"), _, F26, (F26.binds (ps := ["self"]) fun _ _ _ _ _ _ us hl => match us, hl with | [_], _ => rfl)⟩
    m_Clock_len := He.meth_ok (x := "Clock") (m := "__len__") (c.fact (f := ck33) 33 (by kernel_rfl))
    House_clock := ⟨(recF K (He.ma K (He.ga K "House") "clock") "property"), _, F27, (F27.binds (ps := ["self"]) fun _ _ _ _ _ _ us hl => match us, hl with | [_], _ => rfl)⟩
    p_House_clock_p := (He.ma K (He.ga K "House") "clock")
    p_House_clock := propB_ok (c.fact (f := ck34) 34 (by kernel_rfl))
    Needs_iter := ⟨(He.ma K (He.ga K "Needs") "__iter__"), _, F28, (F28.binds (ps := ["self"]) fun _ _ _ _ _ _ us hl => match us, hl with | [_], _ => rfl)⟩
    m_Needs_iter := He.meth_ok (x := "Needs") (m := "__iter__") (c.fact (f := ck35) 35 (by kernel_rfl))
    Needs_len := ⟨(He.ma K (He.ga K "Needs") "__len__"), _, F29, (F29.binds (ps := ["self"]) fun _ _ _ _ _ _ us hl => match us, hl with | [_], _ => rfl)⟩
    m_Needs_len := He.meth_ok (x := "Needs") (m := "__len__") (c.fact (f := ck36) 36 (by kernel_rfl))
    House_needs := ⟨(recF K (He.ma K (He.ga K "House") "needs") "property"), _, F30, (F30.binds (ps := ["self"]) fun _ _ _ _ _ _ us hl => match us, hl with | [_], _ => rfl)⟩
    p_House_needs_p := (He.ma K (He.ga K "House") "needs")
    p_House_needs := propB_ok (c.fact (f := ck37) 37 (by kernel_rfl))
    Clock_eq := ⟨(He.ma K (He.ga K "Clock") "__eq__"), _, F31, (F31.binds (ps := ["self", "other"]) fun _ _ _ _ _ _ us hl => match us, hl with | [_, _], _ => rfl)⟩
    m_Clock_eq := He.meth_ok (x := "Clock") (m := "__eq__") (c.fact (f := ck38) 38 (by kernel_rfl))
    House_rooms := ⟨(He.ma K (He.ga K "House") "rooms"), _, F32, (F32.binds (ps := ["self"]) fun _ _ _ _ _ _ us hl => match us, hl with | [_], _ => rfl)⟩
    m_House_rooms := He.meth_ok (x := "House") (m := "rooms") (c.fact (f := ck39) 39 (by kernel_rfl))
    House_kept := ⟨(He.ma K (He.ga K "House") "kept"), _, F33, (F33.binds (ps := ["self"]) fun _ _ _ _ _ _ us hl => match us, hl with | [_], _ => rfl)⟩
    m_House_kept := He.meth_ok (x := "House") (m := "kept") (c.fact (f := ck40) 40 (by kernel_rfl))
    House_doors := ⟨(He.ma K (He.ga K "House") "doors"), _, F34, (F34.binds (ps := ["self"]) fun _ _ _ _ _ _ us hl => match us, hl with | [_], _ => rfl)⟩
    m_House_doors := He.meth_ok (x := "House") (m := "doors") (c.fact (f := ck41) 41 (by kernel_rfl))
    lright := ⟨(He.ga K "_law_right"), _, F35, He.glo_ok X G (x := "_law_right") (c.fact (f := ck42) 42 (by kernel_rfl)), (F35.binds (ps := ["_law_bag_here", "_law_house", "_law_world"]) fun _ _ _ _ _ _ us hl => match us, hl with | [_, _, _], _ => rfl)⟩
    lmade := ⟨(He.ga K "_law_made"), _, F36, He.glo_ok X G (x := "_law_made") (c.fact (f := ck43) 43 (by kernel_rfl)), (F36.binds (ps := ["_law_world"]) fun _ _ _ _ _ _ us hl => match us, hl with | [_], _ => rfl)⟩
    Needs_eq := ⟨(He.ma K (He.ga K "Needs") "__eq__"), _, F37, (F37.binds (ps := ["self", "other"]) fun _ _ _ _ _ _ us hl => match us, hl with | [_, _], _ => rfl)⟩
    m_Needs_eq := He.meth_ok (x := "Needs") (m := "__eq__") (c.fact (f := ck44) 44 (by kernel_rfl))
    House_eq := ⟨(He.ma K (He.ga K "House") "__eq__"), _, F38, (F38.binds (ps := ["self", "other"]) fun _ _ _ _ _ _ us hl => match us, hl with | [_, _], _ => rfl)⟩
    m_House_eq := He.meth_ok (x := "House") (m := "__eq__") (c.fact (f := ck45) 45 (by kernel_rfl))
    lnear := ⟨(He.ga K "_law_near"), _, F39, He.glo_ok X G (x := "_law_near") (c.fact (f := ck46) 46 (by kernel_rfl)), (F39.binds (ps := ["_law_bag_here", "_law_world"]) fun _ _ _ _ _ _ us hl => match us, hl with | [_, _], _ => rfl)⟩
    law := ⟨(He.ga K "law"), _, F40, He.glo_ok X G (x := "law") (c.fact (f := ck47) 47 (by kernel_rfl)), (F40.binds (ps := ["_law_script"]) fun _ _ _ _ _ _ us hl => match us, hl with | [_], _ => rfl)⟩
    n_Clock__stays := He.noat_ok (x := "Clock") (f := "_stays") (c.fact (f := ck51) 51 (by kernel_rfl))
    ic_Clock := xic_Clock
    ig_Clock := xig_Clock
    it_Clock := xit_Clock
    ob_Clock := xob_Clock
    ne_Clock := xne_Clock
    n_Needs__row := He.noat_ok (x := "Needs") (f := "_row") (c.fact (f := ck57) 57 (by kernel_rfl))
    ic_Needs := xic_Needs
    ig_Needs := xig_Needs
    it_Needs := xit_Needs
    ob_Needs := xob_Needs
    ne_Needs := xne_Needs
    sf_Needs := xsf_Needs
    n_House__clock := He.noat_ok (x := "House") (f := "_clock") (c.fact (f := ck64) 64 (by kernel_rfl))
    n_House__needs := He.noat_ok (x := "House") (f := "_needs") (c.fact (f := ck65) 65 (by kernel_rfl))
    n_House__rooms := He.noat_ok (x := "House") (f := "_rooms") (c.fact (f := ck66) 66 (by kernel_rfl))
    n_House__kept := He.noat_ok (x := "House") (f := "_kept") (c.fact (f := ck67) 67 (by kernel_rfl))
    n_House__doors := He.noat_ok (x := "House") (f := "_doors") (c.fact (f := ck68) 68 (by kernel_rfl))
    ic_House := xic_House
    ig_House := xig_House
    it_House := xit_House
    ob_House := xob_House
    ne_House := xne_House
    kl_House := xkl_House
    ki_House := xki_House
    kc_House := xkc_House
    nf_House := xnf_House
    t_MOST_HOURS := tc_MOST_HOURS
    c_MOST_HOURS := k_MOST_HOURS
    n_zip := He.free_ok X G (x := "zip") (c.fact (f := ck79) 79 (by kernel_rfl))
    n_len := He.free_ok X G (x := "len") (c.fact (f := ck80) 80 (by kernel_rfl))
    n_range := He.free_ok X G (x := "range") (c.fact (f := ck81) 81 (by kernel_rfl))
    n_abs := He.free_ok X G (x := "abs") (c.fact (f := ck82) 82 (by kernel_rfl))
    n_int := He.free_ok X G (x := "int") (c.fact (f := ck83) 83 (by kernel_rfl))
    n_bool := He.free_ok X G (x := "bool") (c.fact (f := ck84) 84 (by kernel_rfl))
    n_list := He.free_ok X G (x := "list") (c.fact (f := ck85) 85 (by kernel_rfl))
    n_tuple := He.free_ok X G (x := "tuple") (c.fact (f := ck86) 86 (by kernel_rfl))
    n_isinstance := He.free_ok X G (x := "isinstance") (c.fact (f := ck87) 87 (by kernel_rfl))
    n_all := He.free_ok X G (x := "all") (c.fact (f := ck88) 88 (by kernel_rfl))
    n_min := He.free_ok X G (x := "min") (c.fact (f := ck89) 89 (by kernel_rfl))
    n_max := He.free_ok X G (x := "max") (c.fact (f := ck90) 90 (by kernel_rfl))
    n_enumerate := He.free_ok X G (x := "enumerate") (c.fact (f := ck91) 91 (by kernel_rfl))
    n_repr := He.free_ok X G (x := "repr") (c.fact (f := ck92) 92 (by kernel_rfl))
    n_iter := He.free_ok X G (x := "iter") (c.fact (f := ck93) 93 (by kernel_rfl)) }
  refine ⟨fd40, fun s v => ?_, fun base _ _ => ok_law T⟩
  obtain ⟨_, _, _, _, _, _, _, _, _, hfd, _, _⟩ := F40.ex
  rw [hfd]
  exact .of_eq rfl
end Hn
open PySem PySem.W PySem.Calls PyProof.Rows in
set_option maxRecDepth 100000 in
set_option maxHeartbeats 0 in
theorem PySem.Challenge.cw_hourneeds_k40_houses_told_holds : PySem.Challenge.rw_hourneeds_k40_houses_told.Holds := by
  w_on; o_law
  refine HandSHeadRun.head_any (r := (PySem.W.OpenLaw.row PySem.Challenge.rw_hourneeds_k40_houses_told)) (q := view (PySem.W.OpenLaw.row PySem.Challenge.rw_hourneeds_k40_houses_told).prog [43]) (H := Hn.hookX Hn.ckl Hn.fel) (ob := Hn.ob) (M := 60000) (loose := Hn.loose) (d := HandSHeadRun.topDef (PySem.W.OpenLaw.row PySem.Challenge.rw_hourneeds_k40_houses_told).prog 43) (kwd := []) Hn.ob_eq
    (by kernel_rfl) (fun s => by kernel_rfl) Hn.run (by kernel_rfl) (by kernel_rfl) (by kernel_rfl) (by rfl) (by first | assumption | decide +kernel) (by decide +kernel) ⟨rfl, rfl, rfl, rfl, rfl, by decide +kernel⟩ ?hw ?hc
  case hw => w_witness2
  case hc =>
    refine Hn.walkGE (l := PySem.Challenge.rw_hourneeds_k40_houses_told) (n := 63) (k := 8) (x := "_law_script") rfl (by decide) (by kernel_rfl) ⟨rfl, by decide, by decide⟩ ?F
    intro w mg fa h Y G hmg0
    obtain ⟨K, KX, c⟩ := Y
    have hmg : mg ("law" : PySem.Str) = some (.ref fa) := by
      have e : (HandSHeadRun.topDef (PySem.W.OpenLaw.row PySem.Challenge.rw_hourneeds_k40_houses_told).prog 43).name = ("law" : PySem.Str) := by kernel_rfl
      rw [← e]
      exact hmg0
    obtain ⟨fd, hb, hF⟩ := Hn.facts2 (P := (PySem.Challenge.rw_hourneeds_k40_houses_told).prog) (w := w) KX G hmg c
    exact ⟨K, fd, Hn.spLaw K, KX, hb, fun H a ns hl _ hS => ⟨a, ns, rfl, hS, hl, fun _ => rfl⟩, hF⟩
