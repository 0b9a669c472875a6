import PyProof.Rows.All
import Wide.All
import OpenK.AllK
import Wide.FinOn
import HandS.ForMost
import HandS.IsInst
import HandS.Evl
import HandS.SetIn
import HandS.Walk
import HandS.Star
import HandS.Zip
import HandS.Style
import HandS.Wide
import HandS.DictComp
import KE.KeyNested
import KE.KDictKeyed
import HandS.TupAny
import HandS.TupMul
import HandS.SetFor
import HandS.Property
import HandS.TryOnly
import HandS.Conv
import KE.KDictZip
import HandS.CallLocal
import HandS.Defaults
import PySem.Challenge.RW_swornrun_k11_moved_lists_keep_their_cell
set_option Elab.async false
set_option linter.all false
set_option maxRecDepth 100000
set_option maxHeartbeats 4000000
namespace SW
open PySem PySem.Spec PyProof.Rows L2
def topS (i : Nat) : Stmt := PySem.Challenge.pw_swornrun_k11_moved_lists_keep_their_cell.main.body.getD i (.Pass ⟨0, 0, 0, 0⟩)
/-- the built-in names stand for what they are -/
structure TxB (mg : PySem.Str → Option Value) : Prop where
  n_len : mg "len" = none
  n_range : mg "range" = none
  n_int : mg "int" = none
  n_abs : mg "abs" = none
  n_isinstance : mg "isinstance" = none
  n_list : mg "list" = none
  n_str : mg "str" = none
  n_bool : mg "bool" = none
  n_tuple : mg "tuple" = none
  n_min : mg "min" = none
  n_max : mg "max" = none
  n_sum : mg "sum" = none
  n_sorted : mg "sorted" = none
  n_any : mg "any" = none
  n_all : mg "all" = none
  n_zip : mg "zip" = none
  n_enumerate : mg "enumerate" = none
  n_reversed : mg "reversed" = none
  n_dict : mg "dict" = none
  n_set : mg "set" = none
  n_repr : mg "repr" = none
  n_ord : mg "ord" = none
/-- a def of the text -/
structure Df (K : PySem.W.Frag) (mg : PySem.Str → Option Value) (x : PySem.Str) (st : Stmt) (ps : List PySem.Str) where
  f : Addr
  fd : FuncData
  F : Fun K x x st f fd
  rb : ∀ us : List Value, us.length = ps.length → bindArgs fd ⟨us, []⟩ = pure (ps.zip us)
  g : mg x = some (.ref f)
theorem Df.b {K : PySem.W.Frag} {mg : PySem.Str → Option Value} {x : PySem.Str} {st : Stmt} {ps : List PySem.Str} (D : Df K mg x st ps) : Binds K D.fd ps [] := .all D.rb
/-- .. of what the head tells -/
def df_mk {x : PySem.Str} {st : Stmt} {ps : List PySem.Str} {K : PySem.W.Frag} {h : Heap} {mg : PySem.Str → Option Value} (X : K.In h) (G : h.Ns mainGlobals mg) {f : Addr} {oc : Value} {od an : Option Addr} {sl : Array (Option Value)} {kV doc pm cd ct : Value}
    (a : PySem.W.nsIn K mainGlobals x = some (some (.ref f))) (l : K.lookup f = some ⟨oc, od, .func (PySem.W.fnOf x x (defArgs st) (defBody st) (defScope st) .none kV doc pm an cd ct), sl⟩) (c : PySem.W.codeIn K cd x = true) (k : PySem.W.keepIn K (.ref f) = true)
    (hb : ∀ (kV doc pm : Value) (an : Option Addr) (cd ct : Value) (us : List Value), us.length = ps.length → bindArgs (PySem.W.fnOf x x (defArgs st) (defBody st) (defScope st) .none kV doc pm an cd ct) ⟨us, []⟩ = pure (ps.zip us)) : Df K mg x st ps :=
  ⟨f, _, fun_mk l c k, hb kV doc pm an cd ct, PySem.W.mg_of X G a⟩
theorem m_of {K : PySem.W.Frag} {h : Heap} {mg : PySem.Str → Option Value} {x : PySem.Str} {v u : Value} (X : K.In h) (G : h.Ns mainGlobals mg) (e : PySem.W.nsIn K mainGlobals x = some (some v)) (q : v = u) : mg x = some u := by
  rw [← q]
  exact PySem.W.mg_of X G e
theorem sqt_mk {K : PySem.W.Frag} {aT : Addr} {od : Option Addr} {its : Array Value} {n : Nat} {sl : Array (Option Value)} {xs : List V} (l : K.lookup aT = some ⟨.type "tuple", od, .seq its n, sl⟩) (hs : its.size ≤ sizeLine) (r : Vals xs its.toList) : ∀ H, SqT K H aT xs :=
  fun H => .inr ⟨_, its, n, l, rfl, rfl, hs, r⟩
theorem same_new {H : Hp} {p : Addr} {o : HO} (h : H p = none) : Same H (upd H p o) := fun b x e => by
  rw [upd_ne (ne_of_none e h)]
  exact e
/-- an object that H does not know has changed -/
theorem same_mut {H H' : Hp} {p : Addr} {o : HO} (s : Same H H') (h : H p = none) : Same H (upd H' p o) := fun b x e => by
  rw [upd_ne (ne_of_none e h)]
  exact s _ _ e
theorem new_of {H H1 : Hp} {p : Addr} {o : HO} (n : H p = none) (h : upd H p o = H1) : Same H H1 ∧ H1 p = some o := by
  subst h
  exact ⟨same_new n, upd_same⟩
/-- all that was tracked is as it was, but what stands at h -/
def But (h : Addr) (H H' : Hp) : Prop := ∀ b o, b ≠ h → H b = some o → H' b = some o
theorem But.refl (h : Addr) (H : Hp) : But h H H := fun _ _ _ e => e
theorem But.trans {h : Addr} {H H1 H2 : Hp} (a : But h H H1) (b : But h H1 H2) : But h H H2 := fun c o n e => b c o n (a c o n e)
theorem Same.but {h : Addr} {H H' : Hp} (a : Same H H') : But h H H' := fun c o _ e => a c o e
/-- the hand at h: the list of draws at d, and a place in it -/
structure Hand (H : Hp) (h d : Addr) (ds : List Int) : Prop where
  at_ : ∃ i : Nat, H h = some (.lst [.ref d, .int (i : Nat)])
  ds_ : H d = some (.lst (ds.map V.int))
  ne : d ≠ h
theorem Hand.same {H H' : Hp} {h d : Addr} {ds : List Int} (a : Hand H h d ds) (s : Same H H') : Hand H' h d ds := by
  obtain ⟨⟨i, h1⟩, h2, h3⟩ := a
  exact ⟨⟨i, s _ _ h1⟩, s _ _ h2, h3⟩
theorem small_sz {n : Nat} (h : n ≤ 1000) : n < sizeLine := Nat.lt_of_le_of_lt h (by decide)
theorem small_sz5 {n : Nat} (h : n ≤ 100000) : n < sizeLine := Nat.lt_of_le_of_lt h (by decide)
theorem ixN_nat {n j : Nat} (h : j < n) : ixN n (j : Int) = some j := by
  unfold ixN
  rw [if_pos (by omega), if_pos (by omega)]
  rfl
theorem hand_ne {H : Hp} {h d p : Addr} {ds : List Int} (hd : Hand H h d ds) (n : H p = none) : p ≠ h := by
  obtain ⟨⟨i, e⟩, _, _⟩ := hd
  exact (ne_of_none e n).symm
theorem hand_ne2 {H : Hp} {h d p : Addr} {ds : List Int} (hd : Hand H h d ds) (n : H p = none) : p ≠ d := (ne_of_none hd.ds_ n).symm
/-- something else than the hand and its draws has changed -/
theorem Hand.upd {H : Hp} {h d p : Addr} {o : HO} {ds : List Int} (a : Hand H h d ds) (h1 : p ≠ h) (h2 : p ≠ d) : Hand (L2.upd H p o) h d ds := by
  obtain ⟨⟨i, e1⟩, e2, e3⟩ := a
  exact ⟨⟨i, (upd_ne h1.symm).trans e1⟩, (upd_ne h2.symm).trans e2, e3⟩
theorem But.new {a : Addr} {H H' : Hp} {p : Addr} {o : HO} (b : But a H H') (n : H p = none) : But a H (L2.upd H' p o) := fun c u hc e => (upd_ne (ne_of_none e n)).trans (b c u hc e)
theorem But.free {a : Addr} {H H' : Hp} {p : Addr} (b : But a H H') (hp : p ≠ a) (n : H' p = none) : H p = none := by
  cases e : H p with
  | none => rfl
  | some u =>
    rw [b p u hp e] at n
    cases n
/-! ### written texts in a row; a text n times -/
def tStrs (ws : List PySem.Str) : TA := fun _ H Q => Q (ws.map V.str) H
theorem pa_strs {X : Cx} {es : List Expr} {ws : List PySem.Str} (h : StrEs es ws) : PA X es (tStrs ws) := by
  induction h with
  | nil => exact pa_nil
  | cons x j p _ ih => exact pa_cons pe_str ih
def rMulS : R2 := fun x y H Q => ∃ (z : PySem.Str) (n : Int), x = .str z ∧ y = .int n ∧ 0 ≤ n ∧ n ≤ 1000 ∧ z.length ≤ 1000 ∧ Q (.str (Txt.mul z n)) H
theorem op_mul_str {X : Cx} : OpR X (binaryOp .Mult) rMulS := by
  intro pins s σ H x y v u Q I rx ry h
  obtain ⟨z, n, rfl, rfl, h0, h1, hz, q⟩ := h
  obtain ⟨t, rfl⟩ := rx
  obtain ⟨t', rfl⟩ := ry
  refine SB.mul ⟨?_, ?_, ?_⟩ fun t' k => ⟨.str _, H, I.tok k, ⟨t', rfl⟩, q⟩
  · rw [Bool.or_eq_false_iff]
    exact ⟨decide_eq_false (by omega), decide_eq_false (by omega)⟩
  · intro hn _ hc
    have hd : (2 ^ 63 - 1 : Int) / 1000 ≤ (2 ^ 63 - 1) / n := by
      have : n * 9223372036854775 ≤ 2 ^ 63 - 1 := by omega
      have h2 : (9223372036854775 : Int) ≤ (2 ^ 63 - 1) / n := Int.le_ediv_of_mul_le (by omega) (by rw [Int.mul_comm]; exact this)
      have h3 : (2 ^ 63 - 1 : Int) / 1000 = 9223372036854775 := by decide
      omega
    have h3 : (2 ^ 63 - 1 : Int) / 1000 = 9223372036854775 := by decide
    omega
  · intro _ _
    have hb : z.length * n.toNat ≤ 1000 * 1000 := Nat.mul_le_mul hz (by omega)
    unfold Builtin.Str.tooLong
    refine decide_eq_false ?_
    have : (1000 * 1000 : Nat) ≤ sizeLine := by decide
    omega
theorem foldl_app {c : Nat} : ∀ (n : Nat) (a : Array Nat), ((List.replicate n #[c]).foldl (· ++ ·) a).toList = a.toList ++ List.replicate n c
  | 0, a => by simp
  | n + 1, a => by
    rw [List.replicate_succ, List.foldl_cons, foldl_app n]
    simp [List.replicate_succ]
theorem mul_one_sign (c : Nat) (n : Int) : (Txt.mul ⟨#[c]⟩ n).cps.toList = List.replicate n.toNat c := by
  unfold Txt.mul
  by_cases h1 : n < 1
  · rw [if_pos h1, show n.toNat = 0 by omega]
    rfl
  · rw [if_neg h1]
    by_cases h2 : (n == 1 || (⟨#[c]⟩ : PySem.Str).length == 0) = true
    · rw [if_pos h2]
      have h3 : n = 1 := by
        rcases Bool.or_eq_true_iff.mp h2 with h | h
        · exact eq_of_beq h
        · exact absurd (eq_of_beq h) (by show ¬ (1 : Nat) = 0; decide)
      subst h3
      rfl
    · rw [if_neg h2]
      show ((List.replicate n.toNat #[c]).foldl (· ++ ·) #[]).toList = _
      rw [foldl_app]
      rfl
theorem join_len1 : ∀ (ys : List PySem.Str), (Str.join "" ys).length = (ys.map (·.length)).sum
  | [] => rfl
  | [x] => by
    show x.length = (x.length :: []).sum
    rw [List.sum_cons]
    rfl
  | x :: y :: r => by
    show (x ++ "" ++ Str.join "" (y :: r)).length = _
    have h := join_len1 (y :: r)
    rw [TL.len_tl] at h ⊢
    rw [TL.tl_append, TL.tl_append, List.length_append, List.length_append, h, List.map_cons, List.sum_cons, TL.len_tl]
    rfl
theorem join_len (ys : List PySem.Str) : (Txt.join "" ys).length = (ys.map (·.length)).sum := by
  rw [TL.join_eq, join_len1]
theorem sum_const {ys : List PySem.Str} {b : Nat} (h : ∀ y ∈ ys, y.length ≤ b) : (ys.map (·.length)).sum ≤ ys.length * b := by
  induction ys with
  | nil => exact Nat.zero_le _
  | cons a r ih =>
    have h1 := h a List.mem_cons_self
    have h2 := ih fun y hy => h y (List.mem_cons_of_mem _ hy)
    rw [List.map_cons, List.sum_cons, List.length_cons, Nat.add_mul]
    omega
theorem str_at {z : PySem.Str} {r : Int} (h0 : 0 ≤ r) (h1 : r < z.length) : ∃ c, atI z.cps.toList r = some c := by
  obtain ⟨j, rfl⟩ : ∃ j : Nat, r = j := ⟨r.toNat, by omega⟩
  have hl : z.cps.toList.length = z.length := rfl
  have hj : j < z.cps.toList.length := by omega
  exact ⟨_, atI_nat (List.getElem?_eq_getElem hj)⟩
theorem strs_at {ws : List PySem.Str} {r : Int} (h0 : 0 ≤ r) (h1 : r < ws.length) : ∃ z, z ∈ ws ∧ atI (ws.map V.str) r = some (.str z) := by
  obtain ⟨j, rfl⟩ : ∃ j : Nat, r = j := ⟨r.toNat, by omega⟩
  have hj : j < ws.length := by omega
  refine ⟨ws[j], List.getElem_mem hj, atI_nat ?_⟩
  rw [List.getElem?_map, List.getElem?_eq_getElem hj]
  rfl
/-- a loop over a text's signs -/
theorem for_str {x : PySem.Str} {g : TG} {tb : TS} {D : Ends} {σ : L2.St} {H : Hp} (Pv : Nat → L2.St → Hp → Prop) (h0 : Pv 0 σ H)
    (hs : ∀ i c σ H, x.cps.toList[i]? = some c → Pv i σ H → g (.str ⟨#[c]⟩) σ H fun σ2 H2 => tb { D with nx := Pv (i + 1), ct := Pv (i + 1), bk := D.nx } σ2 H2) (hd : ∀ σ H, Pv x.cps.toList.length σ H → D.nx σ H) :
    ∃ W : Nat → Nat → L2.St → Hp → Prop, (∃ m, W 0 m σ H) ∧ ∀ i m σ H, W i m σ H →
      ((Its x).stop i H ∧ D.nx σ H) ∨ ((Its x).go i H ∧ ∃ N : L2.St → Hp → Prop, (∀ σ' H', N σ' H' → ∃ m', m' < m ∧ W (i + 1) m' σ' H') ∧ ∀ v H', (Its x).yld i H v H' → g v σ H' fun σ2 H2 => tb { D with nx := N, ct := N, bk := D.nx } σ2 H2) := by
  refine ⟨fun i m σ H => m = x.cps.toList.length - i ∧ i ≤ x.cps.toList.length ∧ Pv i σ H, ⟨x.cps.toList.length, by simp, Nat.zero_le _, h0⟩, ?_⟩
  rintro i m σ H ⟨rfl, hi, p⟩
  by_cases hlt : i < x.cps.toList.length
  · refine .inr ⟨hlt, Pv (i + 1), fun σ' H' p' => ⟨x.cps.toList.length - (i + 1), by omega, rfl, hlt, p'⟩, fun v H' y => ?_⟩
    obtain ⟨e, c, hc, hv⟩ := y
    subst e hv
    exact hs i c σ _ (by rw [Array.getElem?_toList]; exact hc) p
  · have e : i = x.cps.toList.length := by omega
    subst e
    exact .inl ⟨Nat.le_refl _, hd σ H p⟩
abbrev mk (l : List Nat) : PySem.Str := ⟨l.toArray⟩
theorem mk_cp (z : PySem.Str) : mk z.cps.toList = z := rfl
theorem cp_mk (l : List Nat) : (mk l).cps.toList = l := rfl
theorem flat_strs (ws : List PySem.Str) : (ws.map V.str).all flatV = true := by
  induction ws with
  | nil => rfl
  | cons a r ih =>
    rw [List.map_cons, List.all_cons, ih]
    rfl
theorem inV_strs (a : PySem.Str) (ws : List PySem.Str) : inV (.str a) (ws.map V.str) = decide (a ∈ ws) := by
  induction ws with
  | nil => rfl
  | cons b r ih =>
    show ((b == a) || inV (.str a) (r.map V.str)) = _
    rw [ih]
    by_cases e : b = a
    · subst e
      simp
    · rw [beq_eq_false_iff_ne.mpr e]
      by_cases m : a ∈ r
      · simp [m]
      · simp [m, Ne.symm e]
theorem cut2 (z : PySem.Str) (i : Nat) (h : i < z.length) : cutS z (some (i : Int)) (some ((i : Int) + 2)) = mk ((z.cps.toList.drop i).take 2) := by
  have e1 : HT.sIx z.length 0 (some (i : Int)) = i := by
    rw [HT.sIx_nat]
    omega
  have e2 : HT.sIx z.length z.length (some ((i : Int) + 2)) = min (i + 2) z.length := by
    rw [show ((i : Int) + 2) = ((i + 2 : Nat) : Int) by omega, HT.sIx_nat]
  unfold cutS
  rw [e1, e2]
  show mk _ = mk _
  congr 1
  have hl : (z.cps.toList.drop i).length = z.length - i := by
    rw [List.length_drop]
    rfl
  by_cases h2 : i + 2 ≤ z.length
  · rw [show min (i + 2) z.length - i = 2 by omega]
  · rw [Nat.min_eq_right (by omega), List.take_of_length_le (by omega), List.take_of_length_le (by omega)]
theorem cut_nat (z : PySem.Str) (i n : Nat) (h : i + n ≤ z.length) : cutS z (some (i : Int)) (some ((i + n : Nat) : Int)) = mk ((z.cps.toList.drop i).take n) := by
  have e1 : HT.sIx z.length 0 (some (i : Int)) = i := by
    rw [HT.sIx_nat]
    omega
  have e2 : HT.sIx z.length z.length (some ((i + n : Nat) : Int)) = i + n := by
    rw [HT.sIx_nat]
    omega
  unfold cutS
  rw [e1, e2, show i + n - i = n by omega]
theorem str_ne (z : PySem.Str) : (!decide (V.str z = V.str "")) = decide (z.cps.toList ≠ []) := by
  by_cases h : z.cps.toList = []
  · have e : z = "" := by
      rw [← mk_cp z, h]
      rfl
    subst e
    rfl
  · have e : ¬ V.str z = V.str "" := fun e => h (by
      injection e with e
      rw [e]
      rfl)
    rw [decide_eq_false e, decide_eq_true h]
    rfl
theorem le_dec (n m : Nat) : decide ((n : Int) ≤ (m : Int)) = decide (n ≤ m) := decide_eq_decide.mpr Int.ofNat_le
theorem str_dec (x y : PySem.Str) : decide (V.str x = V.str y) = decide (x = y) := decide_eq_decide.mpr ⟨fun h => by injection h, fun h => by rw [h]⟩
theorem sz5 {n : Nat} (h : n ≤ 100000) : n ≤ sizeLine := Nat.le_trans h (by decide)
theorem sz5' {n : Nat} (h : n ≤ 100000) : n < sizeLine := Nat.lt_of_le_of_lt h (by decide)
theorem at_nat {xs : List V} {z : Int} {j : Nat} {v : V} (e : z = (j : Int)) (h : xs[j]? = some v) : atI xs z = some v := at_of e h
end SW

namespace SW
open PySem PySem.Spec PyProof.Rows L2
theorem app_len (x y : PySem.Str) : (x ++ y).length = x.length + y.length := by
  rw [TL.len_tl, TL.tl_append, List.length_append, ← TL.len_tl, ← TL.len_tl]
theorem mul_len (n : Int) : (Txt.mul " " n).length = n.toNat := by
  rw [TL.len_tl]
  show (Txt.mul ⟨#[32]⟩ n).cps.toList.length = _
  rw [mul_one_sign, List.length_replicate]
/-! ### data: what is read stays -/
mutual
theorem dp_same {K : PySem.W.Frag} {H H' : Hp} (s : Same H H') : ∀ (d : PyData) (v : V), Dp K H v d → Dp K H' v d
  | .none, _, h => by
    cases h
    exact .non
  | .bool b, _, h => by
    cases h
    exact .bl b
  | .int i, _, h => by
    cases h
    exact .int i
  | .str x, _, h => by
    cases h
    exact .str x
  | .list ds, _, h => by
    cases h with
    | lst hs ha => exact .lst (s.seq hs) (dpa_same s ds _ ha)
  | .tuple ds, _, h => by
    cases h with
    | tup hs ha =>
      refine .tup ?_ (dpa_same s ds _ ha)
      rcases hs with (hs | ⟨o, hs⟩) | hs
      · exact .inl (.inl (s _ _ hs))
      · exact .inl (.inr ⟨o, s _ _ hs⟩)
      · exact .inr hs
  | .dict _, _, h => by cases h
theorem dpa_same {K : PySem.W.Frag} {H H' : Hp} (s : Same H H') : ∀ (ds : List PyData) (vs : List V), DpAll K H vs ds → DpAll K H' vs ds
  | [], _, h => by
    cases h
    exact .nil
  | d :: ds, _, h => by
    cases h with
    | cons h1 h2 => exact .cons (dp_same s d _ h1) (dpa_same s ds _ h2)
end
theorem sqt_same {K : PySem.W.Frag} {H H' : Hp} (s : Same H H') {a : Addr} {xs : List V} (hs : SqT K H a xs) : SqT K H' a xs := by
  rcases hs with (hs | ⟨o, hs⟩) | hs
  · exact .inl (.inl (s _ _ hs))
  · exact .inl (.inr ⟨o, s _ _ hs⟩)
  · exact .inr hs
theorem _root_.L2.Dp.same {K : PySem.W.Frag} {H H' : Hp} {d : PyData} {v : V} (h : Dp K H v d) (s : Same H H') : Dp K H' v d := dp_same s d v h
mutual
/-- no list within -/
def noL : PyData → Bool
  | .tuple ds => noLs ds
  | .list _ => false
  | .dict _ => false
  | _ => true
def noLs : List PyData → Bool
  | [] => true
  | d :: ds => noL d && noLs ds
end
mutual
theorem dp_but {K : PySem.W.Frag} {H H' : Hp} {h : Addr} {ys : List V} (hl : H h = some (.lst ys)) (s : But h H H') : ∀ (d : PyData) (v : V), noL d = true → Dp K H v d → Dp K H' v d
  | .none, _, _, e => by
    cases e
    exact .non
  | .bool b, _, _, e => by
    cases e
    exact .bl b
  | .int i, _, _, e => by
    cases e
    exact .int i
  | .str x, _, _, e => by
    cases e
    exact .str x
  | .list ds, _, n, _ => by
    unfold noL at n
    cases n
  | .tuple ds, _, n, e => by
    cases e with
    | tup hs ha =>
      refine .tup ?_ (dpa_but hl s ds _ (by unfold noL at n; exact n) ha)
      rcases hs with (hs | ⟨o, hs⟩) | hs
      · refine .inl (.inl (s _ _ (fun e => ?_) hs))
        rw [e, hl] at hs
        cases hs
      · refine .inl (.inr ⟨o, s _ _ (fun e => ?_) hs⟩)
        rw [e, hl] at hs
        cases hs
      · exact .inr hs
  | .dict _, _, _, e => by cases e
theorem dpa_but {K : PySem.W.Frag} {H H' : Hp} {h : Addr} {ys : List V} (hl : H h = some (.lst ys)) (s : But h H H') : ∀ (ds : List PyData) (vs : List V), noLs ds = true → DpAll K H vs ds → DpAll K H' vs ds
  | [], _, _, e => by
    cases e
    exact .nil
  | d :: ds, _, n, e => by
    unfold noLs at n
    rw [Bool.and_eq_true] at n
    cases e with
    | cons h1 h2 => exact .cons (dp_but hl s d _ n.1 h1) (dpa_but hl s ds _ n.2 h2)
end
theorem Hand.dp {K : PySem.W.Frag} {H H' : Hp} {h d0 : Addr} {ds : List Int} (a : Hand H h d0 ds) (s : But h H H') {d : PyData} {v : V} (n : noL d = true) (e : Dp K H v d) : Dp K H' v d := by
  obtain ⟨⟨i, hl⟩, _, _⟩ := a
  exact dp_but hl s d v n e
def isN : PyData → Bool
  | .none => true
  | _ => false
theorem dp_isN {K : PySem.W.Frag} {H : Hp} {d : PyData} {v : V} (h : Dp K H v d) : decide (v = V.non) = isN d := by
  cases h <;> rfl
theorem dp_tup2 {K : PySem.W.Frag} {H : Hp} {t : Addr} {v1 v2 : V} {d1 d2 : PyData} (h : H t = some (.tup [v1, v2])) (h1 : Dp K H v1 d1) (h2 : Dp K H v2 d2) : Dp K H (.ref t) (.tuple [d1, d2]) :=
  .tup (SqT.of h) (.cons h1 (.cons h2 .nil))
theorem dp_tup3 {K : PySem.W.Frag} {H : Hp} {t : Addr} {v1 v2 v3 : V} {d1 d2 d3 : PyData} (h : H t = some (.tup [v1, v2, v3])) (h1 : Dp K H v1 d1) (h2 : Dp K H v2 d2) (h3 : Dp K H v3 d3) : Dp K H (.ref t) (.tuple [d1, d2, d3]) :=
  .tup (SqT.of h) (.cons h1 (.cons h2 (.cons h3 .nil)))
theorem dp_tup4 {K : PySem.W.Frag} {H : Hp} {t : Addr} {v1 v2 v3 v4 : V} {d1 d2 d3 d4 : PyData} (h : H t = some (.tup [v1, v2, v3, v4])) (h1 : Dp K H v1 d1) (h2 : Dp K H v2 d2) (h3 : Dp K H v3 d3) (h4 : Dp K H v4 d4) : Dp K H (.ref t) (.tuple [d1, d2, d3, d4]) :=
  .tup (SqT.of h) (.cons h1 (.cons h2 (.cons h3 (.cons h4 .nil))))
/-! ### lists of texts, compared -/
theorem dpa_strs {K : PySem.W.Frag} {H : Hp} : ∀ ws : List PySem.Str, DpAll K H (ws.map V.str) (ws.map PyData.str)
  | [] => .nil
  | x :: r => .cons (.str x) (dpa_strs r)
theorem dp_strs {K : PySem.W.Frag} {H : Hp} {a : Addr} {ws : List PySem.Str} (h : SqL K H a (ws.map V.str)) : Dp K H (.ref a) (.list (ws.map PyData.str)) := .lst h (dpa_strs ws)
theorem vals_strs : ∀ {ws : List PySem.Str} {us : List Value} {j : Nat} {x : PySem.Str}, Vals (ws.map V.str) us → ws[j]? = some x → ∃ t, us[j]? = some (.str x t)
  | _, _, _, _, r, h => by
    obtain ⟨u, h1, h2⟩ := r.get (x := V.str _) (by rw [List.getElem?_map, h]; rfl)
    obtain ⟨t, rfl⟩ := h2
    exact ⟨t, h1⟩
/-- == of two lists of texts -/
def rEqS (K : PySem.W.Frag) : R2 := fun x y H Q => ∃ (a b : Addr) (ws vs : List PySem.Str), x = .ref a ∧ y = .ref b ∧ SqL K H a (ws.map V.str) ∧ SqL K H b (vs.map V.str) ∧ Q (.bl (decide (ws = vs))) H
theorem all_eq {ws vs : List PySem.Str} (hl : ws.length = vs.length) : ((List.range ws.length).all fun j => decide (ws[j]? = vs[j]?)) = decide (ws = vs) := by
  by_cases h : ws = vs
  · subst h
    rw [decide_eq_true rfl, List.all_eq_true]
    exact fun j _ => decide_eq_true rfl
  · rw [decide_eq_false h]
    refine Bool.eq_false_iff.mpr fun e => h ?_
    rw [List.all_eq_true] at e
    refine List.ext_getElem? fun j => ?_
    by_cases hj : j < ws.length
    · exact of_decide_eq_true (e j (List.mem_range.mpr hj))
    · rw [List.getElem?_eq_none (by omega), List.getElem?_eq_none (by omega)]
theorem op_eqS {X : Cx} (hu : X.A.units < cLine) : OpR X (compareOp .Eq) (rEqS X.K) := by
  intro pins s σ H x y v u Q I rx ry h
  obtain ⟨a, b, ws, vs, rfl, rfl, ha, hb, q⟩ := h
  cases rx
  cases ry
  obtain ⟨its, r1, p1, _⟩ := I.list ha
  obtain ⟨jts, r2, p2, _⟩ := I.list hb
  have l1 := r1.length
  have l2 := r2.length
  rw [List.length_map] at l1 l2
  by_cases hl : ws.length = vs.length
  · refine SeqAt.eq_listAt (e := fun j => decide (ws[j]? = vs[j]?)) p1.isList p2.isList (by simp only [List.size_toArray]; omega) hu (fun j h1 h2 => ?_) ?_
    · simp only [List.size_toArray] at h1 h2
      obtain ⟨t1, e1⟩ := vals_strs (x := ws[j]) r1 (List.getElem?_eq_getElem (by omega))
      obtain ⟨t2, e2⟩ := vals_strs (x := vs[j]) r2 (List.getElem?_eq_getElem (by omega))
      have f1 : its.toArray[j] = .str ws[j] t1 := by
        rw [List.getElem?_eq_getElem h1] at e1
        injection e1 with e1
      have f2 : jts.toArray[j] = .str vs[j] t2 := by
        rw [List.getElem?_eq_getElem h2] at e2
        injection e2 with e2
      rw [f1, f2]
      have e3 : decide (ws[j]? = vs[j]?) = (ws[j] == vs[j]) := by
        rw [List.getElem?_eq_getElem (by omega), List.getElem?_eq_getElem (by omega)]
        by_cases h : ws[j] = vs[j]
        · rw [h]
          simp
        · rw [decide_eq_false (fun e => h (Option.some.inj e)), beq_eq_false_iff_ne.mpr h]
      rw [e3]
      exact SeqAt.EqAt.str_str _ _ _ _
    · have e4 : ((List.range its.toArray.size).all fun j => decide (ws[j]? = vs[j]?)) = decide (ws = vs) := by
        rw [List.size_toArray, ← l1]
        exact all_eq hl
      rw [e4]
      exact ⟨.bl _, H, I, rfl, q⟩
  · refine SeqAt.eq_list_lengthsAt p1.isList p2.isList (by simp only [List.size_toArray]; exact bne_iff_ne.mpr (by omega)) hu ?_
    rw [decide_eq_false (fun e => hl (by rw [e]))] at q
    exact ⟨.bl _, H, I, rfl, q⟩
end SW

namespace SW
open PySem PySem.Spec PyProof.Rows L2
/-! ### a def that is called where no object is being shown -/
structure FnOkG (P : Program) (w : World) (K : PySem.W.Frag) (mg : PySem.Str → Option Value) (base : Heap) (CX : CXT) (k : Nat) (f : Addr) (fd : FuncData) (ps : List PySem.Str) (sp : Sp) : Prop where
  run : ∀ (A : Around) (outer : List Env) (s : Shared) (H : Hp) (args : Args) (us : List Value) (vs : List V) (Q : VK) (E : XK),
    A.guards = some [] → Room k A → Env0 P w K mg base A outer s H → BindsTo s fd args (ps.zip us) → Vals vs us → sp vs H Q E →
    codeAny (model P w) A (.call (.ref f) args) (CR CX outer P w H s Q E) s
theorem Fun.okG {P : Program} {w : World} {K : PySem.W.Frag} {mg : PySem.Str → Option Value} {base : Heap} {x qual : PySem.Str} {st : Stmt} {f : Addr} {fd : FuncData} {N ps : List PySem.Str} {k : Nat} {sp : Sp}
    (F : Fun K x qual st f fd) (S : FnScope N ps (defScope st)) (len : ∀ vs H Q E, sp vs H Q E → vs.length = ps.length)
    (hbody : ∀ (cdv : Value) (A : Around) (outer : List Env) (s : Shared) (H : Hp) (vs : List V) (Q : VK) (E : XK),
      (A.deeper (envOfC qual (defScope st) s.heap.objs.size f cdv)).guards = some [] → Room k (A.deeper (envOfC qual (defScope st) s.heap.objs.size f cdv)) → sp vs H Q E →
      ∃ t, PSs (cxOf CX0 P w K mg base N qual (defScope st) f cdv A outer s H E).nox (defBody st) t ∧ t { nx := fun _ H' => Q .non H', rt := Q } (L2.start N vs) H) :
    FnOkG P w K mg base CX0 (k + 1) f fd ps sp := by
  obtain ⟨oc, od, kV, doc, pm, an, cdv, ct, osl, rfl, lk, hcd⟩ := F.ex
  refine ⟨fun A outer s H args us vs Q E hg hr e0 hb r hsp => ?_⟩
  have hl := len vs H Q E hsp
  have KX := PySem.W.Frag.In.keeps e0.mod.kin fun b o e => (e0.bs b o e).1
  have lim := Heap.NoLimit.keeps e0.mod.nolimit fun b o e => (e0.bs b o e).1
  refine codeAny_call_function hr.depth (KX f _ lk) rfl S.co S.gen rfl (PySem.W.codeRec_of KX hcd) (hb _ _ _ _ (wpAny_newFunctionEnv_cells S.kind (fun y hy => ?_) fun env he s1 i => ?_))
  · obtain ⟨n, v⟩ := y
    rcases S.par n (List.of_mem_zip hy).1 with q | q
    · exact .inl q
    · exact .inr ⟨q, PySem.W.cellsFrom_some _ _ [] (.inl q)⟩
  · subst he
    refine ⟨lim.keeps i.toInCall.keep, codeAny_func ?_⟩
    obtain ⟨t, ht, hq⟩ := hbody cdv A outer s H vs Q E hg (hr.deeper _) hsp
    have I : L2.Inv (cxOf CX0 P w K mg base N qual (defScope st) f cdv A outer s H E) [] (L2.start N vs) H s1 := inv_start S hr.hd e0 hl r i
    refine wpAny_mono ((PSs.nox ht).run [] s1 (L2.start N vs) H _ I hq) (fun fl s' hs => ?_) fun e s' hs => hs
    have fin : ∀ {σ' : L2.St} {H' : Hp} {v : V} {u : Value}, L2.Inv (cxOf CX0 P w K mg base N qual (defScope st) f cdv A outer s H E) [] σ' H' s' → RelV v u → Q v H' → CE outer P w H s Q u s' :=
      fun J rv q => ⟨_, _, J.os, J.bare, J.base, J.hok, rv, q⟩
    cases fl with
    | next =>
      obtain ⟨σ', H', J, q⟩ := hs
      exact fin (v := .non) (u := .none) J rfl q
    | brk =>
      obtain ⟨_, _, _, q⟩ := hs
      exact q.elim
    | cont =>
      obtain ⟨_, _, _, q⟩ := hs
      exact q.elim
    | ret u =>
      obtain ⟨v, σ', H', J, rv, q⟩ := hs
      exact fin J rv q
/-- the law's own call -/
theorem law_callG {P : Program} {w : World} {K : PySem.W.Frag} {mg mb : PySem.Str → Option Value} {k : Nat} {fa a : Addr} {fd : FuncData} {x : PySem.Str} {sp : Sp} {s₁ : Shared} {vs : List Value} {ns : List Int}
    (KX : K.In s₁.heap) (hns : s₁.heap.Ns mainGlobals mg) (hb : s₁.heap.Ns builtinsNs mb) (hbb : ∀ x : PySem.Str, x ≠ Str.ofString "__name__" → mb x = bootBuiltins x) (hlim : s₁.heap.NoLimit) (hg : s₁.gens = #[])
    (ha : s₁.heap.get? a = some { cls := .type "list", data := .seq vs.toArray }) (hi : IntsAre vs ns) (hl : ns.length ≤ sizeLine) (hr : Room k callerA)
    (F : ∀ base : Heap, K.In base → base.Ns mainGlobals mg → FnOkG P w K mg base CX0 k fa fd [x] sp) (hbind : ∀ (s : Shared) (u : Value), BindsTo s fd ⟨[u], []⟩ [(x, u)])
    (hsp : ∀ H, Only H → SqL K H a (ns.map V.int) → sp [.ref a] H (fun v _ => v = .bl true) fun _ _ _ => False) :
    codeAny (model P w) callerA (.call (.ref fa) ⟨[.ref a], []⟩) (fun r s' => r = .ok (.ret (.bool true)) ∧ OldK s₁.heap s'.heap ∧ s'.os = s₁.os ∧ AllBare s'.gens) s₁ := by
  have rv := vals_ints hi
  have lenV := IntsAre.length hi
  have core : ∀ H : Hp, Only H → SqL K H a (ns.map V.int) → HOk P w H s₁.heap → (∀ b, H b ≠ none → b = a) → (H a ≠ none → List.lookup a K = none) →
      codeAny (model P w) callerA (.call (.ref fa) ⟨[.ref a], []⟩) (fun r s' => r = .ok (.ret (.bool true)) ∧ OldK s₁.heap s'.heap ∧ s'.os = s₁.os ∧ AllBare s'.gens) s₁ := by
    intro H hO hS hok hA hK
    have noA : ∀ {b : Addr} {o : Obj}, s₁.heap.get? b = some o → (∀ vs n, o.data ≠ .seq vs n) → H b = none := by
      intro b o e d
      cases hb' : H b with
      | none => rfl
      | some u =>
        have := hA b (by rw [hb']; exact fun z => nomatch z)
        subst this
        rw [ha] at e
        cases e
        exact absurd rfl (d _ _)
    have base_of : ∀ {b : Addr} {o : Obj}, s₁.heap.get? b = some o → H b = none → (hidT s₁.heap H).get? b = some o := fun e n => hidT_get e n
    have nsK : ∀ {b : Addr} {m : PySem.Str → Option Value}, s₁.heap.Ns b m → (hidT s₁.heap H).Ns b m := by
      rintro b m ⟨o, es, ep, e, d, r⟩
      exact ⟨o, es, ep, base_of e (noA e (by intro vs n; rw [d]; exact fun z => nomatch z)), d, r⟩
    have hKb : K.In (hidT s₁.heap H) := by
      intro b o e
      refine base_of (KX b o e) ?_
      cases hb' : H b with
      | none => rfl
      | some u =>
        have := hA b (by rw [hb']; exact fun z => nomatch z)
        subst this
        rw [hK (by rw [hb']; exact fun z => nomatch z)] at e
        cases e
    have hM : Mod K mg (hidT s₁.heap H) := by
      obtain ⟨mc, h1, h2⟩ := hlim
      exact ⟨hKb, nsK hns, ⟨mb, nsK hb, hbb⟩, ⟨mc, nsK h1, h2⟩⟩
    have e0 : Env0 P w K mg (hidT s₁.heap H) callerA [] s₁ H :=
      { frames := rfl, mod := hM, bs := fun b o e => of_hidT e, bsz := Nat.le_of_eq (hidT_size s₁.heap H), funs := trivial, frf := fun b hb => (List.not_mem_nil hb).elim, hok := hok, bare := AllBare.of_eq hg }
    refine codeAny_mono ((F _ hKb (nsK hns)).run callerA [] s₁ H ⟨[.ref a], []⟩ [.ref a] [.ref a] (fun v _ => v = .bl true) (fun _ _ _ => False) rfl hr e0 (hbind s₁ _) (.cons rfl .nil) (hsp H hO hS)) fun r s' h => ?_
    cases r with
    | error e => exact h.elim
    | ok fl =>
      cases fl with
      | next => exact h.elim
      | brk => exact h.elim
      | cont => exact h.elim
      | ret u =>
        obtain ⟨v, H', os, bare, un, hok', r', q⟩ := h
        subst q
        cases r'
        refine ⟨rfl, OldK.of_keep fun b o e => ?_, os, bare⟩
        cases hb' : H b with
        | none => exact un.keep b o e hb' (fun z => List.not_mem_nil z) (fun z => List.not_mem_nil z)
        | some u =>
          rcases hO b with z | ⟨ob, xs, z⟩
          · rw [hb'] at z
            cases z
          · have h1 := un.frzs b _ _ z
            have h2 := hok b _ z
            have h3 := hok' b _ h1
            have h4 := h2.1
            have h5 := h3.1
            rw [e] at h4
            cases h4
            exact h5
  cases hk : List.lookup a K with
  | none =>
    refine core (fun b => if b = a then some (.frz { cls := .type "list", data := .seq vs.toArray } (.lst (ns.map V.int))) else none) (fun b => ?_) (.inl (.inr ⟨_, if_pos rfl⟩)) (fun b u z => ?_) (fun b z => ?_) fun _ => hk
    · by_cases hb : b = a
      · exact .inr ⟨_, _, if_pos hb⟩
      · exact .inl (if_neg hb)
    · by_cases hb : b = a
      · have z' := (if_pos hb).symm.trans z
        cases z'
        subst hb
        exact ⟨ha, by rw [List.length_map]; exact hl, vs, 0, rv, ha⟩
      · have z' := (if_neg hb).symm.trans z
        cases z'
    · by_cases hb : b = a
      · exact hb
      · exact absurd (if_neg hb) z
  | some o =>
    have e := KX a o hk
    rw [ha] at e
    cases e
    refine core (fun _ => none) (fun _ => .inl rfl) (.inr ⟨_, vs.toArray, 0, hk, rfl, rfl, rfl, by rw [List.size_toArray, lenV]; exact hl, rv⟩) (fun b u z => nomatch z) (fun b z => absurd rfl z) fun z => absurd rfl z
theorem walk_ofG {l : PySem.W.OpenLaw} {n k : Nat} {q : Program} {loose : List PySem.Str} {XP : (PySem.Str → Option Value) → Heap → Prop} {YP : World → Heap → Prop} {d : DefRec} {K : Params → PySem.W.Frag} {sp : World → Sp} {x : PySem.Str}
    (hn : l.most = some n) (hn2 : n ≤ sizeLine) (hdf : d.params.defaults = []) (hr : Room k callerA) (hY : ∀ (w : World) (h : Heap), YP w h → (K w.params).In h)
    (F : ∀ (w : World) (mg : PySem.Str → Option Value) (fa : Addr) (h : Heap), (K w.params).In h → h.Ns mainGlobals mg → mg d.name = some (.ref fa) →
      ∃ fd, (∀ (s : Shared) (u : Value), BindsTo s fd ⟨[u], []⟩ [(x, u)]) ∧ ∀ base : Heap, (K w.params).In base → base.Ns mainGlobals mg → FnOkG l.prog w (K w.params) mg base CX0 k fa fd [x] (sp w))
    (hsp : ∀ (w : World) (H : Hp) (a : Addr) (ns : List Int), ns.length ≤ n → Only H → SqL (K w.params) H a (ns.map V.int) → sp w [.ref a] H (fun v _ => v = .bl true) fun _ _ _ => False) :
    PySem.W.WalkO q loose XP YP l.row.toRowW d [] fun f vs => call f vs :=
  Att.attach_call hn hdf fun w s₀ s₁ mg mb fa o pm cd doc a vs ns G Y ho hd hcd hmg hobj hints hlen hg => by
    have KX := hY w s₁.heap Y
    obtain ⟨fd, hb, hF⟩ := F w mg fa s₁.heap KX G.T.g hmg
    exact law_callG KX G.T.g G.T.b G.T.builtins G.T.nolimit hg hobj hints (Nat.le_trans hlen hn2) hr hF hb fun H hO hS => hsp w H a ns hlen hO hS
end SW

namespace SW
open PySem PySem.Spec PyProof.Rows L2
def rLenK (K : PySem.W.Frag) : List V → Hp → VK → Prop := fun xs H Q => ∃ p ys, xs = [.ref p] ∧ (SqL K H p ys ∨ SqT K H p ys) ∧ Q (.int (ys.length : Nat)) H
/-! ### data in lists -/
theorem dpa_snoc {K : PySem.W.Frag} {H : Hp} : ∀ {vs : List V} {ds : List PyData} {v : V} {d : PyData}, DpAll K H vs ds → Dp K H v d → DpAll K H (vs ++ [v]) (ds ++ [d])
  | _, _, _, _, .nil, h => .cons h .nil
  | _, _, _, _, .cons h1 h2, h => .cons h1 (dpa_snoc h2 h)
theorem dpa_len {K : PySem.W.Frag} {H : Hp} : ∀ {vs : List V} {ds : List PyData}, DpAll K H vs ds → vs.length = ds.length
  | _, _, .nil => rfl
  | _, _, .cons _ h => congrArg (· + 1) (dpa_len h)
theorem dpa_get {K : PySem.W.Frag} {H : Hp} : ∀ {vs : List V} {ds : List PyData} {j : Nat} {v : V}, DpAll K H vs ds → vs[j]? = some v → ∃ d, ds[j]? = some d ∧ Dp K H v d
  | _, _, 0, _, .cons h _, e => by
    cases e
    exact ⟨_, rfl, h⟩
  | _, _, j + 1, _, .cons _ h, e => dpa_get (j := j) h e
theorem dpa_get' {K : PySem.W.Frag} {H : Hp} : ∀ {vs : List V} {ds : List PyData} {j : Nat} {d : PyData}, DpAll K H vs ds → ds[j]? = some d → ∃ v, vs[j]? = some v ∧ Dp K H v d
  | _, _, 0, _, .cons h _, e => by
    cases e
    exact ⟨_, rfl, h⟩
  | _, _, j + 1, _, .cons _ h, e => dpa_get' (j := j) h e
theorem dpa_set {K : PySem.W.Frag} {H : Hp} : ∀ {vs : List V} {ds : List PyData} {j : Nat} {v : V} {d : PyData}, DpAll K H vs ds → Dp K H v d → DpAll K H (vs.set j v) (ds.set j d)
  | _, _, _, _, _, .nil, _ => .nil
  | _, _, 0, _, _, .cons _ h, e => .cons e h
  | _, _, j + 1, _, _, .cons h1 h, e => .cons h1 (dpa_set (j := j) h e)
theorem dpa_app {K : PySem.W.Frag} {H : Hp} : ∀ {vs us : List V} {ds es : List PyData}, DpAll K H vs ds → DpAll K H us es → DpAll K H (vs ++ us) (ds ++ es)
  | _, _, _, _, .nil, h => h
  | _, _, _, _, .cons h1 h2, h => .cons h1 (dpa_app h2 h)
theorem dpa_drop {K : PySem.W.Frag} {H : Hp} : ∀ {vs : List V} {ds : List PyData} (n : Nat), DpAll K H vs ds → DpAll K H (vs.drop n) (ds.drop n)
  | _, _, 0, h => h
  | _, _, _ + 1, .nil => .nil
  | _, _, n + 1, .cons _ h => dpa_drop n h
theorem dpa_take {K : PySem.W.Frag} {H : Hp} : ∀ {vs : List V} {ds : List PyData} (n : Nat), DpAll K H vs ds → DpAll K H (vs.take n) (ds.take n)
  | _, _, 0, _ => .nil
  | _, _, _ + 1, .nil => .nil
  | _, _, n + 1, .cons h1 h => .cons h1 (dpa_take n h)
theorem dpa_rev {K : PySem.W.Frag} {H : Hp} : ∀ {vs : List V} {ds : List PyData}, DpAll K H vs ds → DpAll K H vs.reverse ds.reverse
  | _, _, .nil => .nil
  | _, _, .cons h1 h => by
    rw [List.reverse_cons, List.reverse_cons]
    exact dpa_snoc (dpa_rev h) h1
theorem dpa_ints {K : PySem.W.Frag} {H : Hp} : ∀ ns : List Int, DpAll K H (ns.map V.int) (ns.map PyData.int)
  | [] => .nil
  | x :: r => .cons (.int x) (dpa_ints r)
theorem dpa_ints' {K : PySem.W.Frag} {H : Hp} : ∀ {vs : List V} {ns : List Int}, DpAll K H vs (ns.map PyData.int) → vs = ns.map V.int
  | _, [], .nil => rfl
  | _, _ :: _, .cons (.int x) h => congrArg (V.int x :: ·) (dpa_ints' h)
theorem dpa_bls' {K : PySem.W.Frag} {H : Hp} : ∀ {vs : List V} {ns : List Bool}, DpAll K H vs (ns.map PyData.bool) → vs = ns.map V.bl
  | _, [], .nil => rfl
  | _, _ :: _, .cons (.bl x) h => congrArg (V.bl x :: ·) (dpa_bls' h)
theorem int_dec (x y : Int) : decide (V.int x = V.int y) = decide (x = y) := decide_eq_decide.mpr ⟨fun h => by injection h, fun h => by rw [h]⟩
/-! ### parts of lists -/
theorem cutv_from (xs : List V) (n : Nat) : cutV xs (some (n : Int)) none = xs.drop n := by
  unfold cutV
  rw [HT.sIx_nat, HT.sIx_none]
  by_cases h : n ≤ xs.length
  · rw [Nat.min_eq_left h]
    exact List.take_of_length_le (by rw [List.length_drop]; exact Nat.le_refl _)
  · rw [Nat.min_eq_right (by omega), List.drop_eq_nil_of_le (Nat.le_refl _), List.drop_eq_nil_of_le (by omega)]
    exact List.take_nil
theorem cutv_first (xs : List V) (n : Nat) : cutV xs none (some (n : Int)) = xs.take n := by
  unfold cutV
  rw [HT.sIx_nat, HT.sIx_none, List.drop_zero, Nat.sub_zero]
  by_cases h : n ≤ xs.length
  · rw [Nat.min_eq_left h]
  · rw [Nat.min_eq_right (by omega), List.take_of_length_le (Nat.le_refl _), List.take_of_length_le (by omega)]
theorem cutv_part (xs : List V) (n m : Nat) (h : n ≤ m) : cutV xs (some (n : Int)) (some (m : Int)) = (xs.drop n).take (m - n) := by
  unfold cutV
  rw [HT.sIx_nat, HT.sIx_nat]
  by_cases h1 : n ≤ xs.length
  · rw [Nat.min_eq_left h1]
    by_cases h2 : m ≤ xs.length
    · rw [Nat.min_eq_left h2]
    · rw [Nat.min_eq_right (by omega), List.take_of_length_le (by rw [List.length_drop]; exact Nat.le_refl _), List.take_of_length_le (by rw [List.length_drop]; omega)]
  · rw [List.drop_eq_nil_of_le (show xs.length ≤ min n xs.length by omega), List.drop_eq_nil_of_le (show xs.length ≤ n by omega), List.take_nil, List.take_nil]
theorem at_neg1 {xs : List V} {v : V} (h : xs[xs.length - 1]? = some v) : atI xs (-1) = some v := by
  have hl : xs ≠ [] := fun e => by
    rw [e] at h
    cases h
  have e := List.dropLast_concat_getLast hl
  rw [← List.getLast?_eq_getElem?, List.getLast?_eq_getLast hl] at h
  cases h
  conv => lhs; rw [← e]
  exact atI_last _ _
/-! ### a comprehension over any walk, whose items are data without lists -/
theorem lc_data {K : PySem.W.Frag} {J : It} {n : Nat} {G : Hp → Prop} {Y : Nat → Hp → V → Hp → Prop} (w : Walk J n G Y) {g : TG} {te : TE} {vs : List Nat} {σ : L2.St} {H1 : Hp} {D : Addr} {Qd : Hp → Prop} (hD : H1 D = none) (f : Nat → PyData) (hn : n ≤ 100000)
    (hf : ∀ i, i < n → noL (f i) = true) (hG : ∀ H, Same H1 H → G H)
    (hs : ∀ (i : Nat) (x : V) (H H' : Hp) (Q : V → Hp → Prop), i < n → Same H1 H → Y i H x H' → (∀ y H4, Same H H4 → Dp K H4 y (f i) → Q y H4) → g x (wipe σ vs) H' fun σ2 H2 => wipe σ2 vs = wipe σ vs ∧ te σ2 H2 Q)
    (hd : ∀ H ys, Same H1 H → H D = some (.lst ys) → DpAll K H ys ((List.range n).map f) → Qd H) :
    ∃ W : Nat → Nat → Hp → Prop, (∃ m, W 0 m (upd H1 D (.lst []))) ∧ ∀ i m H, W i m H → (J.stop i H ∧ Qd H) ∨ (J.go i H ∧ ∃ Nx : Hp → Prop, (∀ H', Nx H' → ∃ m', m' < m ∧ W (i + 1) m' H') ∧
      ∀ x H', J.yld i H x H' → g x (wipe σ vs) H' fun σ2 H2 => wipe σ2 vs = wipe σ vs ∧ tYes σ2 H2 fun b H3 => if b = true then te σ2 H3 fun y H4 => ∃ acc, H4 D = some (.lst acc) ∧ acc.length < sizeLine ∧ Nx (upd H4 D (.lst (acc ++ [y]))) else Nx H3) := by
  let Pv : Nat → Hp → Prop := fun i H => Same H1 H ∧ ∃ ys, H D = some (.lst ys) ∧ DpAll K H ys ((List.range i).map f)
  refine ⟨fun i m H => m = n - i ∧ i ≤ n ∧ Pv i H, ⟨n, rfl, Nat.zero_le _, same_new hD, [], upd_same, .nil⟩, ?_⟩
  rintro i m H ⟨rfl, hi, s1, ys, e, ha⟩
  by_cases hlt : i < n
  · refine .inr ⟨w.goes i H hlt (hG H s1), Pv (i + 1), fun H' p => ⟨n - (i + 1), by omega, rfl, hlt, p⟩, fun x H' y => ?_⟩
    refine hs i x H H' _ hlt s1 (w.yields i H x H' hlt (hG H s1) y) fun y H4 s4 h4 => ?_
    have e4 : H4 D = some (.lst ys) := s4 _ _ e
    refine ⟨ys, e4, ?_, same_mut (s1.trans s4) hD, ys ++ [y], upd_same, ?_⟩
    · rw [dpa_len ha, List.length_map, List.length_range]
      exact small_sz5 (by omega)
    · rw [List.range_succ, List.map_append]
      have b4 : But D H4 (upd H4 D (.lst (ys ++ [y]))) := fun c o hc eo => (upd_ne hc).trans eo
      refine dpa_snoc (dpa_but e4 b4 _ _ ?_ (dpa_same s4 _ _ ha)) (dp_but e4 b4 _ _ (hf i hlt) h4)
      clear h4 e4 s4 ha
      generalize hr : List.range i = l
      have : ∀ j, j ∈ l → j < n := fun j hj => by
        rw [← hr] at hj
        have := List.mem_range.mp hj
        omega
      clear hr
      induction l with
      | nil => rfl
      | cons a r ih =>
        show (noL (f a) && noLs (r.map f)) = true
        rw [hf a (this a List.mem_cons_self), ih fun j hj => this j (List.mem_cons_of_mem _ hj)]
        rfl
  · have : i = n := by omega
    subst this
    exact .inl ⟨w.stops H (hG H s1), hd H ys s1 e ha⟩
theorem range_map {α β : Type} (xs : List α) (g : α → β) (f : Nat → β) (h : ∀ i x, xs[i]? = some x → f i = g x) : (List.range xs.length).map f = xs.map g := by
  refine List.ext_getElem? fun i => ?_
  rw [List.getElem?_map, List.getElem?_map]
  by_cases hi : i < xs.length
  · rw [List.getElem?_range hi, List.getElem?_eq_getElem hi]
    exact congrArg some (h i _ (List.getElem?_eq_getElem hi))
  · rw [List.getElem?_eq_none (by rw [List.length_range]; omega), List.getElem?_eq_none (by omega)]
    rfl
theorem ints_get {ns : List Int} {j : Nat} {n : Int} (h : ns[j]? = some n) : (ns.map V.int)[j]? = some (.int n) := by
  rw [List.getElem?_map, h]
  rfl
theorem ints_at {ns : List Int} {j : Nat} (h : j < ns.length) : atI (ns.map V.int) (j : Int) = some (.int ns[j]) := atI_nat (ints_get (List.getElem?_eq_getElem h))
end SW

namespace SW
open PySem PySem.Spec PyProof.Rows L2
/-! This text stands for SwTw and SwTg in laws whose program reads no texts (the same names: never both). -/
/-! ### a promise that nobody calls for -/
theorem fn_never {P : Program} {w : World} {K : PySem.W.Frag} {mg : PySem.Str → Option Value} {base : Heap} {k : Nat} {f : Addr} {fd : FuncData} {ps : List PySem.Str} : FnOk P w K mg base CX0 k f fd ps (fun _ _ _ _ => False) :=
  ⟨fun _ _ _ _ h => h.elim, fun _ _ _ _ _ _ _ _ _ _ _ _ _ h => h.elim⟩
theorem fn_or {P : Program} {w : World} {K : PySem.W.Frag} {mg : PySem.Str → Option Value} {base : Heap} {CX : CXT} {k : Nat} {f : Addr} {fd : FuncData} {ps : List PySem.Str} {sp1 sp2 : Sp} (F : FnOk P w K mg base CX k f fd ps sp1) (G : FnOk P w K mg base CX k f fd ps sp2) :
    FnOk P w K mg base CX k f fd ps (fun vs H Q E => sp1 vs H Q E ∨ sp2 vs H Q E) :=
  ⟨fun vs H Q E h => h.elim (F.len vs H Q E) (G.len vs H Q E), fun A outer s H args us vs Q E hr he hb hv h => h.elim (F.run A outer s H args us vs Q E hr he hb hv) (G.run A outer s H args us vs Q E hr he hb hv)⟩
/-! ### data opened -/
theorem dp_str_inv {K : PySem.W.Frag} {H : Hp} {v : V} {x : PySem.Str} (h : Dp K H v (.str x)) : v = .str x := by
  cases h
  rfl
theorem dp_int_inv {K : PySem.W.Frag} {H : Hp} {v : V} {i : Int} (h : Dp K H v (.int i)) : v = .int i := by
  cases h
  rfl
theorem dp_bl_inv {K : PySem.W.Frag} {H : Hp} {v : V} {b : Bool} (h : Dp K H v (.bool b)) : v = .bl b := by
  cases h
  rfl
theorem dp_tup_inv {K : PySem.W.Frag} {H : Hp} {v : V} {ds : List PyData} (h : Dp K H v (.tuple ds)) : ∃ a xs, v = .ref a ∧ SqT K H a xs ∧ DpAll K H xs ds := by
  cases h with
  | tup hs ha => exact ⟨_, _, rfl, hs, ha⟩
theorem dp_inv2 {K : PySem.W.Frag} {H : Hp} {v : V} {d1 d2 : PyData} (h : Dp K H v (.tuple [d1, d2])) : ∃ a v1 v2, v = .ref a ∧ SqT K H a [v1, v2] ∧ Dp K H v1 d1 ∧ Dp K H v2 d2 := by
  obtain ⟨a, xs, e, hs, ha⟩ := dp_tup_inv h
  cases ha with
  | cons h1 ha =>
    cases ha with
    | cons h2 ha =>
      cases ha
      exact ⟨a, _, _, e, hs, h1, h2⟩
theorem dp_inv3 {K : PySem.W.Frag} {H : Hp} {v : V} {d1 d2 d3 : PyData} (h : Dp K H v (.tuple [d1, d2, d3])) : ∃ a v1 v2 v3, v = .ref a ∧ SqT K H a [v1, v2, v3] ∧ Dp K H v1 d1 ∧ Dp K H v2 d2 ∧ Dp K H v3 d3 := by
  obtain ⟨a, xs, e, hs, ha⟩ := dp_tup_inv h
  cases ha with
  | cons h1 ha =>
    cases ha with
    | cons h2 ha =>
      cases ha with
      | cons h3 ha =>
        cases ha
        exact ⟨a, _, _, _, e, hs, h1, h2, h3⟩
theorem dp_inv4 {K : PySem.W.Frag} {H : Hp} {v : V} {d1 d2 d3 d4 : PyData} (h : Dp K H v (.tuple [d1, d2, d3, d4])) : ∃ a v1 v2 v3 v4, v = .ref a ∧ SqT K H a [v1, v2, v3, v4] ∧ Dp K H v1 d1 ∧ Dp K H v2 d2 ∧ Dp K H v3 d3 ∧ Dp K H v4 d4 := by
  obtain ⟨a, xs, e, hs, ha⟩ := dp_tup_inv h
  cases ha with
  | cons h1 ha =>
    cases ha with
    | cons h2 ha =>
      cases ha with
      | cons h3 ha =>
        cases ha with
        | cons h4 ha =>
          cases ha
          exact ⟨a, _, _, _, _, e, hs, h1, h2, h3, h4⟩
theorem int_at {ns : List Int} {r : Int} (h0 : 0 ≤ r) (h1 : r < ns.length) : ∃ z, z ∈ ns ∧ atI (ns.map V.int) r = some (.int z) := by
  obtain ⟨j, rfl⟩ : ∃ j : Nat, r = j := ⟨r.toNat, by omega⟩
  have hj : j < ns.length := by omega
  refine ⟨ns[j], List.getElem_mem hj, atI_nat ?_⟩
  rw [List.getElem?_map, List.getElem?_eq_getElem hj]
  rfl
theorem But.same {h : Addr} {H H1 H2 : Hp} (a : But h H H1) (b : Same H1 H2) : But h H H2 := a.trans (Same.but b)
theorem tup_at {K : PySem.W.Frag} {H : Hp} {xs : List V} {ds : List PyData} {j : Nat} {d : PyData} (ha : DpAll K H xs ds) (e : ds[j]? = some d) : ∃ v, atI xs (j : Int) = some v ∧ Dp K H v d := by
  obtain ⟨v, h1, h2⟩ := dpa_get' ha e
  exact ⟨v, atI_nat h1, h2⟩
end SW

namespace SW
open PySem PySem.Spec PyProof.Rows L2
/-! ### dicts whose keys are tuples within tuples -/
mutual
theorem nest_of {X : Cx} {pins : List (Addr × Obj)} {σ : L2.St} {H : Hp} {s : Shared} (I : Inv X pins σ H s) : ∀ (k : NestedKey) (v : V) (u : Value), Dp X.K H v k.data → RelV v u → NestedIs s.heap k u
  | .none, _, u, h, r => by
    unfold NestedKey.data at h
    cases h
    cases r
    exact .none
  | .num i, _, u, h, r => by
    unfold NestedKey.data at h
    cases h
    obtain ⟨t, rfl⟩ := r
    exact .int i t
  | .text x, _, u, h, r => by
    unfold NestedKey.data at h
    cases h
    obtain ⟨t, rfl⟩ := r
    exact .text x t
  | .tup ks, _, u, h, r => by
    unfold NestedKey.data at h
    cases h with
    | tup hs ha =>
      cases r
      obtain ⟨its, rv, ⟨o, h1, h2, n, h3⟩, _⟩ := I.tuple hs
      exact .tup h1 h2 h3 (nests_of I ks _ _ ha rv)
theorem nests_of {X : Cx} {pins : List (Addr × Obj)} {σ : L2.St} {H : Hp} {s : Shared} (I : Inv X pins σ H s) : ∀ (ks : List NestedKey) (vs : List V) (us : List Value), DpAll X.K H vs (NestedKey.datas ks) → Vals vs us → NestedAll s.heap ks us
  | [], _, us, h, r => by
    unfold NestedKey.datas at h
    cases h
    cases r
    exact .nil
  | k :: ks, _, us, h, r => by
    unfold NestedKey.datas at h
    cases h with
    | cons h1 h2 =>
      cases r with
      | cons r1 r2 => exact .cons (nest_of I k _ _ h1 r1) (nests_of I ks _ _ h2 r2)
end
mutual
theorem noL_nk : ∀ k : NestedKey, noL k.data = true
  | .none => by unfold NestedKey.data; rfl
  | .num _ => by unfold NestedKey.data; rfl
  | .text _ => by unfold NestedKey.data; rfl
  | .tup ks => by
    unfold NestedKey.data
    show noLs (NestedKey.datas ks) = true
    exact noLs_nk ks
theorem noLs_nk : ∀ ks : List NestedKey, noLs (NestedKey.datas ks) = true
  | [] => by unfold NestedKey.datas; rfl
  | k :: ks => by
    unfold NestedKey.datas
    show (noL k.data && noLs (NestedKey.datas ks)) = true
    rw [noL_nk k, noLs_nk ks]
    rfl
end
mutual
theorem dp_tups {K : PySem.W.Frag} {H H' : Hp} (m : ∀ b xs, SqT K H b xs → SqT K H' b xs) : ∀ (d : PyData) (v : V), noL d = true → Dp K H v d → Dp K H' v d
  | .none, _, _, e => by
    cases e
    exact .non
  | .bool b, _, _, e => by
    cases e
    exact .bl b
  | .int i, _, _, e => by
    cases e
    exact .int i
  | .str x, _, _, e => by
    cases e
    exact .str x
  | .list ds, _, n, _ => by
    unfold noL at n
    cases n
  | .tuple ds, _, n, e => by
    cases e with
    | tup hs ha => exact .tup (m _ _ hs) (dpa_tups m ds _ (by unfold noL at n; exact n) ha)
  | .dict _, _, _, e => by cases e
theorem dpa_tups {K : PySem.W.Frag} {H H' : Hp} (m : ∀ b xs, SqT K H b xs → SqT K H' b xs) : ∀ (ds : List PyData) (vs : List V), noLs ds = true → DpAll K H vs ds → DpAll K H' vs ds
  | [], _, _, e => by
    cases e
    exact .nil
  | d :: ds, _, n, e => by
    unfold noLs at n
    rw [Bool.and_eq_true] at n
    cases e with
    | cons h1 h2 => exact .cons (dp_tups m d _ n.1 h1) (dpa_tups m ds _ n.2 h2)
end
def ExO (o : Obj) (a : Addr) : HO := .ext fun h => h.get? a = some o
/-- a pair in the dict, and where its key stands -/
def NPair (K : PySem.W.Frag) (H : Hp) (p : NestedKey × V) (q : NestedKey × Addr × Value) : Prop := p.1 = q.1 ∧ Dp K H (.ref q.2.1) p.1.data ∧ p.1.depth ≤ 8 ∧ RelV p.2 q.2.2
/-- at a stands a dict of these pairs -/
structure DN (P : Program) (w : World) (K : PySem.W.Frag) (H : Hp) (a : Addr) (kvs : List (NestedKey × V)) : Prop where
  sm : (a == sysModules) = false
  ln : kvs.length ≤ sizeLine
  ob : ∃ (o : Obj) (es : Array DictEntry) (ep : Nat) (xs : List (NestedKey × Addr × Value)), H a = some (ExO o a) ∧ o.ExactDict ∧ o.data = .dict es ep ∧ es.toList = xs.map (entryOfKey (nestedKind P w)) ∧ (xs.map (·.1)).Nodup ∧ Paired (NPair K H) kvs xs
theorem npair_mono {K : PySem.W.Frag} {H H' : Hp} (m : ∀ (d : PyData) (v : V), noL d = true → Dp K H v d → Dp K H' v d) : ∀ {kvs : List (NestedKey × V)} {xs : List (NestedKey × Addr × Value)}, Paired (NPair K H) kvs xs → Paired (NPair K H') kvs xs
  | _, _, .nil => .nil
  | _, _, .cons h t => .cons ⟨h.1, m _ _ (noL_nk _) h.2.1, h.2.2.1, h.2.2.2⟩ (npair_mono m t)
theorem DN.same {P : Program} {w : World} {K : PySem.W.Frag} {H H' : Hp} {a : Addr} {kvs : List (NestedKey × V)} (D : DN P w K H a kvs) (s : Same H H') : DN P w K H' a kvs := by
  obtain ⟨o, es, ep, xs, e, h1, h2, h3, h4, r⟩ := D.ob
  exact ⟨D.sm, D.ln, o, es, ep, xs, s _ _ e, h1, h2, h3, h4, npair_mono (fun d v _ h => dp_same s d v h) r⟩
/-- a list elsewhere has changed -/
theorem DN.but {P : Program} {w : World} {K : PySem.W.Frag} {H H' : Hp} {a h : Addr} {ys : List V} {kvs : List (NestedKey × V)} (D : DN P w K H a kvs) (hl : H h = some (.lst ys)) (s : But h H H') : DN P w K H' a kvs := by
  obtain ⟨o, es, ep, xs, e, h1, h2, h3, h4, r⟩ := D.ob
  refine ⟨D.sm, D.ln, o, es, ep, xs, s _ _ (fun q => ?_) e, h1, h2, h3, h4, npair_mono (fun d v n hd => dp_but hl s d v n hd) r⟩
  rw [q, hl] at e
  cases e
theorem npair_is {X : Cx} {pins : List (Addr × Obj)} {σ : L2.St} {H : Hp} {s : Shared} (I : Inv X pins σ H s) : ∀ {kvs : List (NestedKey × V)} {xs : List (NestedKey × Addr × Value)}, Paired (NPair X.K H) kvs xs → ∀ x, x ∈ xs → (nestedKind X.prog X.w).is s.heap x.1 x.2.1
  | _, _, .nil, _, hx => nomatch hx
  | _, _, .cons h t, x, hx => by
    rcases List.mem_cons.mp hx with rfl | hx
    · obtain ⟨e, hd, hp, _⟩ := h
      rw [e] at hd hp
      exact ⟨nest_of I _ _ _ hd rfl, hp⟩
    · exact npair_is I t x hx
theorem dn_of {X : Cx} {pins : List (Addr × Obj)} {σ : L2.St} {H : Hp} {s : Shared} {a : Addr} {kvs : List (NestedKey × V)} (I : Inv X pins σ H s) (D : DN X.prog X.w X.K H a kvs) : ∃ xs, Paired (NPair X.K H) kvs xs ∧ s.heap.DictOfH (nestedKind X.prog X.w) a xs := by
  obtain ⟨o, es, ep, xs, e, h1, h2, h3, h4, r⟩ := D.ob
  obtain ⟨g, _, _⟩ := (show ObjOk X.prog X.w H s.heap a (ExO o a) from I.hok a _ e)
  exact ⟨xs, r, o, es, ep, g, h1, h2, h3, npair_is I r, h4⟩
theorem npair_val {K : PySem.W.Frag} {H : Hp} (k : NestedKey) : ∀ {kvs : List (NestedKey × V)} {xs : List (NestedKey × Addr × Value)}, Paired (NPair K H) kvs xs → RelO (valV kvs k) ((atKey xs k).map (·.2))
  | _, _, .nil => trivial
  | p :: ps, q :: qs, .cons h t => by
    by_cases e : p.1 = k
    · have b : atKey (q :: qs) k = some q.2 := by simp [atKey, List.find?_cons, h.1.symm.trans e]
      rw [valV_pos e, b]
      exact h.2.2.2
    · have e2 : ¬ q.1 = k := fun z => e (h.1.trans z)
      have b : atKey (q :: qs) k = atKey qs k := by simp [atKey, List.find?_cons, e2]
      rw [valV_neg e, b]
      exact npair_val k t
theorem npair_put {K : PySem.W.Frag} {H : Hp} {k : NestedKey} {b : Addr} {y : V} {u : Value} (hd : Dp K H (.ref b) k.data) (hp : k.depth ≤ 8) (ry : RelV y u) {kvs : List (NestedKey × V)} {xs : List (NestedKey × Addr × Value)} (r : Paired (NPair K H) kvs xs) : Paired (NPair K H) (putK kvs k y) (storedH xs k b u) := by
  have e : (kvs.any fun kv => decide (kv.1 = k)) = (atKey xs k).isSome := by
    rw [valV_any, (npair_val k r).isSome_eq, Option.isSome_map]
  unfold putK storedH
  rw [e]
  by_cases hq : (atKey xs k).isSome = true
  · rw [if_pos hq, if_pos hq]
    clear e hq
    induction r with
    | nil => exact .nil
    | @cons p q ps qs h t ih =>
      refine .cons ?_ ih
      obtain ⟨h1, h2, h3, h4⟩ := h
      show NPair K H (if p.1 = k then (p.1, y) else p) (if q.1 = k then (q.1, q.2.1, u) else q)
      by_cases e : p.1 = k
      · rw [if_pos e, if_pos (h1.symm.trans e)]
        exact ⟨h1, h2, h3, ry⟩
      · rw [if_neg e, if_neg (fun z => e (h1.trans z))]
        exact ⟨h1, h2, h3, h4⟩
  · rw [if_neg hq, if_neg hq]
    clear e hq
    induction r with
    | nil => exact .cons ⟨rfl, hd, hp, ry⟩ .nil
    | cons h t ih => exact .cons h ih
theorem paired_len {α β : Type} {R : α → β → Prop} : ∀ {xs : List α} {ys : List β}, Paired R xs ys → xs.length = ys.length
  | _, _, .nil => rfl
  | _, _, .cons _ t => congrArg Nat.succ (paired_len t)
theorem putN_len (c : List (NestedKey × V)) (k : NestedKey) (x : V) : (putK c k x).length ≤ c.length + 1 := by
  unfold putK
  split
  · rw [List.length_map]
    omega
  · rw [List.length_append]
    exact Nat.le_refl _
theorem dp_ext {K : PySem.W.Frag} {H : Hp} {a : Addr} {o : Obj} {u : HO} (e : H a = some (ExO o a)) (d : PyData) (v : V) (n : noL d = true) (h : Dp K H v d) : Dp K (upd H a u) v d :=
  dp_tups (fun b xs hs => by
    have ne : ∀ {z : HO}, H b = some z → z ≠ ExO o a → b ≠ a := fun h1 h2 q => by
      rw [q, e] at h1
      exact h2 (Option.some.inj h1).symm
    rcases hs with (hs | ⟨p, hs⟩) | hs
    · exact .inl (.inl ((upd_ne (ne hs (fun q => nomatch q))).trans hs))
    · exact .inl (.inr ⟨p, (upd_ne (ne hs (fun q => nomatch q))).trans hs⟩)
    · exact .inr hs) d v n h
theorem nk_is {X : Cx} {pins : List (Addr × Obj)} {σ : L2.St} {H : Hp} {s : Shared} (I : Inv X pins σ H s) {k : NestedKey} {b : Addr} (hd : Dp X.K H (.ref b) k.data) (hp : k.depth ≤ 8) : (nestedKind X.prog X.w).is s.heap k b := ⟨nest_of I _ _ _ hd rfl, hp⟩
theorem nk_room1 {X : Cx} (hu : X.A.units + 65 < cLine) : (nestedKind X.prog X.w).room X.A.in1 := by
  show X.A.units + 1 + 8 < cLine
  omega
theorem nk_room {X : Cx} (hu : X.A.units + 65 < cLine) : (nestedKind X.prog X.w).room X.A := by
  show X.A.units + 8 < cLine
  omega
section
variable {X : Cx}
/-- d[k], there -/
def rIxN (P : Program) (w : World) (K : PySem.W.Frag) : R2 := fun x y H Q => ∃ (a b : Addr) (kvs : List (NestedKey × V)) (k : NestedKey) (v : V), x = .ref a ∧ y = .ref b ∧ DN P w K H a kvs ∧ Dp K H (.ref b) k.data ∧ k.depth ≤ 8 ∧ valV kvs k = some v ∧ Q v H
theorem ix_nest (hu : X.A.units + 65 < cLine) : IxR X (rIxN X.prog X.w X.K) := by
  intro value slice pins s σ H x y v u Q I rx ry h hs
  obtain ⟨a, b, kvs, k, r, rfl, rfl, D, hd, hp, hv, q⟩ := h
  cases rx
  cases ry
  obtain ⟨xs, rel, dd⟩ := dn_of I D
  have rv := npair_val k rel
  rw [hv] at rv
  obtain ⟨w', hw, rw'⟩ := RelO.some_of rv
  obtain ⟨p, hp1, hp2⟩ := Option.map_eq_some_iff.mp hw
  refine tail_any dd.typeIs slot_dict_getitem.lookup (wpAny_getItem_heap (nk_room1 hu) (nk_is I hd hp) dd hp1 ?_) hs
  rw [hp2]
  exact ⟨r, H, I.tok _, rw', q⟩
/-- k not in d -/
def rNotN (P : Program) (w : World) (K : PySem.W.Frag) : R2 := fun x y H Q => ∃ (b a : Addr) (kvs : List (NestedKey × V)) (k : NestedKey), x = .ref b ∧ y = .ref a ∧ DN P w K H a kvs ∧ Dp K H (.ref b) k.data ∧ k.depth ≤ 8 ∧ Q (.bl (!(valV kvs k).isSome)) H
theorem op_notN' (hu : X.A.units + 65 < cLine) : OpR X (compareOp .NotIn) (rNotN X.prog X.w X.K) := by
  intro pins s σ H x y v u Q I rx ry h
  obtain ⟨b, a, kvs, k, rfl, rfl, D, hd, hp, q⟩ := h
  cases rx
  cases ry
  obtain ⟨xs, rel, dd⟩ := dn_of I D
  refine wpAny_notIn_heap (nk_room1 hu) (nk_is I hd hp) D.sm dd ?_
  have e := (npair_val k rel).isSome_eq
  rw [Option.isSome_map] at e
  rw [← e]
  exact ⟨.bl _, H, I.tok _, rfl, q⟩
theorem dn_put {pins : List (Addr × Obj)} {σ : L2.St} {H : Hp} {s : Shared} {a b : Addr} {kvs : List (NestedKey × V)} {xs : List (NestedKey × Addr × Value)} {k : NestedKey} {y : V} {u : Value} {h' : Heap} {tk : Nat} (I : Inv X pins σ H s) (D : DN X.prog X.w X.K H a kvs) (rel : Paired (NPair X.K H) kvs xs)
    (hd : Dp X.K H (.ref b) k.data) (hp : k.depth ≤ 8) (ry : RelV y u) (hz : kvs.length < sizeLine) (dd : h'.DictOfH (nestedKind X.prog X.w) a (storedH xs k b u)) (sb : Heap.SameBut a s.heap h') :
    ∃ o', Inv X pins σ (upd H a (ExO o' a)) { s with heap := h', toks := tk } ∧ DN X.prog X.w X.K (upd H a (ExO o' a)) a (putK kvs k y) := by
  obtain ⟨o, es, ep, xs0, e, _⟩ := D.ob
  obtain ⟨o', es', ep', g1, g2, g3, g4, _, g5⟩ := dd
  have mv : ∀ (d : PyData) (v : V), noL d = true → Dp X.K H v d → Dp X.K (upd H a (ExO o' a)) v d := fun d v n hv => dp_ext e d v n hv
  refine ⟨o', d_write I (by rw [e]; exact True.intro) sb ⟨o', g1⟩ ⟨g1, ⟨o', g1⟩, fun h1 h2 k1 k2 => k2 _ k1⟩, D.sm, ?_, o', es', ep', _, upd_same, g2, g3, g4, g5, npair_mono mv (npair_put hd hp ry rel)⟩
  have := putN_len kvs k y
  omega
/-- d[k] = y -/
def rSetN (P : Program) (w : World) (K : PySem.W.Frag) : TSet := fun o i v H Q => ∃ (a b : Addr) (kvs : List (NestedKey × V)) (k : NestedKey), o = .ref a ∧ i = .ref b ∧ DN P w K H a kvs ∧ Dp K H (.ref b) k.data ∧ k.depth ≤ 8 ∧ kvs.length < sizeLine ∧
  ∀ o', DN P w K (upd H a (ExO o' a)) a (putK kvs k v) → Q (upd H a (ExO o' a))
theorem set_nest (hu : X.A.units + 65 < cLine) : PSet X (rSetN X.prog X.w X.K) := by
  intro pins s σ H o i v ov iv u Q I ro ri rv h
  obtain ⟨a, b, kvs, k, rfl, rfl, D, hd, hp, hz, q⟩ := h
  cases ro
  cases ri
  obtain ⟨xs, rel, dd⟩ := dn_of I D
  refine wpAny_setItem_heap (hsz := by rw [← paired_len rel]; omega) (nk_room1 hu) (nk_is I hd hp) dd fun h' dd' sb => ?_
  obtain ⟨o', I', D'⟩ := dn_put I D rel hd hp rv hz dd' sb
  exact ⟨_, I', q o' D'⟩
/-- d[k] = y, in a comprehension -/
theorem dn_comp {pins : List (Addr × Obj)} {σ : L2.St} {H : Hp} {s : Shared} {E : Value → Shared → Prop} {a b : Addr} {kvs : List (NestedKey × V)} {k : NestedKey} {y : V} {u : Value} {Q : Unit → Shared → Prop} (hu : X.A.units + 65 < cLine) (I : Inv X pins σ H s) (D : DN X.prog X.w X.K H a kvs) (hd : Dp X.K H (.ref b) k.data) (hp : k.depth ≤ 8) (rv : RelV y u) (hz : kvs.length < sizeLine)
    (q : ∀ o' s', DN X.prog X.w X.K (upd H a (ExO o' a)) a (putK kvs k y) → Inv X pins σ (upd H a (ExO o' a)) s' → Q () s') : wpAny (model X.prog X.w) X.A (dictSet a (.ref b) u) Q E s := by
  obtain ⟨xs, rel, dd⟩ := dn_of I D
  refine wpAny_dictSet_heap (hsz := by rw [← paired_len rel]; omega) (nk_room hu) (nk_is I hd hp) dd fun h' dd' sb => ?_
  obtain ⟨o', I', D'⟩ := dn_put I D rel hd hp rv hz dd' sb
  exact q o' _ D' I'
end
end SW

namespace SW
open PySem PySem.Spec PyProof.Rows L2
/-! ### {(k, l): v for .. in ..}, keys tuples within tuples -/
/-- what a turn's pair asks, when it is stored -/
def StN (P : Program) (w : World) (K : PySem.W.Frag) (D : Addr) (y z : V) (H : Hp) (Nx : Hp → Prop) : Prop :=
  ∃ (kvs : List (NestedKey × V)) (k : NestedKey) (b : Addr), y = .ref b ∧ DN P w K H D kvs ∧ Dp K H (.ref b) k.data ∧ k.depth ≤ 8 ∧ kvs.length < sizeLine ∧ ∀ o', DN P w K (upd H D (ExO o' D)) D (putK kvs k z) → Nx (upd H D (ExO o' D))
/-- one turn of the walk -/
def TnN (P : Program) (w : World) (K : PySem.W.Frag) (g : TG) (tt : TT) (tk tv : TE) (σ : L2.St) (vs : List Nat) (D : Addr) (Nx : Hp → Prop) (x : V) (H : Hp) : Prop :=
  g x (wipe σ vs) H fun σ2 H2 => wipe σ2 vs = wipe σ vs ∧ tt σ2 H2 fun b H3 => if b = true then tk σ2 H3 fun y H4 => tv σ2 H4 fun z H5 => StN P w K D y z H5 Nx else Nx H3
def tDcN (P : Program) (w : World) (K : PySem.W.Frag) (wi : TI) (g : TG) (tt : TT) (tk tv : TE) (vs : List Nat) : TE := fun σ H Q => wi σ H fun J H1 => ∀ D o, H1 D = none → DN P w K (upd H1 D (ExO o D)) D [] →
  ∃ W : Nat → Nat → Hp → Prop, (∃ m, W 0 m (upd H1 D (ExO o D))) ∧ ∀ i m H, W i m H → (J.stop i H ∧ Q (.ref D) H) ∨ (J.go i H ∧ ∃ Nx : Hp → Prop, (∀ H', Nx H' → ∃ m', m' < m ∧ W (i + 1) m' H') ∧ ∀ x H', J.yld i H x H' → TnN P w K g tt tk tv σ vs D Nx x H')
abbrev eD : Obj := { cls := .type "dict", data := .dict #[] }
theorem dn_empty {P : Program} {w : World} {K : PySem.W.Frag} {H : Hp} (D : Addr) (hs : (D == sysModules) = false) : DN P w K (upd H D (ExO eD D)) D [] :=
  ⟨hs, Nat.zero_le _, eD, #[], 0, [], upd_same, ⟨rfl, rfl, rfl⟩, rfl, rfl, List.nodup_nil, .nil⟩
section
variable {X : Cx}
theorem dcN_core {pins : List (Addr × Obj)} {s : Shared} {σ : L2.St} {H : Hp} {Q : VK} {kx vx tg iter : Expr} {ifs : List Expr} {scope : Scope} {own : List (PySem.Str × Nat)} {pos pos' : Pos} {wi : TI} {g : TG} {tt : TT} {tk tv : TE} {use : Option (Value → Sem Unit)} {Qf : Value → Shared → Prop} (hu : X.A.units + 65 < cLine) (hc : X.calm = true) (hN : X.N.Nodup) (I : Inv X pins σ H s) (hi : PI X tg iter wi) (bk : BlkOk X.N X.env.scope scope own)
    (hg : ∀ s H C cl fp, PG (X.blk s H scope (compEnvC scope cl C X.env) fp) tg g) (ht : ∀ s H C cl fp, PTs (X.blk s H scope (compEnvC scope cl C X.env) fp) ifs tt)
    (hk : ∀ s H C cl fp, PE (X.blk s H scope (compEnvC scope cl C X.env) fp) kx tk) (hv : ∀ s H C cl fp, PE (X.blk s H scope (compEnvC scope cl C X.env) fp) vx tv) (hs : ∀ x, foldedSetIterable iter X.env x = pure x)
    (h : tDcN X.prog X.w X.K wi g tt tk tv (own.map (·.2)) σ H Q)
    (hRR : ∀ D C s' m H', Inv X pins σ H' s' → Q (.ref D) H' → s'.heap.Ns C m → FpOk X pins H' C → compPost (model X.prog X.w) X.A X.xe use Qf (.ref D) C (.ok .next) s') :
    wpAny (model X.prog X.w) X.A (comprehension (.DictComp kx vx [⟨tg, iter, ifs, 0⟩] scope pos) scope X.env pos' newDict false (eval iter X.env) use) Qf X.xe s := by
  have outer : ∀ y, y ∈ scope.names → y.2 = .free → ∃ c, X.env.cells.lookup y.1 = some c := fun y hy e => (bk.free y hy e).elim (fun k => I.ok.has _ (.inl k)) fun k => I.ok.has _ (.inr k)
  refine wpAny_comprehension_free (use := use) rfl hs (closure_ok outer) bk.kind (fun y hy e => by rw [bk.uniq y hy, e]) ?_
  refine thn (hi.run pins s σ H _ I h) fun _ s1 k1 => thn k1 fun _ s2 k2 => ?_
  obtain ⟨it, fp, tn, J, Ha, rfl, Ia, T, sta, fa, q⟩ := k2
  refine wpAny_newObj_type (newEnv_comp ?_)
  have free : Ha s2.heap.objs.size = none := Ia.hok.fresh (Nat.le_refl _)
  have apart : (s2.heap.objs.size == sysModules) = false := beq_eq_false_iff_ne.mpr (Ne.symm (Nat.ne_of_lt Ia.big))
  -- the empty dict
  obtain ⟨W, ⟨m0, w0⟩, turn⟩ := q s2.heap.objs.size eD free (dn_empty _ apart)
  have grow : ∀ b o, s2.heap.get? b = some o → (s2.heap.push eD).get? b = some o := fun b o e => Heap.get?_push_of_some _ e
  have Ib : Inv X pins σ (upd Ha s2.heap.objs.size (ExO eD s2.heap.objs.size)) { s2 with heap := s2.heap.push eD } :=
    Ia.laid (t' := s2.toks) grow (Nat.le_refl _) ⟨Heap.get?_push_size _ rfl, ⟨eD, Heap.get?_push_size _ rfl⟩, fun _ _ a b => b _ a⟩
  have below : ∀ b, b ∈ fp → b < s2.heap.objs.size := fun b hb => (T.obj _ _ sta b hb).elim fun _ e => Heap.lt_size e.1
  have fb : ∀ b, b ∈ fp → FpOk X pins (upd Ha s2.heap.objs.size (ExO eD s2.heap.objs.size)) b ∧ b < (s2.heap.push eD).objs.size := fun b hb => by
    refine ⟨⟨(upd_ne (Nat.ne_of_lt (below b hb))).trans (fa b hb).1, (fa b hb).2⟩, ?_⟩
    rw [Heap.size_push]
    exact Nat.lt_succ_of_lt (below b hb)
  have stb : tn 0 (s2.heap.push eD) := T.keep _ _ _ sta fun b _ o e => grow b o e
  generalize hD : s2.heap.objs.size = D at *
  generalize hHb : upd Ha D (ExO eD D) = Hb at *
  generalize hsb : ({ s2 with heap := s2.heap.push eD } : Shared) = sb at *
  have hpb : sb.heap = s2.heap.push eD := by rw [← hsb]
  rw [← hpb] at fb stb
  have Ic := block_start Ib bk hN fb
  generalize hcl : cellsFrom (sb.heap.objs.size + 1) scope.names (cloFrom X.env.cells scope.names []) = cl at *
  generalize hsc : ({ sb with heap := pushCells (sb.heap.push eD) scope.names } : Shared) = sc at *
  have stc : tn 0 sc.heap := T.keep _ _ _ stb fun b _ o e => by
    rw [← hsc]
    exact pushCells_keeps _ _ _ _ (Heap.get?_push_of_some _ e)
  show codeAny (model X.prog X.w) X.A (.compStart (.DictComp kx vx [⟨tg, iter, ifs, 0⟩] scope pos) 0 (.ref it) (.ref D) (compEnvC scope cl sb.heap.objs.size X.env)) (compPost (model X.prog X.w) X.A X.xe use Qf (.ref D) sb.heap.objs.size) sc
  have rg := hg sb Hb sb.heap.objs.size cl fp
  have rt := ht sb Hb sb.heap.objs.size cl fp
  have rk := hk sb Hb sb.heap.objs.size cl fp
  have rv := hv sb Hb sb.heap.objs.size cl fp
  have place : (compEnvC scope cl sb.heap.objs.size X.env).locals = sb.heap.objs.size := rfl
  generalize compEnvC scope cl sb.heap.objs.size X.env = env at *
  let Y : Cx := X.blk sb Hb scope env fp
  let wv := wipe σ (own.map (·.2))
  have mine : ∀ {τ : L2.St} {G : Hp} {s' : Shared}, Inv Y [] τ G s' → (∀ b, b ∈ fp → G b = none) → ∀ b, b ∈ fp → FpOk Y [] G b := fun {τ G s'} J1 hn b hb =>
    ⟨hn b hb, (J1.ok.exf b hb).1, J1.ok.exfs b hb, .inl hb, fun x c e => (J1.ok.exf b hb).2 x c e, fun p hp => nomatch (show p ∈ ([] : List (Addr × Obj)) from hp)⟩
  have run : codeAny (model X.prog X.w) X.A (.compLoop (.DictComp kx vx [⟨tg, iter, ifs, 0⟩] scope pos) 0 (.ref it) (.ref D) env) (compPost (model X.prog X.w) X.A X.xe use Qf (.ref D) sb.heap.objs.size) sc := by
    refine compLoop_anyD (fun n s' => ∃ i G, Inv Y [] wv G s' ∧ tn i s'.heap ∧ (∀ b, b ∈ fp → G b = none) ∧ W i n G) (fun n s5 hI => ?_) m0 ⟨0, Hb, Ic, stc, fun b hb => (fb b hb).1.1, w0⟩
    obtain ⟨i, G, I5, st5, n5, w5⟩ := hI
    rcases turn i n G w5 with ⟨stop, ready⟩ | ⟨go, Nx, less, step⟩
    · -- the end
      refine thnF (T.done Y rfl rfl rfl hc i [] s5 wv G (fun _ _ => False) I5 (mine I5 n5) st5 stop) fun r s6 k6 => ?_
      obtain ⟨rfl, I6⟩ := k6
      have here : G sb.heap.objs.size = none := place ▸ I6.free
      have back : Inv X pins σ G s6 := Ib.call' (ch := fp) I6.os I6.base I6.hok I6.bare fun b hb => (fb b hb).1.elim fun _ z => ⟨z.2.2.1, z.1, z.2.2.2.1, z.2.2.2.2⟩
      obtain ⟨m, hm, _⟩ := I6.loc
      have hm : s6.heap.Ns env.locals m := hm
      rw [place] at hm
      exact hRR D sb.heap.objs.size s6 m G back ready hm (Ib.fpOk (Nat.le_refl _) here)
    · -- one more
      refine thnF (T.item Y rfl rfl rfl hc i [] s5 wv G (fun _ _ => False) I5 (mine I5 n5) st5 go) fun r s6 k6 => ?_
      obtain ⟨u, rfl, k6⟩ := k6
      refine thnF k6 fun _ s7 k7 => ?_
      obtain ⟨x, G7, I7, r7, y7, st7, n7⟩ := k7
      have hold : Inv Y ([] ++ pinsAt fp s7.heap) wv G7 s7 := I7.pinned (mine I7 n7) (T.obj _ _ st7)
      refine thnF (rg.run _ s7 wv G7 x u _ hold r7 (step x G7 y7)) fun _ s8 k8 => ?_
      obtain ⟨σ8, G8, I8, wipe8, q8⟩ := k8
      refine thnF (rt.run _ s8 σ8 G8 _ I8 q8) fun ok s9 k9 => ?_
      obtain ⟨G9, I9, q9⟩ := k9
      have next : ∀ {s' : Shared} {G' : Hp}, Inv Y ([] ++ pinsAt fp s7.heap) σ8 G' s' → Nx G' → ∃ m, m < n ∧ ∃ i G', Inv Y [] wv G' s' ∧ tn i s'.heap ∧ (∀ b, b ∈ fp → G' b = none) ∧ W i m G' := fun {s' G'} I' nx => by
        obtain ⟨m', hlt, hw⟩ := less G' nx
        have held : ∀ b, b ∈ fp → ∀ o, s7.heap.get? b = some o → s'.heap.get? b = some o ∧ G' b = none := fun b hb o e =>
          (I'.pin (b, o) (List.mem_append_right _ (List.mem_append_right _ (mem_pinsAt hb e)))).elim fun e1 z => ⟨e1, z.1⟩
        refine ⟨m', hlt, i + 1, G', (I'.unpinned (pins := [])).weak (by
          have e := congrArg List.length wipe8
          rw [wipe_length] at e
          exact e.symm) (fun j v e => ?_), T.keep _ _ _ st7 fun b hb o e => (held b hb o e).1, fun b hb => ?_, hw⟩
        · have e : (wipe σ (own.map (·.2)))[j]? = some (some v) := e
          rw [← wipe8] at e
          exact (wipe_some e).1
        · exact (T.obj _ _ st7 b hb).elim fun o e => (held b hb o e.1).2
      cases ok with
      | false =>
        rw [if_neg Bool.false_ne_true] at q9 ⊢
        exact next I9 q9
      | true =>
        rw [if_pos rfl] at q9 ⊢
        refine thnF (rk.run _ s9 σ8 G9 _ I9 q9) fun kv sd kd => ?_
        obtain ⟨y, Gd, Id, rd, qd⟩ := kd
        refine thnF (rv.run _ sd σ8 Gd _ Id qd) fun vv se ke => ?_
        obtain ⟨z, Ge, Ie, re, kvs, k, bb, rfl, Dn, hdk, hdp, hz, nx⟩ := ke
        cases rd
        exact dn_comp (X := Y) hu Ie Dn hdk hdp re hz fun o' sf D' If => next If (nx o' D')
  exact codeAny_compStart_dict run (T.self X.A 0 _ _ _ stc run)
theorem pe_dcN {kx vx tg iter : Expr} {ifs : List Expr} {scope : Scope} {own : List (PySem.Str × Nat)} {pos : Pos} {wi : TI} {g : TG} {tt : TT} {tk tv : TE} (hu : X.A.units + 65 < cLine) (hc : X.calm = true) (hN : X.N.Nodup) (hi : PI X tg iter wi) (bk : BlkOk X.N X.env.scope scope own)
    (hg : ∀ s H C cl fp, PG (X.blk s H scope (compEnvC scope cl C X.env) fp) tg g) (ht : ∀ s H C cl fp, PTs (X.blk s H scope (compEnvC scope cl C X.env) fp) ifs tt)
    (hk : ∀ s H C cl fp, PE (X.blk s H scope (compEnvC scope cl C X.env) fp) kx tk) (hv : ∀ s H C cl fp, PE (X.blk s H scope (compEnvC scope cl C X.env) fp) vx tv) (hs : ∀ x, foldedSetIterable iter X.env x = pure x := by intro _; rfl) :
    PE X (.DictComp kx vx [⟨tg, iter, ifs, 0⟩] scope pos) (tDcN X.prog X.w X.K wi g tt tk tv (own.map (·.2))) := by
  constructor
  intro pins s σ H Q I h
  rw [arm_eval_DictComp]
  refine dcN_core (use := none) hu hc hN I hi bk hg ht hk hv hs h fun D C s' m H' I' q hn f => ?_
  obtain ⟨f0, f1, f2, f3, f4, f5⟩ := f
  exact ⟨m, hn, fun h'' sb => ⟨.ref D, H', I'.turned (t' := s'.toks) (fun b o hb e => (sb.2 b hb).trans e) f0 f1 f3 f4 f5, rfl, q⟩⟩
/-- name = {..} on one line, the name a local -/
theorem ps_setDcN {i : Nat} {y : PySem.Str} {py : Pos} {kx vx tg iter : Expr} {ifs : List Expr} {scope : Scope} {own : List (PySem.Str × Nat)} {pos spos : Pos} {wi : TI} {g : TG} {tt : TT} {tk tv : TE} (hu : X.A.units + 65 < cLine) (hc : X.calm = true) (hN : X.N.Nodup) (hy : X.N[i]? = some y) (hyl : X.env.scope.names.lookup y = some .local)
    (hsw : swapsWith (.DictComp kx vx [⟨tg, iter, ifs, 0⟩] scope pos) (some (.Name y py)) spos.line X.env = pure true) (hi : PI X tg iter wi) (bk : BlkOk X.N X.env.scope scope own)
    (hg : ∀ s H C cl fp, PG (X.blk s H scope (compEnvC scope cl C X.env) fp) tg g) (ht : ∀ s H C cl fp, PTs (X.blk s H scope (compEnvC scope cl C X.env) fp) ifs tt)
    (hk : ∀ s H C cl fp, PE (X.blk s H scope (compEnvC scope cl C X.env) fp) kx tk) (hv : ∀ s H C cl fp, PE (X.blk s H scope (compEnvC scope cl C X.env) fp) vx tv) (hs : ∀ x, foldedSetIterable iter X.env x = pure x := by intro _; rfl) :
    PS X (.Assign [.Name y py] (.DictComp kx vx [⟨tg, iter, ifs, 0⟩] scope pos) spos) (tAsg (tDcN X.prog X.w X.K wi g tt tk tv (own.map (·.2))) (gName i)) := by
  refine ⟨fun pins s σ H D I h => ?_⟩
  rw [exec_Assign_Name_used _ _ _ _ hsw]
  refine wpAny_bind (wpAny_standAt (wpAny_bind ?_))
  show wpAny _ X.A (do let _ ← comprehension (.DictComp kx vx [⟨tg, iter, ifs, 0⟩] scope pos) scope X.env (firstIterPos [⟨tg, iter, ifs, 0⟩] pos) newDict false (eval iter X.env) (some (assign (.Name y py) X.env))) _ _ s
  have h : tDcN X.prog X.w X.K wi g tt tk tv (own.map (·.2)) σ H (fun x H1 => gName i x σ H1 D.nx) := h
  refine wpAny_bind (thn (dcN_core (Qf := fun _ s' => SP X pins D .next s') hu hc hN I hi bk hg ht hk hv hs h fun L C s' m H' I' q hn f => ?_) fun _ s' hq => wpAny_pure (wpAny_pure hq))
  show wpAny _ _ (assign (.Name y py) X.env (.ref L)) _ _ _
  refine wpAny_assign_Name (store_ok2 (v := V.ref L) I' hN hy (.inl hyl) rfl (fun s2 I2 ⟨a, sb, ha⟩ => ?_) (.inr hyl))
  obtain ⟨f0, f1, f2, f3, f4, f5⟩ := f
  have haC : C ≠ a := by
    rcases ha with z | z
    · rw [z]; exact f1
    · exact fun e => f4 y a z e.symm
  refine ⟨m, hn.sameBut sb haC, fun h3 sb3 => ?_⟩
  exact ⟨_, H', I2.turned (t' := s2.toks) (fun b o hb e => (sb3.2 b hb).trans e) f0 f1 f3 f4 f5, q⟩
theorem swD_true {kx vx : Expr} {gs : List Comprehension} {scope : Scope} {pos py : Pos} {y : PySem.Str} {l : Nat} {env : Env} (hk : env.scope.kind = .function) (hy : env.scope.names.lookup y = some .local) (hl : (py.line == pos.line) = true)
    (ha : (scope.names.any fun (n, k) => n == y && (k == .local || k == .cell)) = false) : swapsWith (.DictComp kx vx gs scope pos) (some (.Name y py)) l env = pure true := by
  have ky : env.kindOf y = some .local := hy
  have hb : env.blockKind = .function := by unfold Env.blockKind; rw [hk]; rfl
  unfold swapsWith
  simp only [hb, ky, ha, Expr.pos, hl]
  rfl
end
theorem dcN_it {P : Program} {w : World} {K : PySem.W.Frag} {J : It} {n : Nat} {G : Hp → Prop} {Y : Nat → Hp → V → Hp → Prop} (wk : Walk J n G Y) {g : TG} {tk tv : TE} {vs : List Nat} {σ : L2.St} {H1 : Hp} {D : Addr} {o : Obj} {Qd : Hp → Prop} (Pv : Nat → Hp → Prop) (h0 : Pv 0 (upd H1 D (ExO o D))) (hG : ∀ i H, i ≤ n → Pv i H → G H)
    (hs : ∀ (i : Nat) (x : V) (H H' : Hp), i < n → Pv i H → Y i H x H' → g x (wipe σ vs) H' fun σ2 H2 => wipe σ2 vs = wipe σ vs ∧ tk σ2 H2 fun y H4 => tv σ2 H4 fun z H5 => StN P w K D y z H5 (Pv (i + 1))) (hd : ∀ H, Pv n H → Qd H) :
    ∃ W : Nat → Nat → Hp → Prop, (∃ m, W 0 m (upd H1 D (ExO o D))) ∧ ∀ i m H, W i m H → (J.stop i H ∧ Qd H) ∨ (J.go i H ∧ ∃ Nx : Hp → Prop, (∀ H', Nx H' → ∃ m', m' < m ∧ W (i + 1) m' H') ∧ ∀ x H', J.yld i H x H' → TnN P w K g tYes tk tv σ vs D Nx x H') := by
  refine ⟨fun i m H => m = n - i ∧ i ≤ n ∧ Pv i H, ⟨n, by simp, Nat.zero_le _, h0⟩, ?_⟩
  rintro i m H ⟨rfl, hi, p⟩
  have q := hG i H hi p
  by_cases hlt : i < n
  · exact .inr ⟨wk.goes i H hlt q, Pv (i + 1), fun H' p' => ⟨n - (i + 1), by omega, rfl, hlt, p'⟩, fun x H' y => hs i x H H' hlt p (wk.yields i H x H' hlt q y)⟩
  · have e : i = n := by omega
    subst e
    exact .inl ⟨wk.stops H q, hd H p⟩
end SW

namespace SW
open PySem PySem.Spec PyProof.Rows L2
/-! ### comprehensions by their values -/
theorem lc_vals {J : It} {n : Nat} {G : Hp → Prop} {Y : Nat → Hp → V → Hp → Prop} (w : Walk J n G Y) {g : TG} {te : TE} {vs : List Nat} {σ : L2.St} {H1 : Hp} {D : Addr} {Qd : Hp → Prop} (hD : H1 D = none) (f : Nat → V) (hn : n ≤ 100000) (hG : ∀ H, Same H1 H → G H)
    (hs : ∀ (i : Nat) (x : V) (H H' : Hp) (Q : V → Hp → Prop), i < n → Same H1 H → Y i H x H' → (∀ H4, Same H H4 → Q (f i) H4) → g x (wipe σ vs) H' fun σ2 H2 => wipe σ2 vs = wipe σ vs ∧ te σ2 H2 Q)
    (hd : ∀ H, Same H1 H → H D = some (.lst ((List.range n).map f)) → Qd H) :
    ∃ W : Nat → Nat → Hp → Prop, (∃ m, W 0 m (upd H1 D (.lst []))) ∧ ∀ i m H, W i m H → (J.stop i H ∧ Qd H) ∨ (J.go i H ∧ ∃ Nx : Hp → Prop, (∀ H', Nx H' → ∃ m', m' < m ∧ W (i + 1) m' H') ∧
      ∀ x H', J.yld i H x H' → g x (wipe σ vs) H' fun σ2 H2 => wipe σ2 vs = wipe σ vs ∧ tYes σ2 H2 fun b H3 => if b = true then te σ2 H3 fun y H4 => ∃ acc, H4 D = some (.lst acc) ∧ acc.length < sizeLine ∧ Nx (upd H4 D (.lst (acc ++ [y]))) else Nx H3) := by
  let Pv : Nat → Hp → Prop := fun i H => Same H1 H ∧ H D = some (.lst ((List.range i).map f))
  refine ⟨fun i m H => m = n - i ∧ i ≤ n ∧ Pv i H, ⟨n, rfl, Nat.zero_le _, same_new hD, upd_same⟩, ?_⟩
  rintro i m H ⟨rfl, hi, s1, e⟩
  by_cases hlt : i < n
  · refine .inr ⟨w.goes i H hlt (hG H s1), Pv (i + 1), fun H' p => ⟨n - (i + 1), by omega, rfl, hlt, p⟩, fun x H' y => ?_⟩
    refine hs i x H H' _ hlt s1 (w.yields i H x H' hlt (hG H s1) y) fun H4 s4 => ?_
    refine ⟨_, s4 _ _ e, ?_, same_mut (s1.trans s4) hD, ?_⟩
    · rw [List.length_map, List.length_range]
      exact small_sz5 (by omega)
    · rw [List.range_succ, List.map_append, upd_same]
      rfl
  · have : i = n := by omega
    subst this
    exact .inl ⟨w.stops H (hG H s1), hd H s1 e⟩
/-- over a range, each item drawn from the hand -/
theorem lc_drawn {α : Type} {K : PySem.W.Frag} {lo : Int} {n : Nat} {h d : Addr} {ds : List Int} {g : TG} {te : TE} {vs : List Nat} {σ : L2.St} {H1 : Hp} {D : Addr} {Qd : Hp → Prop} (enc : α → PyData) (R : α → Prop) (hE : ∀ e, R e → noL (enc e) = true) (hn : n ≤ 1000) (hH : Hand H1 h d ds) (hD : H1 D = none)
    (hs : ∀ (i : Nat) (x : V) (H : Hp) (Q : V → Hp → Prop), i < n → But h H1 H → Hand H h d ds → x = .int (lo + i) → (∀ y e H4, But h H H4 → Hand H4 h d ds → R e → Dp K H4 y (enc e) → Q y H4) → g x (wipe σ vs) H fun σ2 H2 => wipe σ2 vs = wipe σ vs ∧ te σ2 H2 Q)
    (hd : ∀ H ys (es : List α), But h H1 H → Hand H h d ds → H D = some (.lst ys) → D ≠ h → D ≠ d → DpAll K H ys (es.map enc) → es.length = n → (∀ e, e ∈ es → R e) → Qd H) :
    ∃ W : Nat → Nat → Hp → Prop, (∃ m, W 0 m (upd H1 D (.lst []))) ∧ ∀ i m H, W i m H → ((Itr lo n).stop i H ∧ Qd H) ∨ ((Itr lo n).go i H ∧ ∃ Nx : Hp → Prop, (∀ H', Nx H' → ∃ m', m' < m ∧ W (i + 1) m' H') ∧
      ∀ x H', (Itr lo n).yld i H x H' → g x (wipe σ vs) H' fun σ2 H2 => wipe σ2 vs = wipe σ vs ∧ tYes σ2 H2 fun b H3 => if b = true then te σ2 H3 fun y H4 => ∃ acc, H4 D = some (.lst acc) ∧ acc.length < sizeLine ∧ Nx (upd H4 D (.lst (acc ++ [y]))) else Nx H3) := by
  have w : Walk (Itr lo n) n (fun _ => True) (YFn fun i => .int (lo + i)) := walk_range
  have hDh := hand_ne hH hD
  have hDd := hand_ne2 hH hD
  let Pv : Nat → Hp → Prop := fun i H => But h H1 H ∧ Hand H h d ds ∧ ∃ (ys : List V) (es : List α), H D = some (.lst ys) ∧ DpAll K H ys (es.map enc) ∧ es.length = i ∧ ∀ e, e ∈ es → R e
  refine ⟨fun i m H => m = n - i ∧ i ≤ n ∧ Pv i H, ⟨n, rfl, Nat.zero_le _, (But.refl h H1).new hD, hH.upd hDh hDd, [], [], upd_same, .nil, rfl, fun _ h => nomatch h⟩, ?_⟩
  rintro i m H ⟨rfl, hi, b1, hh, ys, es, e, ha, hl, hR⟩
  by_cases hlt : i < n
  · refine .inr ⟨w.goes i H hlt trivial, Pv (i + 1), fun H' p => ⟨n - (i + 1), by omega, rfl, hlt, p⟩, fun x H' y => ?_⟩
    obtain ⟨rfl, hx⟩ := w.yields i H x H' hlt trivial y
    refine hs i x _ _ hlt b1 hh hx fun y e4 H4 b4 hh4 hr4 h4 => ?_
    have e5 := b4 _ _ hDh e
    obtain ⟨k, hk⟩ := hh.at_
    have all : ∀ es : List α, (∀ e, e ∈ es → R e) → noLs (es.map enc) = true := fun es => by
      induction es with
      | nil => exact fun _ => rfl
      | cons a r ih =>
        intro hr
        show (noL (enc a) && noLs (r.map enc)) = true
        rw [hE a (hr a List.mem_cons_self), ih fun e he => hr e (List.mem_cons_of_mem _ he)]
        rfl
    have hbut : But D H4 (upd H4 D (.lst (ys ++ [y]))) := fun b o hne e => (upd_ne hne).trans e
    refine ⟨ys, e5, ?_, (b1.trans b4).new hD, hh4.upd hDh hDd, ys ++ [y], es ++ [e4], upd_same, ?_, by rw [List.length_append, hl]; rfl, fun e he => ?_⟩
    · rw [dpa_len ha, List.length_map]
      exact small_sz5 (by omega)
    · rw [List.map_append]
      exact dpa_snoc (dpa_but e5 hbut _ _ (all es hR) (dpa_but hk b4 _ _ (all es hR) ha)) (dp_but e5 hbut _ _ (hE _ hr4) h4)
    · rcases List.mem_append.mp he with he | he
      · exact hR e he
      · rw [List.mem_singleton.mp he]
        exact hr4
  · have : i = n := by omega
    subst this
    exact .inl ⟨w.stops H trivial, hd H ys es b1 hh e hDh hDd ha hl hR⟩
theorem dp_mem {K : PySem.W.Frag} {H : Hp} {xs : List V} {α : Type} {es : List α} {enc : α → PyData} {j : Nat} (ha : DpAll K H xs (es.map enc)) (hj : j < es.length) : ∃ v, xs[j]? = some v ∧ Dp K H v (enc es[j]) :=
  dpa_get' (j := j) ha (by rw [List.getElem?_map, List.getElem?_eq_getElem hj]; rfl)
theorem range_fn {α β : Type} (xs : List α) (g : α → β) : (List.range xs.length).map (fun i => if h : i < xs.length then some (g xs[i]) else none) = xs.map fun x => some (g x) :=
  range_map xs (fun x => some (g x)) _ fun i x h => by
    obtain ⟨h1, h2⟩ := List.getElem?_eq_some_iff.mp h
    rw [dif_pos h1, h2]
end SW

namespace SW
open PySem PySem.Spec PyProof.Rows L2
abbrev s_l_draws : Stmt := topS 32
theorem sc_l_draws : FnScope ["script", "many", "rests", "cell", "draws", "k", "at", "mixed"] ["script", "many"] (defScope s_l_draws) := ⟨rfl, rfl, rfl, by decide +kernel, rfl, by decide +kernel, by decide +kernel⟩

abbrev s_l_take : Stmt := topS 33
theorem sc_l_take : FnScope ["hand", "many", "at", "draws"] ["hand", "many"] (defScope s_l_take) := ⟨rfl, rfl, rfl, by decide +kernel, rfl, by decide +kernel, by decide +kernel⟩

section
variable {P : Program} {w : World} {K : PySem.W.Frag} {mg : PySem.Str → Option Value} {base : Heap}
def spTake : Sp := fun vs H Q _ => ∃ (h d : Addr) (ds : List Int) (m : Int), vs = [.ref h, .int m] ∧ 0 < m ∧ Hand H h d ds ∧ ∀ r H', 0 ≤ r → r < m → But h H H' → Hand H' h d ds → (∀ b, H b = none → H' b = none) → Q (.int r) H'
theorem ok_l_take (T : TxB mg) (D_l_take : Df K mg "_law_take" s_l_take ["hand", "many"]) : FnOk P w K mg base CX0 1 D_l_take.f D_l_take.fd ["hand", "many"] spTake := by
  refine D_l_take.F.ok sc_l_take (fun vs H Q E h => ?_) (fun cdv A outer s H vs Q E hr h => ?_)
  · obtain ⟨a, d, ds, m, rfl, _⟩ := h
    rfl
  · obtain ⟨a, d, ds, m, rfl, hm, ⟨⟨i, e1⟩, e2, e3⟩, q⟩ := h
    refine ⟨_, (pss_cons (ps_set (i := 2) sc_l_take.nd rfl (.inl rfl) (pe_ix ix_list (pv 0) pe_int (fun _ _ => rfl)))
    (pss_cons (ps_asg (pe_op op_add (pv 2) pe_int) (pg_sub (pv 0) pe_int set_list))
    (pss_cons (ps_set (i := 3) sc_l_take.nd rfl (.inl rfl) (pe_ix ix_list (pv 0) pe_int (fun _ _ => rfl)))
    (pss_cons (ps_if (pt_cmpR op_ge (pv 2) (pe_callB call_len_seq (by rfl) T.n_len PySem.boot_len (pa_cons (pv 3) pa_nil)) (nomark _))
    (pss_one (ps_ret pe_int))
    pss_nil)
    (pss_one (ps_ret (pe_op op_mod (pe_op op_fdiv (pe_callTy call_int1 (by rfl) T.n_int (by decide +kernel) (pa_cons (pe_ix ix_list (pv 3) (pv 2) (fun _ _ => rfl)) pa_nil)) pe_int) (pv 1)))))))), ?_⟩
    -- at = hand[1]
    refine ⟨_, rfl, a, _, _, _, rfl, rfl, SqL.of e1, atI_nat (j := 1) rfl, ?_⟩
    -- hand[1] = at + 1
    refine ⟨_, rfl, _, _, rfl, rfl, _, rfl, a, _, 1, 1, rfl, rfl, e1, rfl, ?_⟩
    have b1 : But a H (upd H a (.lst [.ref d, .int ((i + 1 : Nat) : Int)])) := fun b o n e => by
      rw [upd_ne n]
      exact e
    have e1' : upd H a (.lst [.ref d, .int ((i + 1 : Nat) : Int)]) a = some (.lst [.ref d, .int ((i + 1 : Nat) : Int)]) := upd_same
    have e2' : upd H a (.lst [.ref d, .int ((i + 1 : Nat) : Int)]) d = some (.lst (ds.map V.int)) := b1 _ _ e3 e2
    have fin : ∀ r, 0 ≤ r → r < m → Q (.int r) (upd H a (.lst [.ref d, .int ((i + 1 : Nat) : Int)])) := fun r h1 h2 => q r _ h1 h2 b1 ⟨⟨i + 1, e1'⟩, e2', e3⟩ fun b hb => by
      rw [upd_ne (fun e => by rw [e, e1] at hb; cases hb)]
      exact hb
    refine ⟨_, rfl, a, _, _, _, rfl, rfl, SqL.of e1', atI_nat (j := 0) rfl, ?_⟩
    refine ⟨_, rfl, _, rfl, d, _, rfl, .inl (SqL.of e2'), _, _, rfl, rfl, _, rfl, ite2 (fun e => ?_) (fun e => ?_)⟩
    · exact fin 0 (Int.le_refl 0) hm
    · have e4 := of_decide_eq_false (Bool.eq_false_iff.mpr e)
      rw [List.length_map] at e4
      have hi : i < ds.length := by omega
      have g : (ds.map V.int)[i]? = some (.int ds[i]) := by
        rw [List.getElem?_map, List.getElem?_eq_getElem hi]
        rfl
      refine ⟨_, rfl, _, rfl, d, _, _, _, rfl, rfl, SqL.of e2', atI_nat g, .inl ⟨_, rfl, _, _, rfl, rfl, ⟨by decide, by decide⟩, _, rfl, _, _, rfl, rfl, hm, ?_⟩⟩
      exact fin _ (Int.emod_nonneg _ (by omega)) (Int.emod_lt_of_pos _ hm)
def spDraws (K : PySem.W.Frag) : Sp := fun vs H Q _ => ∃ (a : Addr) (ns : List Int) (m : Nat), vs = [.ref a, .int m] ∧ SqL K H a (ns.map V.int) ∧ ns.length ≤ 1000 ∧ m ≤ 5000 ∧ ∀ p (ds : List Int) H', Same H H' → H p = none → H' p = some (.lst (ds.map V.int)) → Q (.ref p) H'
theorem ok_l_draws (T : TxB mg) (D_l_draws : Df K mg "_law_draws" s_l_draws ["script", "many"]) : FnOk P w K mg base CX0 1 D_l_draws.f D_l_draws.fd ["script", "many"] (spDraws K) := by
  refine D_l_draws.F.ok sc_l_draws (fun vs H Q E h => ?_) (fun cdv A outer s H vs Q E hr h => ?_)
  · obtain ⟨a, ns, m, rfl, _⟩ := h
    rfl
  · obtain ⟨a, ns, m, rfl, hS, hn, hm, q⟩ := h
    refine ⟨_, (pss_cons (ps_setLc (i := 2) (own := [("cell", 3)]) (g := gName 3) (by rfl) sc_l_draws.nd rfl rfl (sw_true rfl rfl rfl (by decide +kernel)) (pi_list (pv 0)) (blkOk_by (own := [("cell", 3)]) (N := ["script", "many", "rests", "cell", "draws", "k", "at", "mixed"]) (sc := defScope s_l_draws) (by decide +kernel)) (fun _ _ _ _ _ => pg_name (i := 3) sc_l_draws.nd rfl (Or.inl rfl)) (fun _ _ _ _ _ => pts_nil) (fun _ _ _ _ _ => (pe_callB call_abs (by rfl) T.n_abs (by decide +kernel) (pa_cons (pe_callTy call_int1 (by rfl) T.n_int (by decide +kernel) (pa_cons (pv 3) pa_nil)) pa_nil))))
    (pss_cons (ps_set (i := 4) sc_l_draws.nd rfl (.inl rfl) (pe_lst pa_nil))
    (pss_cons (ps_for PassesOwn.never rfl (pi_range1 (by rfl) T.n_range (pa_cons (pv 1) pa_nil)) (pg_name (i := 5) sc_l_draws.nd rfl (.inl rfl))
    (pss_cons (ps_set (i := 3) sc_l_draws.nd rfl (.inl rfl) (pv 5))
    (Evl.pss_cut (ps_if (pt_cmpR op_gt (pe_callB call_len_seq (by rfl) T.n_len PySem.boot_len (pa_cons (pv 0) pa_nil)) pe_int (nomark _))
    (pss_cons (ps_set (i := 6) sc_l_draws.nd rfl (.inl rfl) (pe_op op_mod (pv 5) (pe_callB call_len_seq (by rfl) T.n_len PySem.boot_len (pa_cons (pv 0) pa_nil))))
    (pss_cons (ps_set (i := 3) sc_l_draws.nd rfl (.inl rfl) (pe_callTy call_int1 (by rfl) T.n_int (by decide +kernel) (pa_cons (pe_ix ix_list (pv 0) (pv 6) (fun _ _ => rfl)) pa_nil)))
    (pss_one (ps_if (PW.pt (pw_and (pt_cmpR op_ge (pv 3) (pe_op op_pow pe_int pe_int) (nomark _)) (pw_and1 (pt_cmpR op_gt (pe_ix ix_list (pv 2) (pv 6) (fun _ _ => rfl)) pe_int (nomark _)))))
    (pss_cons (ps_expr (pe_bm PySem.F.plainAttrs_list PySem.F.slot_list_append PySem.F.type_list_append mt_append (pv 4) (pa_cons (pe_op op_mod (pe_callTy call_int1 (by rfl) T.n_int (by decide +kernel) (pa_cons (pe_ix ix_list (pv 2) (pv 6) (fun _ _ => rfl)) pa_nil)) pe_int) pa_nil)))
    (pss_cons (ps_asg (pe_op op_fdiv (pe_callTy call_int1 (by rfl) T.n_int (by decide +kernel) (pa_cons (pe_ix ix_list (pv 2) (pv 6) (fun _ _ => rfl)) pa_nil)) pe_int) (pg_sub (pv 2) (pv 6) set_list))
    (pss_one ps_continue)))
    pss_nil))))
    pss_nil)
    (pss_cons (ps_set (i := 7) sc_l_draws.nd rfl (.inl rfl) (pe_op op_mod (pe_callTy call_int1 (by rfl) T.n_int (by decide +kernel) (pa_cons (pe_op op_add (pe_op op_add (pe_op op_mul (pv 3) pe_int) (pe_op op_mul (pv 5) pe_int)) pe_int) pa_nil)) pe_int))
    (pss_cons (ps_set (i := 7) sc_l_draws.nd rfl (.inl rfl) (pe_op op_mod (pe_callTy call_int1 (by rfl) T.n_int (by decide +kernel) (pa_cons (pe_op op_add (pe_op op_fdiv (pe_op op_mul (pv 7) (pv 7)) pe_int) (pv 7)) pa_nil)) pe_int))
    (pss_one (ps_expr (pe_bm PySem.F.plainAttrs_list PySem.F.slot_list_append PySem.F.type_list_append mt_append (pv 4) (pa_cons (pe_op op_mod (pe_callTy call_int1 (by rfl) T.n_int (by decide +kernel) (pa_cons (pe_op op_add (pe_op op_fdiv (pe_op op_mul (pv 7) (pv 7)) pe_int) (pe_op op_mul (pv 5) pe_int)) pa_nil)) pe_int) pa_nil)))))))))
    (pss_one (ps_ret (pv 4)))))), ?_⟩
    -- rests = [..]
    refine ⟨.ref a, rfl, a, rfl, ⟨_, hS⟩, fun D hD => ?_⟩
    refine lc_list (K := K) (a := a) (xs := ns.map V.int) (fun i H1 => Same H H1 ∧ ∃ rs : List Int, rs.length = i ∧ H1 D = some (.lst (rs.map V.int))) ⟨same_new hD, [], rfl, upd_same⟩ (fun i H1 _ h => h.1.seq hS) (fun i x H1 hx hP => ?_) (fun H1 hP => ?_)
    · obtain ⟨s1, rs, hl, e1⟩ := hP
      rw [List.getElem?_map] at hx
      cases hni : ns[i]? with
      | none =>
        rw [hni] at hx
        cases hx
      | some n =>
        rw [hni] at hx
        cases hx
        have hlt : i < ns.length := by
          obtain ⟨h1, _⟩ := List.getElem?_eq_some_iff.mp hni
          exact h1
        refine ⟨rfl, ?_⟩
        refine ⟨_, rfl, .inl ⟨n, rfl, n, rfl, _, e1, ?_, same_mut s1 hD, rs ++ [if n < 0 then -n else n], ?_, ?_⟩⟩
        · rw [List.length_map, hl]
          exact small_sz5 (by omega)
        · rw [List.length_append, hl]
          rfl
        · rw [upd_same, List.map_append]
          rfl
    obtain ⟨s1, rs, hl, e1⟩ := hP
    rw [List.length_map] at hl
    -- draws = []
    refine ⟨Nat.zero_le _, fun p np => ?_⟩
    have npH : H p = none := s1.free np
    have npD : D ≠ p := ne_of_none e1 np
    refine ⟨_, rfl, m, rfl, by omega, by omega, ?_⟩
    refine for_range (lo := 0) (n := (m : Int).toNat) (fun i σ H2 => ∃ (y3 y5 y6 y7 : Option V) (rs ds : List Int), σ = [some (.ref a), some (.int m), some (.ref D), y3, some (.ref p), y5, y6, y7] ∧ rs.length = ns.length ∧ ds.length = i ∧ Same H H2 ∧ H2 D = some (.lst (rs.map V.int)) ∧ H2 p = some (.lst (ds.map V.int)))
      ⟨_, _, _, _, rs, [], rfl, hl, rfl, s1.trans (same_new np), (same_new np) _ _ e1, upd_same⟩ (fun i σ H2 hi hP => ?_) (fun σ H2 hP => ?_)
    · obtain ⟨y3, y5, y6, y7, rs, ds, rfl, hl, hd, s2, e2, e3⟩ := hP
      have hA : SqL K H2 a (ns.map V.int) := s2.seq hS
      -- cell = k
      refine ⟨_, rfl, ?_⟩
      refine ⟨fun σ' H' => ∃ (c : Int) (y6 : Option V), σ' = [some (.ref a), some (.int m), some (.ref D), some (.int c), some (.ref p), some (.int (0 + i)), y6, y7] ∧ H' = H2, ?_, ?_⟩
      · refine ⟨_, rfl, a, _, rfl, .inl hA, _, _, rfl, rfl, _, rfl, ite2 (fun e => ?_) (fun e => ?_)⟩
        · have e4 := of_decide_eq_true e
          rw [List.length_map] at e4
          have hpos : 0 < ns.length := by omega
          refine ⟨_, rfl, _, rfl, a, _, rfl, .inl hA, _, _, rfl, rfl, by rw [List.length_map]; omega, ?_⟩
          rw [List.length_map]
          have hk0 : 0 ≤ ((0 : Int) + i) % (ns.length : Int) := Int.emod_nonneg _ (by omega)
          have hk1 : ((0 : Int) + i) % (ns.length : Int) < ns.length := Int.emod_lt_of_pos _ (by omega)
          dsimp only
          generalize ((0 : Int) + i) % (ns.length : Int) = k at hk0 hk1
          obtain ⟨j, rfl⟩ : ∃ j : Nat, k = j := ⟨k.toNat, by omega⟩
          have hj : j < ns.length := by omega
          have g : (ns.map V.int)[j]? = some (.int ns[j]) := by
            rw [List.getElem?_map, List.getElem?_eq_getElem hj]
            rfl
          have hj2 : j < rs.length := by omega
          have g2 : (rs.map V.int)[j]? = some (.int rs[j]) := by
            rw [List.getElem?_map, List.getElem?_eq_getElem hj2]
            rfl
          refine ⟨_, rfl, _, rfl, a, _, _, _, rfl, rfl, hA, atI_nat g, .inl ⟨_, rfl, ?_⟩⟩
          refine ⟨_, rfl, _, _, rfl, rfl, ⟨by decide, by decide, by decide⟩, _, _, rfl, rfl, _, rfl, ite2 (fun e => ?_) (fun e => ?_)⟩
          · refine ⟨_, rfl, _, rfl, D, _, _, _, rfl, rfl, SqL.of e2, atI_nat g2, _, _, rfl, rfl, _, rfl, ite2 (fun e => ?_) (fun e => ?_)⟩
            · -- draws.append(rests[at] % ..)
              refine ⟨_, rfl, .inl ⟨rfl, _, SqL.of e3⟩, _, rfl, _, rfl, D, _, _, _, rfl, rfl, SqL.of e2, atI_nat g2, .inl ⟨_, rfl, _, _, rfl, rfl, (by show (0 : Int) < _; decide), p, _, _, rfl, rfl, e3, ?_, ?_⟩⟩
              · rw [List.length_map]
                exact small_sz5 (by omega)
              have e2' : (upd H2 p (.lst (ds.map V.int ++ [.int (rs[j] % 1000003)]))) D = some (.lst (rs.map V.int)) := by
                rw [upd_ne npD]
                exact e2
              refine ⟨_, rfl, _, rfl, D, _, _, _, rfl, rfl, SqL.of e2', atI_nat g2, .inl ⟨_, rfl, _, _, rfl, rfl, ⟨by decide, by decide⟩, _, rfl, _, rfl, D, _, _, j, rfl, rfl, e2', ?_, ?_⟩⟩
              · rw [List.length_map]
                exact ixN_nat (by omega)
              refine ⟨_, _, _, _, rs.set j (rs[j] / 1000003), ds ++ [rs[j] % 1000003], rfl, by rw [List.length_set, hl], by rw [List.length_append, hd]; rfl, same_mut (same_mut s2 npH) hD, ?_, ?_⟩
              · rw [upd_same, List.map_set]
              · rw [upd_ne npD.symm, upd_same, List.map_append]
                rfl
            · exact ⟨_, _, rfl, rfl⟩
          · exact iteF ⟨_, _, rfl, rfl⟩
        · exact ⟨_, _, rfl, rfl⟩
      · intro σ' H' hN
        obtain ⟨c, y6, rfl, rfl⟩ := hN
        refine ⟨_, rfl, _, _, rfl, rfl, .inr ⟨by decide, by decide⟩, _, rfl, _, _, rfl, rfl, .inr ⟨by decide, by decide⟩, _, _, rfl, rfl, _, _, rfl, rfl, .inl ⟨_, rfl, _, _, rfl, rfl, (by show (0 : Int) < _; decide), ?_⟩⟩
        have m0 : 0 ≤ (c * 48271 + (0 + (i : Int)) * 69621 + 11) % 2147483647 := Int.emod_nonneg _ (by decide)
        have m1 : (c * 48271 + (0 + (i : Int)) * 69621 + 11) % 2147483647 < 2147483647 := Int.emod_lt_of_pos _ (by decide)
        dsimp only
        generalize (c * 48271 + (0 + (i : Int)) * 69621 + 11) % 2147483647 = x at m0 m1
        refine ⟨_, rfl, _, rfl, _, _, rfl, rfl, .inl ⟨by omega, by omega⟩, _, _, rfl, rfl, ⟨by decide, by decide⟩, _, rfl, _, _, rfl, rfl, .inl ⟨_, rfl, _, _, rfl, rfl, (by show (0 : Int) < _; decide), ?_⟩⟩
        have m2 : 0 ≤ (x * x / 4096 + x) % 2147483629 := Int.emod_nonneg _ (by decide)
        have m3 : (x * x / 4096 + x) % 2147483629 < 2147483629 := Int.emod_lt_of_pos _ (by decide)
        dsimp only
        generalize (x * x / 4096 + x) % 2147483629 = y at m2 m3
        refine ⟨_, rfl, .inl ⟨rfl, _, SqL.of e3⟩, _, rfl, _, rfl, _, _, rfl, rfl, .inl ⟨by omega, by omega⟩, _, _, rfl, rfl, ⟨by decide, by decide⟩, _, rfl, _, _, rfl, rfl, .inr ⟨by decide, by decide⟩, _, _, rfl, rfl, .inl ⟨_, rfl, _, _, rfl, rfl, (by show (0 : Int) < _; decide), p, _, _, rfl, rfl, e3, ?_, ?_⟩⟩
        · rw [List.length_map]
          exact small_sz5 (by omega)
        refine ⟨_, _, _, _, rs, ds ++ [(y * y / 4096 + (0 + (i : Int)) * 7919) % 2147483629], rfl, hl, by rw [List.length_append, hd]; rfl, same_mut s2 npH, ?_, ?_⟩
        · rw [upd_ne npD]
          exact e2
        · rw [upd_same, List.map_append]
          rfl
    · obtain ⟨y3, y5, y6, y7, rs, ds, rfl, hl, hd, s2, e2, e3⟩ := hP
      exact ⟨_, rfl, q p ds H2 s2 npH e3⟩
end
end SW

namespace SW
open PySem PySem.Spec PyProof.Rows L2
/-! ### t + u and t[a:b] of tuples, whatever object comes of it -/
section
variable {X : Cx}
def rCatB (K : PySem.W.Frag) : R2 := fun x y H Q => ∃ a b xs ys, x = .ref a ∧ y = .ref b ∧ SqT K H a xs ∧ SqT K H b ys ∧ xs.length + ys.length ≤ sizeLine ∧ ∀ p H', Same H H' → SqT K H' p (xs ++ ys) → Q (.ref p) H'
theorem op_catB : OpR X (binaryOp .Add) (rCatB X.K) := by
  intro pins s σ H x y v u Q I rx ry h
  obtain ⟨a, b, xs, ys, h1, h2, h3, h4, h5, q⟩ := h
  refine op_catA pins s σ H x y v u Q I rx ry ⟨a, b, xs, ys, h1, h2, h3, h4, h5, fun e => ?_, fun _ e => ?_, fun _ _ p np => ?_⟩
  · subst e
    exact q b H (Same.refl _) h4
  · subst e
    refine q a H (Same.refl _) ?_
    rw [List.append_nil]
    exact h3
  · exact q p _ (same_new np) (SqT.of upd_same)
def rSlB (K : PySem.W.Frag) : V → Option Int → Option Int → Hp → VK → Prop := fun x lo hi H Q => ∃ a xs, x = .ref a ∧ SqT K H a xs ∧ ∀ p H', Same H H' → SqT K H' p (cutV xs lo hi) → Q (.ref p) H'
theorem sl_tupB : SlR X (rSlB X.K) := by
  intro pins s σ H x v vl vu lo hi sl Q I rx hs pl pu h
  obtain ⟨a, xs, h1, h2, q⟩ := h
  refine sl_tupA pins s σ H x v vl vu lo hi sl Q I rx hs pl pu ⟨a, xs, h1, h2, fun e => ?_, fun _ p np => ?_⟩
  · refine q a H (Same.refl _) ?_
    unfold cutV
    rw [e.1, e.2, List.drop_zero, Nat.sub_zero, List.take_length]
    exact h2
  · exact q p _ (same_new np) (SqT.of upd_same)
end
theorem cut_m1 (xs : List V) (v : V) : cutV (xs ++ [v]) none (some (-1)) = xs := by
  unfold cutV
  have e : HT.sIx (xs ++ [v]).length (xs ++ [v]).length (some (-1)) = xs.length := by
    show (if (-1 : Int) < 0 then ((-1 : Int) + ((xs ++ [v]).length : Int)).toNat else min (-1 : Int).toNat (xs ++ [v]).length) = _
    rw [if_pos (by decide), List.length_append]
    show ((-1 : Int) + ((xs.length + 1 : Nat) : Int)).toNat = _
    omega
  rw [e, HT.sIx_none, List.drop_zero, Nat.sub_zero, List.take_left]
theorem dpa_split {K : PySem.W.Frag} {H : Hp} : ∀ {ds es : List PyData} {xs : List V}, DpAll K H xs (ds ++ es) → ∃ ys zs, xs = ys ++ zs ∧ DpAll K H ys ds ∧ DpAll K H zs es
  | [], _, xs, h => ⟨[], xs, rfl, .nil, h⟩
  | d :: ds, es, _, .cons h1 h2 => by
    obtain ⟨ys, zs, e, h3, h4⟩ := dpa_split h2
    exact ⟨_ :: ys, zs, by rw [e]; rfl, .cons h1 h3, h4⟩
end SW

namespace SW
open PySem PySem.Spec PyProof.Rows L2
section
variable {X : Cx}
/-- name = {..} on one line, the name a local, the keys texts or ints -/
theorem ps_setDc {i : Nat} {y : PySem.Str} {py : Pos} {kx vx tg iter : Expr} {ifs : List Expr} {scope : Scope} {own : List (PySem.Str × Nat)} {pos spos : Pos} {wi : TI} {g : TG} {tt : TT} {tk tv : TE} (hc : X.calm = true) (hN : X.N.Nodup) (hy : X.N[i]? = some y) (hyl : X.env.scope.names.lookup y = some .local)
    (hsw : swapsWith (.DictComp kx vx [⟨tg, iter, ifs, 0⟩] scope pos) (some (.Name y py)) spos.line X.env = pure true) (hi : PI X tg iter wi) (bk : BlkOk X.N X.env.scope scope own)
    (hg : ∀ s H C cl fp, PG (X.blk s H scope (compEnvC scope cl C X.env) fp) tg g) (ht : ∀ s H C cl fp, PTs (X.blk s H scope (compEnvC scope cl C X.env) fp) ifs tt)
    (hk : ∀ s H C cl fp, PE (X.blk s H scope (compEnvC scope cl C X.env) fp) kx tk) (hv : ∀ s H C cl fp, PE (X.blk s H scope (compEnvC scope cl C X.env) fp) vx tv) (hs : ∀ x, foldedSetIterable iter X.env x = pure x := by intro _; rfl) :
    PS X (.Assign [.Name y py] (.DictComp kx vx [⟨tg, iter, ifs, 0⟩] scope pos) spos) (tAsg (tDc wi g tt tk tv (own.map (·.2))) (gName i)) := by
  refine ⟨fun pins s σ H D I h => ?_⟩
  rw [exec_Assign_Name_used _ _ _ _ hsw]
  refine wpAny_bind (wpAny_standAt (wpAny_bind ?_))
  show wpAny _ X.A (do let _ ← comprehension (.DictComp kx vx [⟨tg, iter, ifs, 0⟩] scope pos) scope X.env (firstIterPos [⟨tg, iter, ifs, 0⟩] pos) newDict false (eval iter X.env) (some (assign (.Name y py) X.env))) _ _ s
  have h : tDc wi g tt tk tv (own.map (·.2)) σ H (fun x H1 => gName i x σ H1 D.nx) := h
  refine wpAny_bind (thn (dc_core (Qf := fun _ s' => SP X pins D .next s') hc hN I hi bk hg ht hk hv hs h fun L C s' m H' I' q hn f => ?_) fun _ s' hq => wpAny_pure (wpAny_pure hq))
  show wpAny _ _ (assign (.Name y py) X.env (.ref L)) _ _ _
  refine wpAny_assign_Name (store_ok2 (v := V.ref L) I' hN hy (.inl hyl) rfl (fun s2 I2 ⟨a, sb, ha⟩ => ?_) (.inr hyl))
  obtain ⟨f0, f1, f2, f3, f4, f5⟩ := f
  have haC : C ≠ a := by
    rcases ha with z | z
    · rw [z]; exact f1
    · exact fun e => f4 y a z e.symm
  refine ⟨m, hn.sameBut sb haC, fun h3 sb3 => ?_⟩
  exact ⟨_, H', I2.turned (t' := s2.toks) (fun b o hb e => (sb3.2 b hb).trans e) f0 f1 f3 f4 f5, q⟩
end
end SW

namespace SW
open PySem PySem.Spec PyProof.Rows L2
/-! ### tuple * 0, tuple * 1; list.remove of a text; list[::-1] -/
theorem tuple_mul0 (l : Addr) (items : Array Value) (n : Nat) (dd : Option Addr) (sl : Array (Option Value)) (u : Tok) (hne : items.isEmpty = false) :
    Meets (Builtin.«tuple.__mul__» ⟨[.ref l, .int 0 u], []⟩) (fun _ R s => s.heap.get? l = some { cls := .type "tuple", dict := dd, data := .seq items n, slots := sl } ∧
      R (.ok (.ret (Value.ref s.heap.objs.size))) { s with heap := s.heap.push { cls := Value.type "tuple", data := Data.seq #[] }, toks := s.toks }) :=
  .of_wp fun prog w A R s h => by
    obtain ⟨hp, g, d, tk, os⟩ := s
    obtain ⟨hl, h⟩ := h
    have f1 := AutoSeq1.idx_int
    have c0 : (decide ((0 : Int) < -(2 ^ 63)) || decide ((0 : Int) ≥ 2 ^ 63)) = false := by decide
    have c1 : (items.isEmpty || (0 : Int) == 1) = false := by
      rw [hne]
      rfl
    wp_walk using wpAny_loadPart' hl
    repeat (first
      | (refine wpAny_ite_false (decide_eq_false (by rw [c0]; exact Bool.false_ne_true)) ?_; wp_walk using wpAny_loadPart' hl)
      | (refine wpAny_ite_false (decide_eq_false (by rw [c1]; exact Bool.false_ne_true)) ?_; wp_walk using wpAny_loadPart' hl)
      | (refine wpAny_ite_true (decide_eq_true (by rfl)) ?_; wp_walk using wpAny_loadPart' hl))
    exact ⟨_, rfl, h⟩
theorem tuple_mul1 (l : Addr) (items : Array Value) (n : Nat) (dd : Option Addr) (sl : Array (Option Value)) (u : Tok) (hne : items.isEmpty = false) :
    Meets (Builtin.«tuple.__mul__» ⟨[.ref l, .int 1 u], []⟩) (fun _ R s => s.heap.get? l = some { cls := .type "tuple", dict := dd, data := .seq items n, slots := sl } ∧
      R (.ok (.ret (Value.ref l))) s) :=
  .of_wp fun prog w A R s h => by
    obtain ⟨hp, g, d, tk, os⟩ := s
    obtain ⟨hl, h⟩ := h
    have f1 := AutoSeq1.idx_int
    have c0 : (decide ((1 : Int) < -(2 ^ 63)) || decide ((1 : Int) ≥ 2 ^ 63)) = false := by decide
    have c1 : (items.isEmpty || (1 : Int) == 1) = true := by
      rw [hne]
      rfl
    wp_walk using wpAny_loadPart' hl
    repeat (first
      | (refine wpAny_ite_false (decide_eq_false (by rw [c0]; exact Bool.false_ne_true)) ?_; wp_walk using wpAny_loadPart' hl)
      | (refine wpAny_ite_true (decide_eq_true (by rw [c1])) ?_; wp_walk using wpAny_loadPart' hl))
    exact ⟨_, rfl, h⟩
def rRep01 (K : PySem.W.Frag) : R2 := fun x y H Q => ∃ (l : Addr) (k : Int) (xs : List V), x = .ref l ∧ y = .int k ∧ SqT K H l xs ∧ xs ≠ [] ∧ (k = 0 ∨ k = 1) ∧ ∀ (p : Addr) (ys : List V) (H' : Hp), Same H H' → SqT K H' p ys → (ys = [] ∨ ys = xs) → Q (.ref p) H'
section
variable {X : Cx}
theorem op_rep01 : OpR X (binaryOp .Mult) (rRep01 X.K) := by
  intro pins s σ H x y v u Q I rx ry h
  obtain ⟨l, k, xs, rfl, rfl, hT, hne, hk, q⟩ := h
  cases rx
  obtain ⟨t, rfl⟩ := ry
  obtain ⟨its, r, ⟨⟨cls, dd, data, sl⟩, ho, hc, n, hd⟩, hs⟩ := I.tuple hT
  simp only at hc hd
  subst hc hd
  have hn : its ≠ [] := fun e => hne (by
    have hle : its.length = xs.length := r.length.symm
    rw [e] at hle
    exact List.eq_nil_of_length_eq_zero hle.symm)
  have hi : its.toArray.isEmpty = false := by
    cases its with
    | nil => exact absurd rfl hn
    | cons a b => rfl
  rcases hk with rfl | rfl
  · refine wpAny_binaryOp_repeat_ref (T := "tuple") (U := "int") (by decide) ⟨_, ho, rfl⟩ (fun s' => typeIs_int s' 0 t) noFill_tuple_mul F.fills_int_mul F.slot_int_rmul repeat_tuple F.slot_int_index.lookup
      (call_meets F.slot_int_rmul (typeIs_int s 0 t) F.entry_int_rmul (F.args_int_rmul_2 _ _) (int_rmul_tuple 0 t l its.toArray n dd sl)
        ⟨ho, rfl, ⟨_, ho, rfl⟩, call_meets F.slot_tuple_mul ⟨_, ho, rfl⟩ F.entry_tuple_mul (F.args_tuple_mul_2 _ _) (tuple_mul0 l its.toArray n dd sl t hi) ⟨ho, ?_⟩⟩)
    refine ⟨.ref s.heap.objs.size, _, I.laid (t' := s.toks) (o := .tup []) (fun b ob q => Heap.get?_push_of_some _ q) (Nat.le_refl _) ?_, rfl, q _ [] _ (same_new (I.hok.fresh (Nat.le_refl _))) (SqT.of upd_same) (.inl rfl)⟩
    exact ⟨Nat.zero_le _, [], .nil, IsTup.new _ _⟩
  · refine wpAny_binaryOp_repeat_ref (T := "tuple") (U := "int") (by decide) ⟨_, ho, rfl⟩ (fun s' => typeIs_int s' 1 t) noFill_tuple_mul F.fills_int_mul F.slot_int_rmul repeat_tuple F.slot_int_index.lookup
      (call_meets F.slot_int_rmul (typeIs_int s 1 t) F.entry_int_rmul (F.args_int_rmul_2 _ _) (int_rmul_tuple 1 t l its.toArray n dd sl)
        ⟨ho, rfl, ⟨_, ho, rfl⟩, call_meets F.slot_tuple_mul ⟨_, ho, rfl⟩ F.entry_tuple_mul (F.args_tuple_mul_2 _ _) (tuple_mul1 l its.toArray n dd sl t hi) ⟨ho, ?_⟩⟩)
    exact ⟨.ref l, H, I, rfl, q _ xs _ (Same.refl _) hT (.inr rfl)⟩
theorem erase_map {α β : Type} (f : α → β) : ∀ (l : List α) (j : Nat), (l.map f).eraseIdx j = (l.eraseIdx j).map f
  | [], j => by simp
  | a :: r, 0 => by simp
  | a :: r, j + 1 => by
    have ih := erase_map f r j
    simp [ih]
theorem first_at {ws : List PySem.Str} {k : PySem.Str} (h : k ∈ ws) : ∃ j : Nat, ws[j]? = some k ∧ ∀ m : Nat, m < j → ws[m]? ≠ some k := by
  induction ws with
  | nil => exact (List.not_mem_nil h).elim
  | cons a r ih =>
    by_cases e : a = k
    · exact ⟨0, by rw [e]; rfl, fun m hm => absurd hm (Nat.not_lt_zero _)⟩
    · obtain ⟨j, h1, h2⟩ := ih ((List.mem_cons.mp h).resolve_left fun h => e h.symm)
      refine ⟨j + 1, h1, fun m hm => ?_⟩
      cases m with
      | zero => exact fun h => e (Option.some.inj h)
      | succ m => exact h2 m (by omega)
theorem strs_get : ∀ {us : List Value} {ws : List PySem.Str}, StrsAre us ws → ∀ (j : Nat) (k : PySem.Str), ws[j]? = some k → ∃ t, us[j]? = some (.str k t)
  | _, _, .nil, j, k, h => by cases h
  | _, _, .cons x t r, 0, k, h => by
    cases h
    exact ⟨t, rfl⟩
  | _, _, .cons x t r, j + 1, k, h => strs_get r j k h
def rRemS : V → List V → Hp → VK → Prop := fun x xs H Q => ∃ (l : Addr) (ws : List PySem.Str) (k : PySem.Str), x = .ref l ∧ xs = [.str k] ∧ H l = some (.lst (ws.map V.str)) ∧ k ∈ ws ∧ ∀ (us : List PySem.Str) (j : Nat), ws[j]? = some k → us = ws.eraseIdx j → Q .non (upd H l (.lst (us.map V.str)))
theorem mt_removeS : MtM X "list.remove" rRemS := by
  intro pins s σ H x xs v us Q I rx rxs h
  obtain ⟨l, ns, k, rfl, rfl, hH, hm, q⟩ := h
  obtain ⟨j, hj, hno⟩ := first_at hm
  cases rx
  obtain ⟨u, rfl, ru⟩ := rxs.one
  obtain ⟨t, rfl⟩ := ru
  obtain ⟨z, its, n, r, hl, e⟩ := I.lstM hH
  have hi := strs_of_vals r
  rw [List.length_map] at hl z
  have hjn : j < ns.length := (List.getElem?_eq_some_iff.mp hj).1
  have hjl : j < its.toArray.size := by rw [List.size_toArray]; omega
  refine call_meets PySem.F.slot_list_remove ⟨_, e, rfl⟩ PySem.F.entry_list_remove (PySem.F.args_list_remove_2 _ _)
    (MeetsSeq.list_remove l its.toArray n (.str k t) (isStrOf k) (fun y hy => eq_isStrOf k t hi y (by simpa using hy)) j hjl ?_ ?_ (by rw [List.size_toArray]; omega)) ⟨e, ?_⟩
  · obtain ⟨tj, hjt⟩ := strs_get hi j k hj
    obtain ⟨h1, h2⟩ := List.getElem?_eq_some_iff.mp hjt
    have e1 : its.toArray[j] = .str k tj := by simpa using h2
    rw [e1]
    exact beq_self_eq_true k
  · intro m hm hmj
    have hmn : m < ns.length := by omega
    obtain ⟨tm, hmt⟩ := strs_get hi m _ (List.getElem?_eq_getElem hmn)
    obtain ⟨h1, h2⟩ := List.getElem?_eq_some_iff.mp hmt
    have e1 : its.toArray[m] = .str ns[m] tm := by simpa using h2
    rw [e1]
    refine beq_eq_false_iff_ne.mpr fun e2 => hno m hmj ?_
    rw [List.getElem?_eq_getElem hmn, e2]
  · have rr := r.eraseIdx j
    rw [erase_map] at rr
    have hlen : (ns.eraseIdx j).length ≤ ns.length := List.length_eraseIdx_le ns j
    refine ⟨.non, _, I.lset (its' := its.eraseIdx j) (t' := s.toks) hH e ?_ rr ?_, rfl, q _ j hj rfl⟩
    · show its.toArray.eraseIdxIfInBounds j = (its.eraseIdx j).toArray
      rw [List.eraseIdxIfInBounds_toArray]
    · rw [List.length_map]
      omega
def tRev (K : PySem.W.Frag) (te : TE) (ts : TO) : TE := fun σ H Q => te σ H fun x H1 => ts σ H1 fun st H2 => ∃ (a : Addr) (xs : List V), x = .ref a ∧ st = some (-1) ∧ SqL K H2 a xs ∧ ∀ p, H2 p = none → Q (.ref p) (upd H2 p (.lst xs.reverse))
theorem pe_rev {e st : Expr} {te : TE} {ts : TO} {pos p2 : Pos} (he : PE X e te) (hs : PO X (some st) ts) : PE X (.Subscript e (.Slice none none (some st) p2) pos) (tRev X.K te ts) := by
  refine ⟨fun pins s σ H Q I h => ?_⟩
  refine Subscript_ (thn (he.run pins s σ H _ I h) fun v s1 ⟨x, H1, I1, r1, q1⟩ => ?_)
  refine wpAny_Slice ?_
  rw [evalPart_none]
  refine wpAny_pure ?_
  refine wpAny_pure ?_
  refine thn (hs.run pins s1 σ H1 _ I1 q1) fun vs s3 ⟨u, H3, I3, ps, q3⟩ => ?_
  obtain ⟨a, xs, rfl, rfl, hx, q⟩ := q3
  cases r1
  have I4 : Inv X pins σ H3 { s3 with heap := s3.heap.push { cls := .type "slice", data := .fields #[.none, .none, vs] } } := I3.kept (t' := s3.toks) fun b ob q => Heap.get?_push_of_some _ q
  obtain ⟨its, r, ht, hz⟩ := I4.list hx
  show wpAny (model X.prog X.w) X.A (subscriptTail e (.Slice none none (some st) p2) (.ref a) (.ref s3.heap.objs.size)) (EP X pins σ Q) X.xe { s3 with heap := s3.heap.push { cls := .type "slice", data := .fields #[.none, .none, vs] } }
  refine tail_any (ops := [.ref a, .ref s3.heap.objs.size]) ht.isList.typeIs slot_list_getitem.lookup ?_ (by with_unfolding_all rfl)
  refine wpAny_getItem_list_slice ht.isList (Heap.IsSliceOf.new ..) .none .none ps (by decide) ?_ (by rw [List.size_toArray]; have := r.length; omega)
  rw [PySem.W.krv_pick]
  refine ⟨.ref _, _, I4.laid (t' := s3.toks) (o := .lst xs.reverse) (fun b ob q => Heap.get?_push_of_some _ q) (Nat.le_refl _) ?_, rfl, q _ (I4.hok.fresh (Nat.le_refl _))⟩
  exact ⟨by rw [List.length_reverse]; exact hz, _, 0, r.reverse, Heap.get?_push_size _ rfl⟩
end
end SW

namespace SW
open PySem PySem.Spec PyProof.Rows L2
/-! ### statements, by how deep they may lie -/
inductive Ar | ls (x : PySem.Str) | pl (h : PySem.Str) (ds : List PyData)
def Ar.enc : Ar → PyData
  | .ls x => .tuple [.str "list", .str x]
  | .pl h ds => .tuple (.str h :: ds)
def Ar.ok : Ar → Prop
  | .ls _ => True
  | .pl h ds => h ≠ "list" ∧ noLs ds = true
inductive Sf (B : Type)
  | lst (k : PySem.Str) (r : Int) (x : PySem.Str) (ds : List PyData)
  | cal (r : Int) (y f : PySem.Str) (as : List Ar)
  | oth (k : PySem.Str) (r : Int) (ds : List PyData)
  | iff (r : Int) (c : PyData) (a b : List B)
  | whl (r : Int) (c : PyData) (ks : List PyData) (f : PyData) (b : List B)
def Sf.kind {B : Type} : Sf B → PySem.Str
  | .lst k .. => k
  | .cal .. => "call"
  | .oth k .. => k
  | .iff .. => "if"
  | .whl .. => "while"
def Sf.rest {B : Type} (e : B → PyData) : Sf B → List PyData
  | .lst k r x ds => .int r :: .str x :: ds
  | .cal r y f as => [.int r, .str y, .str f, .tuple (as.map Ar.enc)]
  | .oth k r ds => .int r :: ds
  | .iff r c a b => [.int r, c, .tuple (a.map e), .tuple (b.map e)]
  | .whl r c ks f b => [.int r, c, .tuple ks, f, .tuple (b.map e)]
def Sf.enc {B : Type} (e : B → PyData) (s : Sf B) : PyData := .tuple (.str s.kind :: s.rest e)
def oddK : List PySem.Str := ["put", "swap", "call", "if", "while"]
def Sf.ok {B : Type} (p : B → Prop) : Sf B → Prop
  | .lst k r x ds => (k = "put" ∨ k = "swap") ∧ noLs ds = true
  | .cal r y f as => ∀ a, a ∈ as → a.ok
  | .oth k r ds => k ∉ oddK ∧ noLs ds = true
  | .iff r c a b => noL c = true ∧ (∀ s, s ∈ a → p s) ∧ ∀ s, s ∈ b → p s
  | .whl r c ks f b => noL c = true ∧ noLs ks = true ∧ noL f = true ∧ ∀ s, s ∈ b → p s
def Sf.subs {B : Type} : Sf B → List (List B)
  | .iff r c a b => [a, b]
  | .whl r c ks f b => [b]
  | _ => []
def BD : Nat → Type
  | 0 => Empty
  | n + 1 => Sf (BD n)
def encD : (n : Nat) → BD n → PyData
  | 0, s => nomatch s
  | n + 1, s => Sf.enc (encD n) s
def okD : (n : Nat) → BD n → Prop
  | 0, s => nomatch s
  | n + 1, s => Sf.ok (okD n) s
/-- a statement of any depth -/
structure An where
  n : Nat
  s : Sf (BD n)
def An.enc (a : An) : PyData := Sf.enc (encD a.n) a.s
def An.ok (a : An) : Prop := Sf.ok (okD a.n) a.s
def flatD : (n : Nat) → BD n → List An
  | 0, s => nomatch s
  | n + 1, s => ⟨n, s⟩ :: ((Sf.subs (B := BD n) s).map fun b => (b.map (flatD n)).flatten).flatten
def flatB (n : Nat) (b : List (BD n)) : List An := (b.map (flatD n)).flatten
def blkE (n : Nat) (b : List (BD n)) : PyData := .tuple (b.map (encD n))
theorem noL_ar {a : Ar} (h : a.ok) : noL a.enc = true := by
  cases a with
  | ls x => rfl
  | pl z ds => exact h.2
theorem noLs_of {l : List PyData} (h : ∀ d, d ∈ l → noL d = true) : noLs l = true := by
  induction l with
  | nil => rfl
  | cons d r ih =>
    show (noL d && noLs r) = true
    rw [h d List.mem_cons_self, ih fun e he => h e (List.mem_cons_of_mem _ he)]
    rfl
theorem noLs_mapof {α : Type} {f : α → PyData} {l : List α} (h : ∀ a, a ∈ l → noL (f a) = true) : noLs (l.map f) = true := noLs_of fun d hd => by
  obtain ⟨a, ha, rfl⟩ := List.mem_map.mp hd
  exact h a ha
theorem noL_sf {B : Type} {e : B → PyData} {p : B → Prop} (hp : ∀ b, p b → noL (e b) = true) {s : Sf B} (h : s.ok p) : noL (s.enc e) = true := by
  have q : ∀ {b : List B}, (∀ s, s ∈ b → p s) → noL (.tuple (b.map e)) = true := fun hb => noLs_mapof fun a ha => hp a (hb a ha)
  cases s with
  | lst k r x ds => exact h.2
  | cal r y f as =>
    show (noL (.tuple (as.map Ar.enc)) && true) = true
    rw [show noL (.tuple (as.map Ar.enc)) = true from noLs_mapof fun a ha => noL_ar (h a ha)]
    rfl
  | oth k r ds => exact h.2
  | iff r c a b =>
    show (noL c && (noL (.tuple (a.map e)) && (noL (.tuple (b.map e)) && true))) = true
    rw [h.1, q h.2.1, q h.2.2]
    rfl
  | whl r c ks f b =>
    show (noL c && (noLs ks && (noL f && (noL (.tuple (b.map e)) && true)))) = true
    rw [h.1, h.2.1, h.2.2.1, q h.2.2.2]
    rfl
theorem noL_D : ∀ (n : Nat) (s : BD n), okD n s → noL (encD n s) = true
  | 0, s, _ => nomatch s
  | n + 1, s, h => noL_sf (noL_D n) (s := s) h
theorem noL_blk {n : Nat} {b : List (BD n)} (h : ∀ s, s ∈ b → okD n s) : noL (blkE n b) = true := noLs_mapof fun s hs => noL_D n s (h s hs)
theorem An.noL {a : An} (h : a.ok) : SW.noL a.enc = true := noL_sf (noL_D a.n) h
theorem ok_subs {n : Nat} {s : Sf (BD n)} (h : s.ok (okD n)) : ∀ b, b ∈ s.subs → ∀ t, t ∈ b → okD n t := by
  cases s with
  | lst k r x ds => exact fun b hb => (List.not_mem_nil hb).elim
  | cal r y f as => exact fun b hb => (List.not_mem_nil hb).elim
  | oth k r ds => exact fun b hb => (List.not_mem_nil hb).elim
  | iff r c a b =>
    intro b' hb
    simp only [Sf.subs, List.mem_cons, List.not_mem_nil, or_false] at hb
    rcases hb with rfl | rfl
    · exact h.2.1
    · exact h.2.2
  | whl r c ks f b =>
    intro b' hb
    rw [List.mem_singleton.mp hb]
    exact h.2.2.2
theorem flat_ok : ∀ (n : Nat) (s : BD n), okD n s → ∀ a, a ∈ flatD n s → a.ok
  | 0, s, _ => nomatch s
  | n + 1, s, h => fun a ha => by
    rcases List.mem_cons.mp ha with rfl | ha
    · exact h
    · obtain ⟨l, hl, ha⟩ := List.mem_flatten.mp ha
      obtain ⟨b, hb, rfl⟩ := List.mem_map.mp hl
      obtain ⟨l2, hl2, ha⟩ := List.mem_flatten.mp ha
      obtain ⟨t, ht, rfl⟩ := List.mem_map.mp hl2
      exact flat_ok n t (ok_subs h b hb t ht) a ha
theorem flatB_ok {n : Nat} {b : List (BD n)} (h : ∀ s, s ∈ b → okD n s) : ∀ a, a ∈ flatB n b → a.ok := fun a ha => by
  obtain ⟨l, hl, ha⟩ := List.mem_flatten.mp ha
  obtain ⟨s, hs, rfl⟩ := List.mem_map.mp hl
  exact flat_ok n s (h s hs) a ha
theorem flatB_nil (n : Nat) : flatB n [] = [] := rfl
theorem flatB_snoc (n : Nat) (b : List (BD n)) (s : BD n) : flatB n (b ++ [s]) = flatB n b ++ flatD n s := by
  unfold flatB
  rw [List.map_append, List.flatten_append]
  show _ ++ (flatD n s ++ []) = _
  rw [List.append_nil]
theorem flatD_succ (n : Nat) (s : Sf (BD n)) : flatD (n + 1) s = ⟨n, s⟩ :: (s.subs.map (flatB n)).flatten := rfl
end SW

namespace SW
open PySem PySem.Spec PyProof.Rows L2
theorem kind_if {B : Type} {p : B → Prop} {s : Sf B} (h : s.ok p) : (∃ r c a b, s = .iff r c a b) ∨ (¬ s.kind = "if" ∧ ((∃ r c ks f b, s = .whl r c ks f b) ∨ (¬ s.kind = "while" ∧ s.subs = []))) := by
  cases s with
  | lst k r x ds =>
    refine .inr ⟨?_, .inr ⟨?_, rfl⟩⟩
    · show ¬ k = "if"
      rcases h.1 with rfl | rfl <;> decide +kernel
    · show ¬ k = "while"
      rcases h.1 with rfl | rfl <;> decide +kernel
  | cal r y f as => exact .inr ⟨by show ¬ ("call" : PySem.Str) = "if"; decide +kernel, .inr ⟨by show ¬ ("call" : PySem.Str) = "while"; decide +kernel, rfl⟩⟩
  | oth k r ds =>
    refine .inr ⟨fun e => h.1 ?_, .inr ⟨fun e => h.1 ?_, rfl⟩⟩
    · have e : k = "if" := e
      rw [e]
      decide +kernel
    · have e : k = "while" := e
      rw [e]
      decide +kernel
  | iff r c a b => exact .inl ⟨r, c, a, b, rfl⟩
  | whl r c ks f b => exact .inr ⟨by show ¬ ("while" : PySem.Str) = "if"; decide +kernel, .inl ⟨r, c, ks, f, b, rfl⟩⟩
theorem dpa2 {K : PySem.W.Frag} {H : Hp} {xs : List V} {d1 d2 : PyData} (h : DpAll K H xs [d1, d2]) : ∃ v1 v2, xs = [v1, v2] ∧ Dp K H v1 d1 ∧ Dp K H v2 d2 := by
  cases h with
  | cons h1 h => cases h with
    | cons h2 h =>
      cases h
      exact ⟨_, _, rfl, h1, h2⟩
theorem dpa4 {K : PySem.W.Frag} {H : Hp} {xs : List V} {d1 d2 d3 d4 : PyData} (h : DpAll K H xs [d1, d2, d3, d4]) : ∃ v1 v2 v3 v4, xs = [v1, v2, v3, v4] ∧ Dp K H v1 d1 ∧ Dp K H v2 d2 ∧ Dp K H v3 d3 ∧ Dp K H v4 d4 := by
  cases h with
  | cons h1 h => cases h with
    | cons h2 h =>
      obtain ⟨v3, v4, rfl, h3, h4⟩ := dpa2 h
      exact ⟨_, _, _, _, rfl, h1, h2, h3, h4⟩
theorem dpa5 {K : PySem.W.Frag} {H : Hp} {xs : List V} {d1 d2 d3 d4 d5 : PyData} (h : DpAll K H xs [d1, d2, d3, d4, d5]) : ∃ v1 v2 v3 v4 v5, xs = [v1, v2, v3, v4, v5] ∧ Dp K H v1 d1 ∧ Dp K H v2 d2 ∧ Dp K H v3 d3 ∧ Dp K H v4 d4 ∧ Dp K H v5 d5 := by
  cases h with
  | cons h1 h => cases h with
    | cons h2 h => cases h with
      | cons h3 h => cases h with
        | cons h4 h => cases h with
          | cons h5 h =>
            cases h
            exact ⟨_, _, _, _, _, rfl, h1, h2, h3, h4, h5⟩
theorem sf_inv {K : PySem.W.Frag} {H : Hp} {B : Type} {e : B → PyData} {s : Sf B} {v : V} (h : Dp K H v (s.enc e)) : ∃ t us, v = .ref t ∧ SqT K H t (.str s.kind :: us) ∧ DpAll K H us (s.rest e) := by
  obtain ⟨t, us, rfl, ht, ha⟩ := dp_tup_inv h
  cases ha with
  | cons h1 h2 =>
    cases dp_str_inv h1
    exact ⟨t, _, rfl, ht, h2⟩
theorem flatB_take {m : Nat} {b : List (BD m)} {i : Nat} (hi : i < b.length) : flatB m (b.take (i + 1)) = flatB m (b.take i) ++ flatD m b[i] := by
  rw [List.take_succ_eq_append_getElem hi, flatB_snoc]
theorem flatB_le {m : Nat} {b : List (BD m)} {i : Nat} : (flatB m (b.take i)).length ≤ (flatB m b).length := by
  have e : flatB m b = flatB m (b.take i) ++ flatB m (b.drop i) := by
    unfold flatB
    rw [← List.flatten_append, ← List.map_append, List.take_append_drop]
  rw [e, List.length_append]
  omega
theorem flatD_le {m : Nat} {b : List (BD m)} {s : BD m} (h : s ∈ b) : (flatD m s).length ≤ (flatB m b).length := by
  obtain ⟨i, hi, rfl⟩ := List.getElem_of_mem h
  have h1 := flatB_le (b := b) (i := i + 1)
  rw [flatB_take hi, List.length_append] at h1
  omega
theorem flatN_le {n : Nat} {l : List (List (BD n))} {b : List (BD n)} (h : b ∈ l) : (flatB n b).length ≤ ((l.map (flatB n)).flatten).length := by
  induction l with
  | nil => exact (List.not_mem_nil h).elim
  | cons a r ih =>
    rw [List.map_cons, List.flatten_cons, List.length_append]
    rcases List.mem_cons.mp h with rfl | h
    · omega
    · have := ih h
      omega
end SW

namespace SW
open PySem PySem.Spec PyProof.Rows L2
def psE (ps : List (PySem.Str × Bool)) : PyData := .tuple (ps.map fun x => .tuple [.str x.1, .bool x.2])
end SW

namespace SW
open PySem PySem.Spec PyProof.Rows L2
abbrev s_Procedure : Stmt := inClass (topS 29) 0
theorem sc_Procedure : FnScope ["self", "row", "name", "parameters", "needs", "gives", "moves", "falls", "lets", "body"] ["self", "row", "name", "parameters", "needs", "gives", "moves", "falls", "lets", "body"] (defScope s_Procedure) := ⟨rfl, rfl, rfl, by decide +kernel, rfl, by decide +kernel, by decide +kernel⟩
abbrev s_list_names : Stmt := inClass (topS 29) 2
theorem sc_list_names : FnScope ["self", "name", "is_list"] ["self"] (defScope s_list_names) := ⟨rfl, rfl, rfl, by decide +kernel, rfl, by decide +kernel, by decide +kernel⟩
abbrev s_Program : Stmt := inClass (topS 30) 0
theorem sc_Program : FnScope ["self", "procedures"] ["self", "procedures"] (defScope s_Program) := ⟨rfl, rfl, rfl, by decide +kernel, rfl, by decide +kernel, by decide +kernel⟩
abbrev s_called : Stmt := inClass (topS 30) 2
theorem sc_called : FnScope ["self", "name", "procedure"] ["self", "name"] (defScope s_called) := ⟨rfl, rfl, rfl, by decide +kernel, rfl, by decide +kernel, by decide +kernel⟩
structure TxQ (K : PySem.W.Frag) (mg : PySem.Str → Option Value) (CP CG p g : Addr) : Prop extends TxB mg where
  cp : Cls K CP
  a0 : NoAttr K CP "row"
  a1 : NoAttr K CP "name"
  a2 : NoAttr K CP "parameters"
  a3 : NoAttr K CP "needs"
  a4 : NoAttr K CP "gives"
  a5 : NoAttr K CP "moves"
  a6 : NoAttr K CP "falls"
  a7 : NoAttr K CP "lets"
  a8 : NoAttr K CP "body"
  pr : PropOf K CP "list_names" p g
  mg_Procedure : mg "Procedure" = some (.ref CP)
  cl : Cls K CG
  b0 : NoAttr K CG "procedures"
  mg_Program : mg "Program" = some (.ref CG)
def prF (v0 v1 v2 v3 v4 v5 v6 v7 v8 : V) : List (PySem.Str × V) := (putF "body" v8 (putF "lets" v7 (putF "falls" v6 (putF "moves" v5 (putF "gives" v4 (putF "needs" v3 (putF "parameters" v2 (putF "name" v1 (putF "row" v0 [])))))))))
theorem prF_1 (v0 v1 v2 v3 v4 v5 v6 v7 v8 : V) : (prF v0 v1 v2 v3 v4 v5 v6 v7 v8).lookup ("name" : PySem.Str) = some v1 := by
  unfold prF
  simp only [lookup_putF]
  rw [if_neg (by decide +kernel), if_neg (by decide +kernel), if_neg (by decide +kernel), if_neg (by decide +kernel), if_neg (by decide +kernel), if_neg (by decide +kernel), if_neg (by decide +kernel), if_pos trivial]
theorem prF_2 (v0 v1 v2 v3 v4 v5 v6 v7 v8 : V) : (prF v0 v1 v2 v3 v4 v5 v6 v7 v8).lookup ("parameters" : PySem.Str) = some v2 := by
  unfold prF
  simp only [lookup_putF]
  rw [if_neg (by decide +kernel), if_neg (by decide +kernel), if_neg (by decide +kernel), if_neg (by decide +kernel), if_neg (by decide +kernel), if_neg (by decide +kernel), if_pos trivial]
theorem prF_8 (v0 v1 v2 v3 v4 v5 v6 v7 v8 : V) : (prF v0 v1 v2 v3 v4 v5 v6 v7 v8).lookup ("body" : PySem.Str) = some v8 := by
  unfold prF
  simp only [lookup_putF]
  rw [if_pos trivial]
theorem putF_len (f : PySem.Str) (v : V) : ∀ fs : List (PySem.Str × V), (putF f v fs).length ≤ fs.length + 1
  | [] => Nat.le_refl _
  | (g, u) :: r => by
    show (if g = f then (g, v) :: r else (g, u) :: putF f v r).length ≤ _
    by_cases e : g = f
    · rw [if_pos e]
      exact Nat.le_succ _
    · rw [if_neg e]
      exact Nat.succ_le_succ (putF_len f v r)
theorem pl_len {f : PySem.Str} {v : V} {fs : List (PySem.Str × V)} {n : Nat} (h : fs.length ≤ n) : (putF f v fs).length ≤ n + 1 := Nat.le_trans (putF_len f v fs) (Nat.succ_le_succ h)
theorem dp_bool_inv {K : PySem.W.Frag} {H : Hp} {v : V} {b : Bool} (h : Dp K H v (.bool b)) : v = .bl b := by
  cases h
  rfl
section
variable {P : Program} {w : World} {K : PySem.W.Frag} {mg : PySem.Str → Option Value} {base : Heap} {CP CG pp gg : Addr}
def spProcedure (CP : Addr) : Sp := fun vs H Q _ => ∃ (p dx : Addr) (v0 v1 v2 v3 v4 v5 v6 v7 v8 : V), vs = [.ref p, v0, v1, v2, v3, v4, v5, v6, v7, v8] ∧ H p = some (.ins CP dx []) ∧ ∀ H', (∀ b o, b ≠ p → H b = some o → H' b = some o) → H' p = some (.ins CP dx (prF v0 v1 v2 v3 v4 v5 v6 v7 v8)) → Q .non H'
theorem ok_Procedure {f : Addr} {fd : FuncData} (F : Fun K "__init__" "Procedure.__init__" s_Procedure f fd) (T : TxQ K mg CP CG pp gg) : FnOk P w K mg base CX0 1 f fd ["self", "row", "name", "parameters", "needs", "gives", "moves", "falls", "lets", "body"] (spProcedure CP) := by
  refine F.ok sc_Procedure (fun vs H Q E h => ?_) (fun cdv A outer s H vs Q E hr h => ?_)
  · obtain ⟨p, dx, v0, v1, v2, v3, v4, v5, v6, v7, v8, rfl, _⟩ := h
    rfl
  · obtain ⟨p, dx, v0, v1, v2, v3, v4, v5, v6, v7, v8, rfl, hp, q⟩ := h
    refine ⟨_, (pss_cons (ps_fld (pv 0) (pv 1) rfl)
      (pss_cons (ps_fld (pv 0) (pv 2) rfl)
      (pss_cons (ps_fld (pv 0) (pv 3) rfl)
      (pss_cons (ps_fld (pv 0) (pv 4) rfl)
      (pss_cons (ps_fld (pv 0) (pv 5) rfl)
      (pss_cons (ps_fld (pv 0) (pv 6) rfl)
      (pss_cons (ps_fld (pv 0) (pv 7) rfl)
      (pss_cons (ps_fld (pv 0) (pv 8) rfl)
      (pss_one (ps_fld (pv 0) (pv 9) rfl)))))))))), ?_⟩
    have c0 : ([] : List (PySem.Str × V)).length ≤ 0 := Nat.le_refl _
    have k0 : ∀ b y, b ≠ p → H b = some y → H b = some y := fun b y _ e => e
    refine ⟨_, rfl, _, rfl, p, CP, dx, _, rfl, hp, T.cp, T.a0, Nat.lt_of_le_of_lt (c0) (by decide), ?_⟩
    have k1 : ∀ b y, b ≠ p → H b = some y → upd H p (.ins CP dx (putF "row" v0 [])) b = some y := fun b y hb e => (upd_ne hb).trans (k0 b y hb e)
    have e1 : upd H p (.ins CP dx (putF "row" v0 [])) p = some (.ins CP dx (putF "row" v0 [])) := upd_same
    generalize upd H p (.ins CP dx (putF "row" v0 [])) = G1 at k1 e1
    refine ⟨_, rfl, _, rfl, p, CP, dx, _, rfl, e1, T.cp, T.a1, Nat.lt_of_le_of_lt (pl_len c0) (by decide), ?_⟩
    have k2 : ∀ b y, b ≠ p → H b = some y → upd G1 p (.ins CP dx (putF "name" v1 (putF "row" v0 []))) b = some y := fun b y hb e => (upd_ne hb).trans (k1 b y hb e)
    have e2 : upd G1 p (.ins CP dx (putF "name" v1 (putF "row" v0 []))) p = some (.ins CP dx (putF "name" v1 (putF "row" v0 []))) := upd_same
    generalize upd G1 p (.ins CP dx (putF "name" v1 (putF "row" v0 []))) = G2 at k2 e2
    refine ⟨_, rfl, _, rfl, p, CP, dx, _, rfl, e2, T.cp, T.a2, Nat.lt_of_le_of_lt (pl_len (pl_len c0)) (by decide), ?_⟩
    have k3 : ∀ b y, b ≠ p → H b = some y → upd G2 p (.ins CP dx (putF "parameters" v2 (putF "name" v1 (putF "row" v0 [])))) b = some y := fun b y hb e => (upd_ne hb).trans (k2 b y hb e)
    have e3 : upd G2 p (.ins CP dx (putF "parameters" v2 (putF "name" v1 (putF "row" v0 [])))) p = some (.ins CP dx (putF "parameters" v2 (putF "name" v1 (putF "row" v0 [])))) := upd_same
    generalize upd G2 p (.ins CP dx (putF "parameters" v2 (putF "name" v1 (putF "row" v0 [])))) = G3 at k3 e3
    refine ⟨_, rfl, _, rfl, p, CP, dx, _, rfl, e3, T.cp, T.a3, Nat.lt_of_le_of_lt (pl_len (pl_len (pl_len c0))) (by decide), ?_⟩
    have k4 : ∀ b y, b ≠ p → H b = some y → upd G3 p (.ins CP dx (putF "needs" v3 (putF "parameters" v2 (putF "name" v1 (putF "row" v0 []))))) b = some y := fun b y hb e => (upd_ne hb).trans (k3 b y hb e)
    have e4 : upd G3 p (.ins CP dx (putF "needs" v3 (putF "parameters" v2 (putF "name" v1 (putF "row" v0 []))))) p = some (.ins CP dx (putF "needs" v3 (putF "parameters" v2 (putF "name" v1 (putF "row" v0 []))))) := upd_same
    generalize upd G3 p (.ins CP dx (putF "needs" v3 (putF "parameters" v2 (putF "name" v1 (putF "row" v0 []))))) = G4 at k4 e4
    refine ⟨_, rfl, _, rfl, p, CP, dx, _, rfl, e4, T.cp, T.a4, Nat.lt_of_le_of_lt (pl_len (pl_len (pl_len (pl_len c0)))) (by decide), ?_⟩
    have k5 : ∀ b y, b ≠ p → H b = some y → upd G4 p (.ins CP dx (putF "gives" v4 (putF "needs" v3 (putF "parameters" v2 (putF "name" v1 (putF "row" v0 [])))))) b = some y := fun b y hb e => (upd_ne hb).trans (k4 b y hb e)
    have e5 : upd G4 p (.ins CP dx (putF "gives" v4 (putF "needs" v3 (putF "parameters" v2 (putF "name" v1 (putF "row" v0 [])))))) p = some (.ins CP dx (putF "gives" v4 (putF "needs" v3 (putF "parameters" v2 (putF "name" v1 (putF "row" v0 [])))))) := upd_same
    generalize upd G4 p (.ins CP dx (putF "gives" v4 (putF "needs" v3 (putF "parameters" v2 (putF "name" v1 (putF "row" v0 [])))))) = G5 at k5 e5
    refine ⟨_, rfl, _, rfl, p, CP, dx, _, rfl, e5, T.cp, T.a5, Nat.lt_of_le_of_lt (pl_len (pl_len (pl_len (pl_len (pl_len c0))))) (by decide), ?_⟩
    have k6 : ∀ b y, b ≠ p → H b = some y → upd G5 p (.ins CP dx (putF "moves" v5 (putF "gives" v4 (putF "needs" v3 (putF "parameters" v2 (putF "name" v1 (putF "row" v0 []))))))) b = some y := fun b y hb e => (upd_ne hb).trans (k5 b y hb e)
    have e6 : upd G5 p (.ins CP dx (putF "moves" v5 (putF "gives" v4 (putF "needs" v3 (putF "parameters" v2 (putF "name" v1 (putF "row" v0 []))))))) p = some (.ins CP dx (putF "moves" v5 (putF "gives" v4 (putF "needs" v3 (putF "parameters" v2 (putF "name" v1 (putF "row" v0 []))))))) := upd_same
    generalize upd G5 p (.ins CP dx (putF "moves" v5 (putF "gives" v4 (putF "needs" v3 (putF "parameters" v2 (putF "name" v1 (putF "row" v0 []))))))) = G6 at k6 e6
    refine ⟨_, rfl, _, rfl, p, CP, dx, _, rfl, e6, T.cp, T.a6, Nat.lt_of_le_of_lt (pl_len (pl_len (pl_len (pl_len (pl_len (pl_len c0)))))) (by decide), ?_⟩
    have k7 : ∀ b y, b ≠ p → H b = some y → upd G6 p (.ins CP dx (putF "falls" v6 (putF "moves" v5 (putF "gives" v4 (putF "needs" v3 (putF "parameters" v2 (putF "name" v1 (putF "row" v0 [])))))))) b = some y := fun b y hb e => (upd_ne hb).trans (k6 b y hb e)
    have e7 : upd G6 p (.ins CP dx (putF "falls" v6 (putF "moves" v5 (putF "gives" v4 (putF "needs" v3 (putF "parameters" v2 (putF "name" v1 (putF "row" v0 [])))))))) p = some (.ins CP dx (putF "falls" v6 (putF "moves" v5 (putF "gives" v4 (putF "needs" v3 (putF "parameters" v2 (putF "name" v1 (putF "row" v0 [])))))))) := upd_same
    generalize upd G6 p (.ins CP dx (putF "falls" v6 (putF "moves" v5 (putF "gives" v4 (putF "needs" v3 (putF "parameters" v2 (putF "name" v1 (putF "row" v0 [])))))))) = G7 at k7 e7
    refine ⟨_, rfl, _, rfl, p, CP, dx, _, rfl, e7, T.cp, T.a7, Nat.lt_of_le_of_lt (pl_len (pl_len (pl_len (pl_len (pl_len (pl_len (pl_len c0))))))) (by decide), ?_⟩
    have k8 : ∀ b y, b ≠ p → H b = some y → upd G7 p (.ins CP dx (putF "lets" v7 (putF "falls" v6 (putF "moves" v5 (putF "gives" v4 (putF "needs" v3 (putF "parameters" v2 (putF "name" v1 (putF "row" v0 []))))))))) b = some y := fun b y hb e => (upd_ne hb).trans (k7 b y hb e)
    have e8 : upd G7 p (.ins CP dx (putF "lets" v7 (putF "falls" v6 (putF "moves" v5 (putF "gives" v4 (putF "needs" v3 (putF "parameters" v2 (putF "name" v1 (putF "row" v0 []))))))))) p = some (.ins CP dx (putF "lets" v7 (putF "falls" v6 (putF "moves" v5 (putF "gives" v4 (putF "needs" v3 (putF "parameters" v2 (putF "name" v1 (putF "row" v0 []))))))))) := upd_same
    generalize upd G7 p (.ins CP dx (putF "lets" v7 (putF "falls" v6 (putF "moves" v5 (putF "gives" v4 (putF "needs" v3 (putF "parameters" v2 (putF "name" v1 (putF "row" v0 []))))))))) = G8 at k8 e8
    refine ⟨_, rfl, _, rfl, p, CP, dx, _, rfl, e8, T.cp, T.a8, Nat.lt_of_le_of_lt (pl_len (pl_len (pl_len (pl_len (pl_len (pl_len (pl_len (pl_len c0)))))))) (by decide), ?_⟩
    have k9 : ∀ b y, b ≠ p → H b = some y → upd G8 p (.ins CP dx (putF "body" v8 (putF "lets" v7 (putF "falls" v6 (putF "moves" v5 (putF "gives" v4 (putF "needs" v3 (putF "parameters" v2 (putF "name" v1 (putF "row" v0 [])))))))))) b = some y := fun b y hb e => (upd_ne hb).trans (k8 b y hb e)
    have e9 : upd G8 p (.ins CP dx (putF "body" v8 (putF "lets" v7 (putF "falls" v6 (putF "moves" v5 (putF "gives" v4 (putF "needs" v3 (putF "parameters" v2 (putF "name" v1 (putF "row" v0 [])))))))))) p = some (.ins CP dx (putF "body" v8 (putF "lets" v7 (putF "falls" v6 (putF "moves" v5 (putF "gives" v4 (putF "needs" v3 (putF "parameters" v2 (putF "name" v1 (putF "row" v0 [])))))))))) := upd_same
    generalize upd G8 p (.ins CP dx (putF "body" v8 (putF "lets" v7 (putF "falls" v6 (putF "moves" v5 (putF "gives" v4 (putF "needs" v3 (putF "parameters" v2 (putF "name" v1 (putF "row" v0 [])))))))))) = G9 at k9 e9
    exact q G9 k9 e9
def spList (K : PySem.W.Frag) (CP : Addr) : Sp := fun vs H Q _ => ∃ (p dx : Addr) (v0 v1 v2 v3 v4 v5 v6 v7 v8 : V) (ps : List (PySem.Str × Bool)), vs = [.ref p] ∧ H p = some (.ins CP dx (prF v0 v1 v2 v3 v4 v5 v6 v7 v8)) ∧ Dp K H v2 (.tuple (ps.map fun x => .tuple [.str x.1, .bool x.2])) ∧ ps.length ≤ 100 ∧ ∀ (F : Addr) (H' : Hp), Same H H' → H F = none → H' F = some (.lst (((ps.filter fun x => x.2).map Prod.fst).map V.str)) → Q (.ref F) H'
theorem ok_list_names {f : Addr} {fd : FuncData} (F : Fun K "list_names" "Procedure.list_names" s_list_names f fd) (T : TxQ K mg CP CG pp gg) : FnOk P w K mg base CX0 1 f fd ["self"] (spList K CP) := by
  refine F.ok sc_list_names (fun vs H Q E h => ?_) (fun cdv A outer s H vs Q E hr h => ?_)
  · obtain ⟨p, dx, v0, v1, v2, v3, v4, v5, v6, v7, v8, ps, rfl, _⟩ := h
    rfl
  · obtain ⟨p, dx, v0, v1, v2, v3, v4, v5, v6, v7, v8, ps, rfl, hp, hd, hl, q⟩ := h
    refine ⟨_, pss_one (ps_ret (pe_lc (own := [("name", 1), ("is_list", 2)]) (g := gTup K 2 (gCons (gName 1) (gCons (gName 2) gNil))) (by rfl) sc_list_names.nd (pi_tup (pe_fld (pv 0) rfl)) (blkOk_by (own := [("name", 1), ("is_list", 2)]) (N := ["self", "name", "is_list"]) (sc := defScope s_list_names) (by decide +kernel)) (fun _ _ _ _ _ => pg_tup rfl (pgs_cons (pg_name (i := 1) sc_list_names.nd rfl (Or.inl rfl)) (pgs_cons (pg_name (i := 2) sc_list_names.nd rfl (Or.inl rfl)) pgs_nil))) (fun _ _ _ _ _ => pts_one (pt_val (pv 2))) (fun _ _ _ _ _ => pv 1))), ?_⟩
    obtain ⟨t, us, rfl, ht, ha⟩ := dp_tup_inv hd
    have hul : us.length = ps.length := by rw [dpa_len ha, List.length_map]
    refine ⟨_, rfl, p, CP, dx, _, _, rfl, hp, T.cp, T.a2, prF_2 _ _ _ _ _ _ _ _ _, t, rfl, ⟨_, ht⟩, fun F nF => ?_⟩
    refine lc_tup (K := K) (a := t) (xs := us) (fun i G => Same H G ∧ G F = some (.lst ((((ps.take i).filter fun x => x.2).map Prod.fst).map V.str))) ⟨same_new nF, upd_same⟩ (fun i G _ hP => sqt_same hP.1 ht) (fun i v G hv hP => ?_) (fun G hP => ?_)
    · obtain ⟨sG, eF⟩ := hP
      have hi : i < ps.length := by
        rw [← hul]
        exact (List.getElem?_eq_some_iff.mp hv).1
      obtain ⟨v', g1, d1⟩ := dp_mem ha hi
      rw [hv] at g1
      cases g1
      obtain ⟨t2, w1, w2, rfl, ht2, d2, d3⟩ := dp_inv2 (d1.same sG)
      cases dp_str_inv d2
      cases dp_bool_inv d3
      have hll : ((((ps.take i).filter fun x => x.2).map Prod.fst).map V.str).length ≤ 100 := by
        rw [List.length_map, List.length_map]
        refine Nat.le_trans (List.length_filter_le _ _) ?_
        rw [List.length_take]
        omega
      refine ⟨t2, _, rfl, ht2, rfl, _, _, rfl, _, _, rfl, rfl, rfl, _, rfl, _, rfl, ite2 (fun e => ?_) (fun e => ?_)⟩
      · refine ⟨_, rfl, _, eF, small_sz5 (by omega), same_mut sG nF, ?_⟩
        rw [upd_same, List.take_succ_eq_append_getElem hi, List.filter_append, List.filter_cons, if_pos e, List.map_append, List.map_append]
        rfl
      · refine ⟨sG, ?_⟩
        rw [List.take_succ_eq_append_getElem hi, List.filter_append, List.filter_cons, if_neg e]
        show G F = some (.lst (((_ ++ []).map Prod.fst).map V.str))
        rw [List.append_nil]
        exact eF
    · obtain ⟨sG, eF⟩ := hP
      rw [List.take_of_length_le (by omega)] at eF
      exact q F G sG nF eF

end
end SW

namespace SW
open PySem PySem.Spec PyProof.Rows L2
abbrev s_cells_of : Stmt := topS 9
theorem sc_cells_of : FnScope ["which", "state", "name", "old"] ["which", "state"] (defScope s_cells_of) := ⟨rfl, rfl, rfl, by decide +kernel, rfl, by decide +kernel, by decide +kernel⟩

abbrev s_value_of : Stmt := topS 7
theorem sc_value_of : FnScope ["term", "state", "kind", "cells", "index"] ["term", "state"] (defScope s_value_of) := ⟨rfl, rfl, rfl, by decide +kernel, rfl, by decide +kernel, by decide +kernel⟩

abbrev s_compares : Stmt := topS 8
theorem sc_compares : FnScope ["sign", "left", "right"] ["sign", "left", "right"] (defScope s_compares) := ⟨rfl, rfl, rfl, by decide +kernel, rfl, by decide +kernel, by decide +kernel⟩

abbrev s_answer : Stmt := topS 16
theorem sc_answer : FnScope ["condition", "state", "kind", "left", "right", "inner", "ending", "part", "answer"] ["condition", "state"] (defScope s_answer) := ⟨rfl, rfl, rfl, by decide +kernel, rfl, by decide +kernel, by decide +kernel⟩

/-! ### terms -/
inductive Pl where
  | num (n : Int) | var (x : PySem.Str) (p : Int) | len (x : PySem.Str) (p : Int)
inductive Tm where
  | pl (p : Pl) | cell (x : PySem.Str) (i : Pl) (p : Int)
def pWh (x : PySem.Str) : PyData := .tuple [.str x, .bool false]
def Pl.enc : Pl → PyData
  | .num n => .tuple [.str "num", .int n]
  | .var x p => .tuple [.str "var", .str x, .int p]
  | .len x p => .tuple [.str "len", .str x, .int p]
def Tm.enc : Tm → PyData
  | .pl p => p.enc
  | .cell x i p => .tuple [.str "cell", pWh x, i.enc, .int p]
theorem noL_pl (p : Pl) : noL p.enc = true := by
  cases p <;> rfl
theorem noL_tm (t : Tm) : noL t.enc = true := by
  cases t with
  | pl p => exact noL_pl p
  | cell x i p =>
    show (true && (noL (pWh x) && (noL i.enc && (true && true)))) = true
    rw [noL_pl]
    rfl
def Pl.ok (nn ln : List PySem.Str) : Pl → Prop
  | .num _ => True
  | .var x _ => x ∈ nn
  | .len x _ => x ∈ ln
def Tm.ok (nn ln : List PySem.Str) : Tm → Prop
  | .pl p => p.ok nn ln
  | .cell x i _ => x ∈ ln ∧ i.ok nn ln
structure Cm where
  z : PySem.Str
  l : Tm
  r : Tm
def Cm.enc (c : Cm) : PyData := .tuple [.str "cmp", .str c.z, c.l.enc, c.r.enc]
def Cm.ok (nn ln : List PySem.Str) (c : Cm) : Prop := c.l.ok nn ln ∧ c.r.ok nn ln
/-! ### conditions, by how deep they are -/
def CoD : Nat → Type
  | 0 => Empty
  | n + 1 => Cm ⊕ (CoD n ⊕ (Bool × List (CoD n)))
def kdOf (o : Bool) : PySem.Str := if o = true then "or" else "and"
def encC : (n : Nat) → CoD n → PyData
  | 0, c => nomatch c
  | n + 1, c => match (show Cm ⊕ (CoD n ⊕ (Bool × List (CoD n))) from c) with
    | .inl m => m.enc
    | .inr (.inl c) => .tuple [.str "not", encC n c]
    | .inr (.inr (o, l)) => .tuple [.str (kdOf o), .tuple (l.map (encC n))]
def okC (nn ln : List PySem.Str) : (n : Nat) → CoD n → Prop
  | 0, c => nomatch c
  | n + 1, c => match (show Cm ⊕ (CoD n ⊕ (Bool × List (CoD n))) from c) with
    | .inl m => m.ok nn ln
    | .inr (.inl c) => okC nn ln n c
    | .inr (.inr (_, l)) => ∀ c, c ∈ l → okC nn ln n c
theorem noL_C : ∀ (n : Nat) (c : CoD n), noL (encC n c) = true
  | 0, c => nomatch c
  | n + 1, .inl m => by
    show (true && (true && (noL m.l.enc && (noL m.r.enc && true)))) = true
    rw [noL_tm, noL_tm]
    rfl
  | n + 1, .inr (.inl c) => by
    show (true && (noL (encC n c) && true)) = true
    rw [noL_C n c]
    rfl
  | n + 1, .inr (.inr (o, l)) => by
    show (true && (noLs (l.map (encC n)) && true)) = true
    rw [show noLs (l.map (encC n)) = true from by
      induction l with
      | nil => rfl
      | cons a r ih =>
        show (noL (encC n a) && noLs (r.map (encC n))) = true
        rw [noL_C n a, ih]
        rfl]
    rfl
/-! ### a state of the run -/
structure TxR (K : PySem.W.Frag) (mg : PySem.Str → Option Value) (CS : Addr) : Prop extends TxB mg where
  cs : Cls K CS
  s0 : NoAttr K CS "numbers"
  s1 : NoAttr K CS "lists"
  s2 : NoAttr K CS "old"
structure SaAt (CS : Addr) (H : Hp) (p : Addr) (nn ln : List PySem.Str) (la : PySem.Str → Addr) : Prop where
  ex : ∃ (dn dl dx : Addr) (fs : List (PySem.Str × V)), H p = some (.ins CS dx fs) ∧ fs.lookup ("numbers" : PySem.Str) = some (.ref dn) ∧ fs.lookup ("lists" : PySem.Str) = some (.ref dl) ∧
    (∃ kvs : List (Key × V), H dn = some (.dK kvs) ∧ kvs.length ≤ 100 ∧ ∀ x, x ∈ nn → ∃ z : Int, valV kvs (.inr x) = some (.int z)) ∧
    (∃ kvs : List (Key × V), H dl = some (.dK kvs) ∧ ∀ x, x ∈ ln → valV kvs (.inr x) = some (.ref (la x)) ∧ ∃ cs : List Int, H (la x) = some (.lst (cs.map V.int)) ∧ cs.length ≤ 100)
section
variable {P : Program} {w : World} {K : PySem.W.Frag} {mg : PySem.Str → Option Value} {base : Heap} {CS : Addr}
def spCells (K : PySem.W.Frag) (CS : Addr) : Sp := fun vs H Q _ => ∃ (v : V) (p : Addr) (x : PySem.Str) (nn ln : List PySem.Str) (la : PySem.Str → Addr), vs = [v, .ref p] ∧ Dp K H v (pWh x) ∧ SaAt CS H p nn ln la ∧ x ∈ ln ∧ Q (.ref (la x)) H
theorem ok_cells_of (T : TxR K mg CS) (D_cells_of : Df K mg "_cells_of" s_cells_of ["which", "state"]) : FnOk P w K mg base CX0 1 D_cells_of.f D_cells_of.fd ["which", "state"] (spCells K CS) := by
  refine D_cells_of.F.ok sc_cells_of (fun vs H Q E h => ?_) (fun cdv A outer s H vs Q E hr h => ?_)
  · obtain ⟨v, p, x, nn, ln, la, rfl, _⟩ := h
    rfl
  · obtain ⟨v, p, x, nn, ln, la, rfl, hv, st, hx, q⟩ := h
    refine ⟨_, (pss_cons (ps_asg (pv 0) (pg_tup (by rfl) (pgs_cons (pg_name (i := 2) sc_cells_of.nd rfl (.inl rfl)) (pgs_cons (pg_name (i := 3) sc_cells_of.nd rfl (.inl rfl)) pgs_nil))))
    (pss_one (ps_ret (pe_ifExp (pt_val (pv 3)) (pe_dget (hu_of hr) (pe_fld (pv 1) rfl) (pv 2) (fun _ _ => rfl)) (pe_dget (hu_of hr) (pe_fld (pv 1) rfl) (pv 2) (fun _ _ => rfl)))))), ?_⟩
    obtain ⟨t, v1, v2, rfl, ht, h1, h2⟩ := dp_inv2 hv
    cases dp_str_inv h1
    obtain rfl : v2 = .bl false := by
      cases h2
      rfl
    obtain ⟨dn, dl, dx, fs, e, l1, l2, _, k2, e2, f2⟩ := st.ex
    obtain ⟨g1, g2⟩ := f2 x hx
    exact ⟨_, rfl, t, _, rfl, ht, rfl, _, _, rfl, _, _, rfl, rfl, _, rfl, _, rfl, iteF ⟨_, rfl, p, CS, dx, _, _, rfl, e, T.cs, T.s1, l2, _, rfl, dl, _, rfl, g1 ▸ DGet.k (k := .inr x) e2, q⟩⟩
def spVal0 (K : PySem.W.Frag) (CS : Addr) : Sp := fun vs H Q _ => ∃ (v : V) (p : Addr) (t : Pl) (nn ln : List PySem.Str) (la : PySem.Str → Addr), vs = [v, .ref p] ∧ Dp K H v t.enc ∧ SaAt CS H p nn ln la ∧ t.ok nn ln ∧ ∀ z : Int, Q (.int z) H
def spVal (K : PySem.W.Frag) (CS : Addr) : Sp := fun vs H Q _ => ∃ (v : V) (p : Addr) (t : Tm) (nn ln : List PySem.Str) (la : PySem.Str → Addr), vs = [v, .ref p] ∧ Dp K H v t.enc ∧ SaAt CS H p nn ln la ∧ t.ok nn ln ∧ (∀ z : Int, Q (.int z) H) ∧ ((∃ x i p, t = .cell x i p) → Q .non H)
theorem dp3 {K : PySem.W.Frag} {H : Hp} {v : V} {d1 d2 d3 : PyData} (h : Dp K H v (.tuple [d1, d2, d3])) : ∃ t v1 v2 v3, v = .ref t ∧ SqT K H t [v1, v2, v3] ∧ Dp K H v1 d1 ∧ Dp K H v2 d2 ∧ Dp K H v3 d3 := by
  obtain ⟨t, xs, rfl, ht, ha⟩ := dp_tup_inv h
  cases ha with
  | cons h1 ha => cases ha with
    | cons h2 ha => cases ha with
      | cons h3 ha =>
        cases ha
        exact ⟨t, _, _, _, rfl, ht, h1, h2, h3⟩
theorem dp4 {K : PySem.W.Frag} {H : Hp} {v : V} {d1 d2 d3 d4 : PyData} (h : Dp K H v (.tuple [d1, d2, d3, d4])) : ∃ t v1 v2 v3 v4, v = .ref t ∧ SqT K H t [v1, v2, v3, v4] ∧ Dp K H v1 d1 ∧ Dp K H v2 d2 ∧ Dp K H v3 d3 ∧ Dp K H v4 d4 := by
  obtain ⟨t, xs, rfl, ht, ha⟩ := dp_tup_inv h
  cases ha with
  | cons h1 ha => cases ha with
    | cons h2 ha => cases ha with
      | cons h3 ha => cases ha with
        | cons h4 ha =>
          cases ha
          exact ⟨t, _, _, _, _, rfl, ht, h1, h2, h3, h4⟩
theorem dpi {K : PySem.W.Frag} {H : Hp} {v : V} {z : Int} (h : Dp K H v (.int z)) : v = .int z := by
  cases h
  rfl
theorem ok_value_pl (T : TxR K mg CS) (D_value_of : Df K mg "value_of" s_value_of ["term", "state"]) (D_cells_of : Df K mg "_cells_of" s_cells_of ["which", "state"]) : FnOk P w K mg base CX0 2 D_value_of.f D_value_of.fd ["term", "state"] (spVal0 K CS) := by
  have G_cells_of := ok_cells_of (P := P) (w := w) (base := base) T D_cells_of
  have G_value_of : FnOk P w K mg base CX0 1 D_value_of.f D_value_of.fd ["term", "state"] (fun _ _ _ _ => False) := fn_never
  refine D_value_of.F.ok sc_value_of (fun vs H Q E h => ?_) (fun cdv A outer s H vs Q E hr h => ?_)
  · obtain ⟨v, p, t, nn, ln, la, rfl, _⟩ := h
    rfl
  · obtain ⟨v, p, t, nn, ln, la, rfl, hv, st, hx, q⟩ := h
    refine ⟨_, (pss_cons (ps_set (i := 2) sc_value_of.nd rfl (.inl rfl) (pe_ix ix_tup (pv 0) pe_int (fun _ _ => rfl)))
    (pss_cons (ps_if (pt_cmpR op_eq (pv 2) pe_str (nomark _))
    (pss_one (ps_ret (pe_ix ix_tup (pv 0) pe_int (fun _ _ => rfl))))
    pss_nil)
    (pss_cons (ps_if (pt_cmpR op_eq (pv 2) pe_str (nomark _))
    (pss_one (ps_ret (pe_op op_add (pe_dget (hu_of hr) (pe_fld (pv 1) rfl) (pe_ix ix_tup (pv 0) pe_int (fun _ _ => rfl)) (fun _ _ => rfl)) (pe_ix ix_tup (pv 0) pe_int (fun _ _ => rfl)))))
    pss_nil)
    (pss_cons (ps_if (pt_cmpR op_eq (pv 2) pe_str (nomark _))
    (pss_one (ps_ret (pe_op op_add (pe_callB call_len_seq (by rfl) T.n_len PySem.boot_len (pa_cons (pe_dget (hu_of hr) (pe_fld (pv 1) rfl) (pe_ix ix_tup (pv 0) pe_int (fun _ _ => rfl)) (fun _ _ => rfl)) pa_nil)) (pe_ix ix_tup (pv 0) pe_int (fun _ _ => rfl)))))
    pss_nil)
    (pss_cons (ps_set (i := 3) sc_value_of.nd rfl (.inl rfl) (pe_call G_cells_of (hr.mono (by decide)) (by rfl) D_cells_of.g D_cells_of.F.kp D_cells_of.b .nil pass0 (pa_cons (pe_ix ix_tup (pv 0) pe_int (fun _ _ => rfl)) (pa_cons (pv 1) pa_nil))))
    (pss_cons (ps_set (i := 4) sc_value_of.nd rfl (.inl rfl) (pe_call G_value_of (hr.mono (by decide)) (by rfl) D_value_of.g D_value_of.F.kp D_value_of.b .nil pass0 (pa_cons (pe_ix ix_tup (pv 0) pe_int (fun _ _ => rfl)) (pa_cons (pv 1) pa_nil))))
    (pss_one (ps_ret (pe_ifExp (pt_chain op_le op_lt pe_int (pv 4) (pe_callB call_len_seq (by rfl) T.n_len PySem.boot_len (pa_cons (pv 3) pa_nil))) (pe_op op_add (pe_ix ix_list (pv 3) (pv 4) (fun _ _ => rfl)) (pe_ix ix_tup (pv 0) pe_int (fun _ _ => rfl))) pe_non))))))))), ?_⟩
    obtain ⟨dn, dl, dx, fs, e, l1, l2, ⟨k1, e1, _, f1⟩, k2, e2, f2⟩ := st.ex
    cases t with
    | num n =>
      obtain ⟨t, v1, v2, rfl, ht, h1, h2⟩ := dp_inv2 hv
      cases dp_str_inv h1
      cases dpi h2
      exact ⟨_, rfl, t, _, _, _, rfl, rfl, ht, atI_nat (j := 0) rfl, _, rfl, rfl, _, rfl, iteT ⟨_, rfl, t, _, _, _, rfl, rfl, ht, atI_nat (j := 1) rfl, q _⟩⟩
    | var x z =>
      obtain ⟨t, v1, v2, v3, rfl, ht, h1, h2, h3⟩ := dp3 hv
      cases dp_str_inv h1
      cases dp_str_inv h2
      cases dpi h3
      obtain ⟨n, hn⟩ := f1 x hx
      exact ⟨_, rfl, t, _, _, _, rfl, rfl, ht, atI_nat (j := 0) rfl, _, rfl, rfl, _, rfl, iteF ⟨_, rfl, rfl, _, rfl, iteT ⟨_, rfl, p, CS, dx, _, _, rfl, e, T.cs, T.s0, l1, _, rfl, t, _, _, _, rfl, rfl, ht, atI_nat (j := 1) rfl, dn, _, rfl, hn ▸ DGet.k (k := .inr x) e1, _, rfl, t, _, _, _, rfl, rfl, ht, atI_nat (j := 2) rfl, _, _, rfl, rfl, q _⟩⟩⟩
    | len x z =>
      obtain ⟨t, v1, v2, v3, rfl, ht, h1, h2, h3⟩ := dp3 hv
      cases dp_str_inv h1
      cases dp_str_inv h2
      cases dpi h3
      obtain ⟨g1, cs, g2, _⟩ := f2 x hx
      exact ⟨_, rfl, t, _, _, _, rfl, rfl, ht, atI_nat (j := 0) rfl, _, rfl, rfl, _, rfl, iteF ⟨_, rfl, rfl, _, rfl, iteF ⟨_, rfl, rfl, _, rfl, iteT ⟨_, rfl, p, CS, dx, _, _, rfl, e, T.cs, T.s1, l2, _, rfl, t, _, _, _, rfl, rfl, ht, atI_nat (j := 1) rfl, dl, _, rfl, g1 ▸ DGet.k (k := .inr x) e2, la x, _, rfl, .inl (SqL.of g2), _, rfl, t, _, _, _, rfl, rfl, ht, atI_nat (j := 2) rfl, _, _, rfl, rfl, q _⟩⟩⟩⟩
def spValC (K : PySem.W.Frag) (CS : Addr) : Sp := fun vs H Q _ => ∃ (v : V) (p : Addr) (x : PySem.Str) (i : Pl) (z : Int) (nn ln : List PySem.Str) (la : PySem.Str → Addr), vs = [v, .ref p] ∧ Dp K H v (Tm.cell x i z).enc ∧ SaAt CS H p nn ln la ∧ x ∈ ln ∧ i.ok nn ln ∧ (∀ z : Int, Q (.int z) H) ∧ Q .non H
theorem ok_value_cell (T : TxR K mg CS) (D_value_of : Df K mg "value_of" s_value_of ["term", "state"]) (D_cells_of : Df K mg "_cells_of" s_cells_of ["which", "state"]) : FnOk P w K mg base CX0 3 D_value_of.f D_value_of.fd ["term", "state"] (spValC K CS) := by
  have G_cells_of := ok_cells_of (P := P) (w := w) (base := base) T D_cells_of
  have G_value_of := ok_value_pl (P := P) (w := w) (base := base) T D_value_of D_cells_of
  refine D_value_of.F.ok sc_value_of (fun vs H Q E h => ?_) (fun cdv A outer s H vs Q E hr h => ?_)
  · obtain ⟨v, p, x, i, z, nn, ln, la, rfl, _⟩ := h
    rfl
  · obtain ⟨v, p, x, i, z, nn, ln, la, rfl, hv, st, hx, hi, q1, q2⟩ := h
    refine ⟨_, (pss_cons (ps_set (i := 2) sc_value_of.nd rfl (.inl rfl) (pe_ix ix_tup (pv 0) pe_int (fun _ _ => rfl)))
    (pss_cons (ps_if (pt_cmpR op_eq (pv 2) pe_str (nomark _))
    (pss_one (ps_ret (pe_ix ix_tup (pv 0) pe_int (fun _ _ => rfl))))
    pss_nil)
    (pss_cons (ps_if (pt_cmpR op_eq (pv 2) pe_str (nomark _))
    (pss_one (ps_ret (pe_op op_add (pe_dget (hu_of hr) (pe_fld (pv 1) rfl) (pe_ix ix_tup (pv 0) pe_int (fun _ _ => rfl)) (fun _ _ => rfl)) (pe_ix ix_tup (pv 0) pe_int (fun _ _ => rfl)))))
    pss_nil)
    (pss_cons (ps_if (pt_cmpR op_eq (pv 2) pe_str (nomark _))
    (pss_one (ps_ret (pe_op op_add (pe_callB call_len_seq (by rfl) T.n_len PySem.boot_len (pa_cons (pe_dget (hu_of hr) (pe_fld (pv 1) rfl) (pe_ix ix_tup (pv 0) pe_int (fun _ _ => rfl)) (fun _ _ => rfl)) pa_nil)) (pe_ix ix_tup (pv 0) pe_int (fun _ _ => rfl)))))
    pss_nil)
    (pss_cons (ps_set (i := 3) sc_value_of.nd rfl (.inl rfl) (pe_call G_cells_of (hr.mono (by decide)) (by rfl) D_cells_of.g D_cells_of.F.kp D_cells_of.b .nil pass0 (pa_cons (pe_ix ix_tup (pv 0) pe_int (fun _ _ => rfl)) (pa_cons (pv 1) pa_nil))))
    (pss_cons (ps_set (i := 4) sc_value_of.nd rfl (.inl rfl) (pe_call G_value_of (hr.mono (by decide)) (by rfl) D_value_of.g D_value_of.F.kp D_value_of.b .nil pass0 (pa_cons (pe_ix ix_tup (pv 0) pe_int (fun _ _ => rfl)) (pa_cons (pv 1) pa_nil))))
    (pss_one (ps_ret (pe_ifExp (pt_chain op_le op_lt pe_int (pv 4) (pe_callB call_len_seq (by rfl) T.n_len PySem.boot_len (pa_cons (pv 3) pa_nil))) (pe_op op_add (pe_ix ix_list (pv 3) (pv 4) (fun _ _ => rfl)) (pe_ix ix_tup (pv 0) pe_int (fun _ _ => rfl))) pe_non))))))))), ?_⟩
    obtain ⟨t, v1, v2, v3, v4, rfl, ht, h1, h2, h3, h4⟩ := dp4 hv
    cases dp_str_inv h1
    cases dpi h4
    obtain ⟨dn, dl, dx, fs, e, l1, l2, _, k2, e2, f2⟩ := st.ex
    obtain ⟨g1, cs, g2, _⟩ := f2 x hx
    refine ⟨_, rfl, t, _, _, _, rfl, rfl, ht, atI_nat (j := 0) rfl, _, rfl, rfl, _, rfl, iteF ⟨_, rfl, rfl, _, rfl, iteF ⟨_, rfl, rfl, _, rfl, iteF ?_⟩⟩⟩
    refine ⟨_, rfl, t, _, _, _, rfl, rfl, ht, atI_nat (j := 1) rfl, _, rfl, v2, p, x, nn, ln, la, rfl, h2, st, hx, ?_⟩
    refine ⟨_, rfl, t, _, _, _, rfl, rfl, ht, atI_nat (j := 2) rfl, _, rfl, v3, p, i, nn, ln, la, rfl, h3, st, hi, fun k => ?_⟩
    refine ⟨_, rfl, _, _, rfl, rfl, _, rfl, ite2 (fun e => ?_) (fun e => ?_)⟩
    · have e := of_decide_eq_true e
      refine ⟨_, rfl, la x, _, rfl, .inl (SqL.of g2), _, _, rfl, rfl, _, rfl, ite2 (fun e2 => ?_) (fun e2 => ?_)⟩
      · have e2 := of_decide_eq_true e2
        rw [List.length_map] at e2
        obtain ⟨j, rfl⟩ : ∃ j : Nat, k = j := ⟨k.toNat, by omega⟩
        have hj : j < cs.length := by omega
        exact ⟨_, rfl, _, rfl, la x, _, _, _, rfl, rfl, SqL.of g2, atI_nat (j := j) (by rw [List.getElem?_map, List.getElem?_eq_getElem hj]; rfl), _, rfl, t, _, _, _, rfl, rfl, ht, atI_nat (j := 3) rfl, _, _, rfl, rfl, q1 _⟩
      · exact q2
    · exact ⟨_, rfl, iteF q2⟩
theorem ok_value_of (T : TxR K mg CS) (D_value_of : Df K mg "value_of" s_value_of ["term", "state"]) (D_cells_of : Df K mg "_cells_of" s_cells_of ["which", "state"]) : FnOk P w K mg base CX0 3 D_value_of.f D_value_of.fd ["term", "state"] (spVal K CS) := by
  refine (fn_or ((ok_value_pl T D_value_of D_cells_of).mono (by decide)) (ok_value_cell T D_value_of D_cells_of)).imp fun vs H Q E h => ?_
  obtain ⟨v, p, t, nn, ln, la, rfl, hv, st, ok, q1, q2⟩ := h
  cases t with
  | pl t => exact .inl ⟨v, p, t, nn, ln, la, rfl, hv, st, ok, q1⟩
  | cell x i z => exact .inr ⟨v, p, x, i, z, nn, ln, la, rfl, hv, st, ok.1, ok.2, q1, q2 ⟨x, i, z, rfl⟩⟩
def spCompares : Sp := fun vs H Q _ => ∃ (z : PySem.Str) (a b : Int), vs = [.str z, .int a, .int b] ∧ ∀ c, Q (.bl c) H
theorem ok_compares (T : TxB mg) (D_compares : Df K mg "compares" s_compares ["sign", "left", "right"]) : FnOk P w K mg base CX0 1 D_compares.f D_compares.fd ["sign", "left", "right"] spCompares := by
  refine D_compares.F.ok sc_compares (fun vs H Q E h => ?_) (fun cdv A outer s H vs Q E hr h => ?_)
  · obtain ⟨z, a, b, rfl, _⟩ := h
    rfl
  · obtain ⟨z, a, b, rfl, q⟩ := h
    refine ⟨_, (pss_cons (ps_if (pt_cmpR op_eq (pv 0) pe_str (nomark _))
    (pss_one (ps_ret (pe_cmpR op_lt (pv 1) (pv 2) (nomark _))))
    pss_nil)
    (pss_cons (ps_if (pt_cmpR op_eq (pv 0) pe_str (nomark _))
    (pss_one (ps_ret (pe_cmpR op_le (pv 1) (pv 2) (nomark _))))
    pss_nil)
    (pss_cons (ps_if (pt_cmpR op_eq (pv 0) pe_str (nomark _))
    (pss_one (ps_ret (pe_cmpR op_gt (pv 1) (pv 2) (nomark _))))
    pss_nil)
    (pss_cons (ps_if (pt_cmpR op_eq (pv 0) pe_str (nomark _))
    (pss_one (ps_ret (pe_cmpR op_ge (pv 1) (pv 2) (nomark _))))
    pss_nil)
    (pss_cons (ps_if (pt_cmpR op_eq (pv 0) pe_str (nomark _))
    (pss_one (ps_ret (pe_cmpR op_eq (pv 1) (pv 2) (nomark _))))
    pss_nil)
    (pss_one (ps_ret (pe_cmpR op_ne (pv 1) (pv 2) (nomark _))))))))), ?_⟩
    refine ⟨_, rfl, rfl, _, rfl, ite2 (fun e => ?_) (fun e => ?_)⟩
    · exact ⟨_, rfl, _, rfl, _, _, rfl, rfl, q _⟩
    refine ⟨_, rfl, rfl, _, rfl, ite2 (fun e => ?_) (fun e => ?_)⟩
    · exact ⟨_, rfl, _, rfl, _, _, rfl, rfl, q _⟩
    refine ⟨_, rfl, rfl, _, rfl, ite2 (fun e => ?_) (fun e => ?_)⟩
    · exact ⟨_, rfl, _, rfl, _, _, rfl, rfl, q _⟩
    refine ⟨_, rfl, rfl, _, rfl, ite2 (fun e => ?_) (fun e => ?_)⟩
    · exact ⟨_, rfl, _, rfl, _, _, rfl, rfl, q _⟩
    refine ⟨_, rfl, rfl, _, rfl, ite2 (fun e => ?_) (fun e => ?_)⟩
    · exact ⟨_, rfl, _, rfl, rfl, q _⟩
    exact ⟨_, rfl, _, rfl, rfl, q _⟩
end
end SW

namespace SW
open PySem PySem.Spec PyProof.Rows L2
theorem intN (z : Int) : decide (V.int z = V.non) = false := decide_eq_false fun h => by cases h
theorem blN (b : Bool) : decide (V.bl b = V.non) = false := decide_eq_false fun h => by cases h
section
variable {P : Program} {w : World} {K : PySem.W.Frag} {mg : PySem.Str → Option Value} {base : Heap} {CS : Addr}
def spAns (K : PySem.W.Frag) (CS : Addr) (n : Nat) : Sp := fun vs H Q _ => ∃ (v : V) (p : Addr) (c : CoD n) (nn ln : List PySem.Str) (la : PySem.Str → Addr), vs = [v, .ref p] ∧ Dp K H v (encC n c) ∧ SaAt CS H p nn ln la ∧ okC nn ln n c ∧ (∀ b : Bool, Q (.bl b) H) ∧ Q .non H
theorem ok_answer (T : TxR K mg CS) (D_answer : Df K mg "_answer" s_answer ["condition", "state"]) (D_value_of : Df K mg "value_of" s_value_of ["term", "state"]) (D_cells_of : Df K mg "_cells_of" s_cells_of ["which", "state"]) (D_compares : Df K mg "compares" s_compares ["sign", "left", "right"]) : ∀ n, FnOk P w K mg base CX0 (n + 4) D_answer.f D_answer.fd ["condition", "state"] (spAns K CS n)
  | 0 => ⟨fun vs H Q E ⟨v, p, c, _⟩ => (nomatch c), fun A outer s H args us vs Q E hr he hb hv ⟨v, p, c, _⟩ => (nomatch c)⟩
  | n + 1 => by
    have G_value_of := ok_value_of (P := P) (w := w) (base := base) T D_value_of D_cells_of
    have G_compares := ok_compares (P := P) (w := w) (K := K) (base := base) T.toTxB D_compares
    have G_answer := ok_answer T D_answer D_value_of D_cells_of D_compares n
    refine D_answer.F.ok sc_answer (fun vs H Q E h => ?_) (fun cdv A outer s H vs Q E hr h => ?_)
    · obtain ⟨v, p, c, nn, ln, la, rfl, _⟩ := h
      rfl
    · obtain ⟨v, p, c, nn, ln, la, rfl, hv, st, ok, q1, q2⟩ := h
      refine ⟨_, (pss_cons (ps_set (i := 2) sc_answer.nd rfl (.inl rfl) (pe_ix ix_tup (pv 0) pe_int (fun _ _ => rfl)))
    (pss_cons (ps_if (pt_cmpR op_eq (pv 2) pe_str (nomark _))
    (pss_cons (ps_set (i := 3) sc_answer.nd rfl (.inl rfl) (pe_call G_value_of (hr.mono (by omega)) (by rfl) D_value_of.g D_value_of.F.kp D_value_of.b .nil pass0 (pa_cons (pe_ix ix_tup (pv 0) pe_int (fun _ _ => rfl)) (pa_cons (pv 1) pa_nil))))
    (pss_cons (ps_set (i := 4) sc_answer.nd rfl (.inl rfl) (pe_call G_value_of (hr.mono (by omega)) (by rfl) D_value_of.g D_value_of.F.kp D_value_of.b .nil pass0 (pa_cons (pe_ix ix_tup (pv 0) pe_int (fun _ _ => rfl)) (pa_cons (pv 1) pa_nil))))
    (pss_one (ps_ret (pe_ifExp (PW.pt (pw_or (pt_cmpR op_isN (pv 3) pe_non (nomark _)) (pw_or1 (pt_cmpR op_isN (pv 4) pe_non (nomark _))))) pe_non (pe_call G_compares (hr.mono (by omega)) (by rfl) D_compares.g D_compares.F.kp D_compares.b .nil pass0 (pa_cons (pe_ix ix_tup (pv 0) pe_int (fun _ _ => rfl)) (pa_cons (pv 3) (pa_cons (pv 4) pa_nil)))))))))
    pss_nil)
    (pss_cons (ps_if (pt_cmpR op_eq (pv 2) pe_str (nomark _))
    (pss_cons (ps_set (i := 5) sc_answer.nd rfl (.inl rfl) (pe_call G_answer (hr.mono (by omega)) (by rfl) D_answer.g D_answer.F.kp D_answer.b .nil pass0 (pa_cons (pe_ix ix_tup (pv 0) pe_int (fun _ _ => rfl)) (pa_cons (pv 1) pa_nil))))
    (pss_one (ps_ret (pe_ifExp (pt_cmpR op_isN (pv 5) pe_non (nomark _)) pe_non (pe_not (pv 5))))))
    pss_nil)
    (pss_cons (ps_set (i := 6) sc_answer.nd rfl (.inl rfl) (pe_cmpR op_eq (pv 2) pe_str (nomark _)))
    (pss_cons (ps_for PassesOwn.never rfl (pi_tup (pe_ix ix_tup (pv 0) pe_int (fun _ _ => rfl))) (pg_name (i := 7) sc_answer.nd rfl (.inl rfl))
    (pss_cons (ps_set (i := 8) sc_answer.nd rfl (.inl rfl) (pe_call G_answer (hr.mono (by omega)) (by rfl) D_answer.g D_answer.F.kp D_answer.b .nil pass0 (pa_cons (pv 7) (pa_cons (pv 1) pa_nil))))
    (pss_one (ps_if (PW.pt (pw_or (pt_cmpR op_isN (pv 8) pe_non (nomark _)) (pw_or1 (pt_cmpR op_eq (pv 8) (pv 6) (nomark _)))))
    (pss_one (ps_ret (pv 8)))
    pss_nil))))
    (pss_one (ps_ret (pe_not (pv 6))))))))), ?_⟩
      obtain ⟨c, rfl⟩ : ∃ c' : Cm ⊕ (CoD n ⊕ (Bool × List (CoD n))), c' = c := ⟨c, rfl⟩
      rcases c with m | c | ⟨o, l⟩
      · have hv : Dp K H v (.tuple [.str "cmp", .str m.z, m.l.enc, m.r.enc]) := hv
        have ok : m.ok nn ln := ok
        obtain ⟨t, v1, v2, v3, v4, rfl, ht, h1, h2, h3, h4⟩ := dp4 hv
        cases dp_str_inv h1
        cases dp_str_inv h2
        refine ⟨_, rfl, t, _, _, _, rfl, rfl, ht, atI_nat (j := 0) rfl, _, rfl, rfl, _, rfl, iteT ?_⟩
        refine ⟨_, rfl, t, _, _, _, rfl, rfl, ht, atI_nat (j := 2) rfl, _, rfl, v3, p, m.l, nn, ln, la, rfl, h3, st, ok.1, fun z1 => ?_, fun _ => ?_⟩
        · refine ⟨_, rfl, t, _, _, _, rfl, rfl, ht, atI_nat (j := 3) rfl, _, rfl, v4, p, m.r, nn, ln, la, rfl, h4, st, ok.2, fun z2 => ?_, fun _ => ?_⟩
          · refine ⟨_, rfl, rfl, _, rfl, ?_⟩
            rw [intN]
            refine iteF ⟨_, rfl, rfl, _, rfl, ?_⟩
            rw [intN]
            exact iteF ⟨_, rfl, t, _, _, _, rfl, rfl, ht, atI_nat (j := 1) rfl, _, rfl, _, rfl, _, _, _, rfl, q1⟩
          · refine ⟨_, rfl, rfl, _, rfl, ?_⟩
            rw [intN]
            exact iteF ⟨_, rfl, rfl, _, rfl, iteT q2⟩
        · refine ⟨_, rfl, t, _, _, _, rfl, rfl, ht, atI_nat (j := 3) rfl, _, rfl, v4, p, m.r, nn, ln, la, rfl, h4, st, ok.2, fun z2 => ?_, fun _ => ?_⟩
          · exact ⟨_, rfl, rfl, _, rfl, iteT (iteT q2)⟩
          · exact ⟨_, rfl, rfl, _, rfl, iteT (iteT q2)⟩
      · have hv : Dp K H v (.tuple [.str "not", encC n c]) := hv
        have ok : okC nn ln n c := ok
        obtain ⟨t, v1, v2, rfl, ht, h1, h2⟩ := dp_inv2 hv
        cases dp_str_inv h1
        refine ⟨_, rfl, t, _, _, _, rfl, rfl, ht, atI_nat (j := 0) rfl, _, rfl, rfl, _, rfl, iteF ⟨_, rfl, rfl, _, rfl, iteT ?_⟩⟩
        refine ⟨_, rfl, t, _, _, _, rfl, rfl, ht, atI_nat (j := 1) rfl, _, rfl, v2, p, c, nn, ln, la, rfl, h2, st, ok, fun b => ?_, ?_⟩
        · refine ⟨_, rfl, rfl, _, rfl, ?_⟩
          rw [blN]
          exact iteF ⟨_, rfl, b, rfl, q1 _⟩
        · exact ⟨_, rfl, rfl, _, rfl, iteT q2⟩
      · have hv : Dp K H v (.tuple [.str (kdOf o), .tuple (l.map (encC n))]) := hv
        have ok : ∀ c, c ∈ l → okC nn ln n c := ok
        obtain ⟨t, v1, v2, rfl, ht, h1, h2⟩ := dp_inv2 hv
        cases dp_str_inv h1
        obtain ⟨tl, ys, rfl, htl, dl⟩ := dp_tup_inv h2
        have hyl : ys.length = l.length := by rw [dpa_len dl, List.length_map]
        have k1 : ¬ kdOf o = "cmp" := by cases o <;> decide +kernel
        have k2 : ¬ kdOf o = "not" := by cases o <;> decide +kernel
        refine ⟨_, rfl, t, _, _, _, rfl, rfl, ht, atI_nat (j := 0) rfl, _, rfl, rfl, _, rfl, ?_⟩
        rw [str_dec, decide_eq_false k1]
        refine iteF ⟨_, rfl, rfl, _, rfl, ?_⟩
        rw [str_dec, decide_eq_false k2]
        refine iteF ⟨_, rfl, rfl, ?_⟩
        rw [str_dec]
        generalize decide (kdOf o = "or") = en
        refine ⟨_, rfl, t, _, _, _, rfl, rfl, ht, atI_nat (j := 1) rfl, tl, rfl, ⟨_, htl⟩, ?_⟩
        refine for_tup (K := K) (a := tl) (xs := ys) (fun i σ J => J = H ∧ ∃ y3 y4 y5 y7 y8 : Option V, σ = [some (.ref t), some (.ref p), some (.str (kdOf o)), y3, y4, y5, some (.bl en), y7, y8]) ⟨rfl, _, _, _, _, _, rfl⟩ (fun i σ J _ hP => ?_) (fun i x σ J hx hP => ?_) (fun σ J hP => ?_)
        · obtain ⟨rfl, _⟩ := hP
          exact htl
        · obtain ⟨rfl, y3, y4, y5, y7, y8, rfl⟩ := hP
          have hi : i < l.length := by
            rw [← hyl]
            exact (List.getElem?_eq_some_iff.mp hx).1
          obtain ⟨v', g1, dv⟩ := dp_mem dl hi
          rw [hx] at g1
          cases g1
          refine ⟨_, rfl, _, rfl, x, p, l[i], nn, ln, la, rfl, dv, st, ok _ (List.getElem_mem hi), fun b => ?_, ?_⟩
          · refine ⟨_, rfl, rfl, _, rfl, ?_⟩
            rw [blN]
            refine iteF ⟨_, rfl, _, rfl, rfl, _, rfl, ite2 (fun e => ?_) (fun e => ?_)⟩
            · exact ⟨_, rfl, q1 b⟩
            · exact ⟨rfl, _, _, _, _, _, rfl⟩
          · exact ⟨_, rfl, rfl, _, rfl, iteT (iteT ⟨_, rfl, q2⟩)⟩
        · obtain ⟨rfl, y3, y4, y5, y7, y8, rfl⟩ := hP
          exact ⟨_, rfl, en, rfl, q1 _⟩
end
end SW

namespace SW
open PySem PySem.Spec PyProof.Rows L2
abbrev s_l_gen_plain : Stmt := topS 39
theorem sc_l_gen_plain : FnScope ["hand", "ctx", "lists", "numbers", "kind"] ["hand", "ctx"] (defScope s_l_gen_plain) := ⟨rfl, rfl, rfl, by decide +kernel, rfl, by decide +kernel, by decide +kernel⟩

abbrev s_l_gen_index : Stmt := topS 40
theorem sc_l_gen_index : FnScope ["hand", "ctx", "name", "kind"] ["hand", "ctx", "name"] (defScope s_l_gen_index) := ⟨rfl, rfl, rfl, by decide +kernel, rfl, by decide +kernel, by decide +kernel⟩

abbrev s_l_gen_term : Stmt := topS 41
theorem sc_l_gen_term : FnScope ["hand", "ctx", "name", "index"] ["hand", "ctx"] (defScope s_l_gen_term) := ⟨rfl, rfl, rfl, by decide +kernel, rfl, by decide +kernel, by decide +kernel⟩

abbrev s_l_gen_cmp : Stmt := topS 42
theorem sc_l_gen_cmp : FnScope ["hand", "ctx", "sign"] ["hand", "ctx"] (defScope s_l_gen_cmp) := ⟨rfl, rfl, rfl, by decide +kernel, rfl, by decide +kernel, by decide +kernel⟩

/-! ### what is only carried along -/
def Op (K : PySem.W.Frag) (H : Hp) (v : V) : Prop := ∃ d : PyData, Dp K H v d ∧ noL d = true
def Ops (K : PySem.W.Frag) (H : Hp) (xs : List V) : Prop := ∃ ds : List PyData, DpAll K H xs ds ∧ noLs ds = true
theorem Op.int {K : PySem.W.Frag} {H : Hp} (i : Int) : Op K H (.int i) := ⟨_, .int i, rfl⟩
theorem Op.str {K : PySem.W.Frag} {H : Hp} (i : PySem.Str) : Op K H (.str i) := ⟨_, .str i, rfl⟩
theorem Op.bl {K : PySem.W.Frag} {H : Hp} (i : Bool) : Op K H (.bl i) := ⟨_, .bl i, rfl⟩
theorem Op.non {K : PySem.W.Frag} {H : Hp} : Op K H .non := ⟨_, .non, rfl⟩
theorem Ops.nil {K : PySem.W.Frag} {H : Hp} : Ops K H [] := ⟨_, .nil, rfl⟩
theorem Ops.cons {K : PySem.W.Frag} {H : Hp} {v : V} {xs : List V} (a : Op K H v) (b : Ops K H xs) : Ops K H (v :: xs) := by
  obtain ⟨d, h1, h2⟩ := a
  obtain ⟨ds, h3, h4⟩ := b
  refine ⟨d :: ds, .cons h1 h3, ?_⟩
  unfold noLs
  rw [h2, h4]
  rfl
theorem Op.tup {K : PySem.W.Frag} {H : Hp} {t : Addr} {xs : List V} (h : H t = some (.tup xs)) (o : Ops K H xs) : Op K H (.ref t) := by
  obtain ⟨ds, h3, h4⟩ := o
  exact ⟨.tuple ds, .tup (SqT.of h) h3, by unfold noL; exact h4⟩
theorem Op.sqt {K : PySem.W.Frag} {H : Hp} {t : Addr} {xs : List V} (h : SqT K H t xs) (o : Ops K H xs) : Op K H (.ref t) := by
  obtain ⟨ds, h3, h4⟩ := o
  exact ⟨.tuple ds, .tup h h3, by unfold noL; exact h4⟩
theorem Op.same {K : PySem.W.Frag} {H H' : Hp} {v : V} (a : Op K H v) (s : Same H H') : Op K H' v := by
  obtain ⟨d, h1, h2⟩ := a
  exact ⟨d, h1.same s, h2⟩
theorem Op.but {K : PySem.W.Frag} {H H' : Hp} {v : V} {h : Addr} {ys : List V} (a : Op K H v) (hl : H h = some (.lst ys)) (s : But h H H') : Op K H' v := by
  obtain ⟨d, h1, h2⟩ := a
  exact ⟨d, dp_but hl s d v h2 h1, h2⟩
theorem Op.hand {K : PySem.W.Frag} {H H' : Hp} {v : V} {h d : Addr} {ds : List Int} (a : Op K H v) (hl : Hand H h d ds) (s : But h H H') : Op K H' v := by
  obtain ⟨⟨i, e⟩, _, _⟩ := hl
  exact a.but e s
/-- .. a tuple whose first is a word, but not "list" -/
def Opl (K : PySem.W.Frag) (H : Hp) (v : V) : Prop := ∃ (z : PySem.Str) (ds : List PyData), Dp K H v (.tuple (.str z :: ds)) ∧ noLs ds = true ∧ z ≠ "list"
theorem Opl.op {K : PySem.W.Frag} {H : Hp} {v : V} (a : Opl K H v) : Op K H v := by
  obtain ⟨z, ds, h1, h2, _⟩ := a
  refine ⟨_, h1, ?_⟩
  show (true && noLs ds) = true
  rw [h2]
  rfl
theorem Opl.same {K : PySem.W.Frag} {H H' : Hp} {v : V} (a : Opl K H v) (s : Same H H') : Opl K H' v := by
  obtain ⟨z, ds, h1, h2, h3⟩ := a
  exact ⟨z, ds, h1.same s, h2, h3⟩
theorem Opl.tup {K : PySem.W.Frag} {H : Hp} {t : Addr} {z : PySem.Str} {xs : List V} (h : H t = some (.tup (.str z :: xs))) (hz : z ≠ "list") (o : Ops K H xs) : Opl K H (.ref t) := by
  obtain ⟨ds, h3, h4⟩ := o
  exact ⟨z, ds, .tup (SqT.of h) (.cons (.str z) h3), h4, hz⟩
/-! ### what a block is made of -/
structure Ca where
  c : Addr
  L : Addr
  N : Addr
  Kd : Addr
  Cn : Addr
  Mv : Addr
  R : Addr
structure Kn where
  nm : PySem.Str
  ps : List (PySem.Str × Bool)
  mv : List PySem.Str
def Kn.enc (k : Kn) : PyData := .tuple [.str k.nm, psE k.ps, .tuple (k.mv.map .str)]
theorem psE_noL (ps : List (PySem.Str × Bool)) : noL (psE ps) = true := by
  unfold psE noL
  exact noLs_mapof fun a _ => rfl
theorem strs_noL (ws : List PySem.Str) : noL (.tuple (ws.map .str)) = true := by
  unfold noL
  exact noLs_mapof fun a _ => rfl
theorem Kn.noL (k : Kn) : noL k.enc = true := by
  show (noLs [.str k.nm, psE k.ps, .tuple (k.mv.map .str)]) = true
  show (true && (SW.noL (psE k.ps) && (SW.noL (.tuple (k.mv.map .str)) && true))) = true
  rw [psE_noL, strs_noL]
  rfl
structure Cd where
  ls : List PySem.Str
  ns : List PySem.Str
  kn : List Kn
  c5 : PySem.Str
  c6 : PySem.Str
  mv : List PySem.Str
  b : Bool
structure CtxAt (K : PySem.W.Frag) (H : Hp) (a : Ca) (x : Cd) (r : Int) : Prop where
  c : H a.c = some (.lst [.ref a.L, .ref a.N, .ref a.Kd, .ref a.Cn, .ref a.Mv, .ref a.R, .bl x.b])
  l : H a.L = some (.lst (x.ls.map V.str))
  n : H a.N = some (.lst (x.ns.map V.str))
  k : ∃ xs, H a.Kd = some (.lst xs) ∧ DpAll K H xs (x.kn.map Kn.enc)
  cn : H a.Cn = some (.lst [.str x.c5, .str x.c6])
  m : H a.Mv = some (.lst (x.mv.map V.str))
  r : H a.R = some (.lst [.int r])
  zl : x.ls.length ≤ 10
  zn : x.ns.length ≤ 10
  zk : x.kn.length ≤ 10
  zm : x.mv.length ≤ 10
theorem CtxAt.same {K : PySem.W.Frag} {H H' : Hp} {a : Ca} {x : Cd} {r : Int} (q : CtxAt K H a x r) (s : Same H H') : CtxAt K H' a x r := by
  obtain ⟨c, l, n, ⟨xs, k1, k2⟩, cn, m, r, zl, zn, zk, zm⟩ := q
  exact ⟨s _ _ c, s _ _ l, s _ _ n, ⟨xs, s _ _ k1, dpa_same s _ _ k2⟩, s _ _ cn, s _ _ m, s _ _ r, zl, zn, zk, zm⟩
theorem strs_ne {d : Addr} {v : V} {r : List V} : ∀ {ws : List PySem.Str}, ws.map V.str ≠ .ref d :: v :: r
  | [], h => by cases h
  | a :: r, h => by cases h
theorem CtxAt.hand_ne {K : PySem.W.Frag} {H : Hp} {a : Ca} {x : Cd} {r : Int} (q : CtxAt K H a x r) {h d : Addr} {ds : List Int} (hd : Hand H h d ds) : ∀ b, b ∈ ([a.c, a.L, a.N, a.Kd, a.Cn, a.Mv, a.R] : List Addr) → b ≠ h := by
  obtain ⟨c, l, n, ⟨xs, k1, k2⟩, cn, m, r, zl, zn, zk, zm⟩ := q
  obtain ⟨⟨i, e⟩, _, _⟩ := hd
  have ns : ∀ {b : Addr} {ws : List PySem.Str}, H b = some (.lst (ws.map V.str)) → b ≠ h := fun e1 e2 => by
    rw [e2, e] at e1
    exact strs_ne (HO.lst.inj (Option.some.inj e1)).symm
  intro b hb
  simp only [List.mem_cons, List.not_mem_nil, or_false] at hb
  rcases hb with rfl | rfl | rfl | rfl | rfl | rfl | rfl
  · intro e2
    rw [e2, e] at c
    cases c
  · exact ns l
  · exact ns n
  · intro e2
    rw [e2, e] at k1
    cases k1
    cases hk : x.kn with
    | nil =>
      rw [hk] at k2
      cases k2
    | cons k r =>
      rw [hk] at k2
      cases k2 with
      | cons k3 k4 =>
        cases r with
        | nil => cases k4
        | cons k r =>
          cases k4 with
          | cons k5 k6 => cases k5
  · intro e2
    rw [e2, e] at cn
    cases cn
  · exact ns m
  · intro e2
    rw [e2, e] at r
    cases r
theorem kns_noL (l : List Kn) : noLs (l.map Kn.enc) = true := noLs_mapof fun k _ => k.noL
theorem CtxAt.but {K : PySem.W.Frag} {H H' : Hp} {a : Ca} {x : Cd} {r : Int} (q : CtxAt K H a x r) {h d : Addr} {ds : List Int} (hd : Hand H h d ds) (s : But h H H') : CtxAt K H' a x r := by
  have ne := q.hand_ne hd
  obtain ⟨c, l, n, ⟨xs, k1, k2⟩, cn, m, r, zl, zn, zk, zm⟩ := q
  obtain ⟨⟨i, e⟩, _, _⟩ := hd
  exact ⟨s _ _ (ne _ (by simp)) c, s _ _ (ne _ (by simp)) l, s _ _ (ne _ (by simp)) n, ⟨xs, s _ _ (ne _ (by simp)) k1, dpa_but e s _ _ (kns_noL _) k2⟩, s _ _ (ne _ (by simp)) cn, s _ _ (ne _ (by simp)) m, s _ _ (ne _ (by simp)) r, zl, zn, zk, zm⟩
structure St8 (K : PySem.W.Frag) (H : Hp) (h d : Addr) (ds : List Int) (a : Ca) (x : Cd) (r : Int) : Prop where
  hd : Hand H h d ds
  cx : CtxAt K H a x r
theorem St8.same {K : PySem.W.Frag} {H H' : Hp} {h d : Addr} {ds : List Int} {a : Ca} {x : Cd} {r : Int} (q : St8 K H h d ds a x r) (s : Same H H') : St8 K H' h d ds a x r := ⟨q.hd.same s, q.cx.same s⟩
theorem St8.but {K : PySem.W.Frag} {H H' : Hp} {h d : Addr} {ds : List Int} {a : Ca} {x : Cd} {r : Int} (q : St8 K H h d ds a x r) (s : But h H H') (e : Hand H' h d ds) : St8 K H' h d ds a x r := ⟨e, q.cx.but q.hd s⟩
theorem atI_in {xs : List V} {i : Int} (h0 : 0 ≤ i) (h1 : i < xs.length) : ∃ v, v ∈ xs ∧ atI xs i = some v := by
  have hj : i.toNat < xs.length := by omega
  exact ⟨xs[i.toNat], List.getElem_mem hj, at_nat (j := i.toNat) (by omega) (List.getElem?_eq_getElem hj)⟩
section
variable {P : Program} {w : World} {K : PySem.W.Frag} {mg : PySem.Str → Option Value} {base : Heap}
/-- the names of numbers that may stand in a term -/
def Cd.vs (x : Cd) : List PySem.Str := if x.b = true then x.c5 :: x.c6 :: x.ns else x.ns
theorem Cd.ns_vs {x : Cd} {z : PySem.Str} (h : z ∈ x.ns) : z ∈ x.vs := by
  unfold Cd.vs
  split
  · exact List.mem_cons_of_mem _ (List.mem_cons_of_mem _ h)
  · exact h
theorem Pl.up {x : Cd} {t : Pl} (h : t.ok x.ns x.ls) : t.ok x.vs x.ls := by
  cases t with
  | num n => trivial
  | var z p => exact x.ns_vs h
  | len z p => exact h
def spGp (K : PySem.W.Frag) : Sp := fun vs H Q _ => ∃ (h d : Addr) (ds : List Int) (a : Ca) (x : Cd) (r : Int), vs = [.ref h, .ref a.c] ∧ St8 K H h d ds a x r ∧ ∀ (v : V) (t : Pl) (H' : Hp), But h H H' → St8 K H' h d ds a x r → Dp K H' v t.enc → t.ok x.ns x.ls → Q v H'
theorem ok_l_plain (T : TxB mg) (D_l_gen_plain : Df K mg "_law_gen_plain" s_l_gen_plain ["hand", "ctx"]) (D_l_take : Df K mg "_law_take" s_l_take ["hand", "many"]) : FnOk P w K mg base CX0 2 D_l_gen_plain.f D_l_gen_plain.fd ["hand", "ctx"] (spGp K) := by
  have G_l_take := ok_l_take (P := P) (w := w) (K := K) (base := base) T D_l_take
  refine D_l_gen_plain.F.ok sc_l_gen_plain (fun vs H Q E h => ?_) (fun cdv A outer s H vs Q E hr h => ?_)
  · obtain ⟨h, d, ds, a, x, r, rfl, _⟩ := h
    rfl
  · obtain ⟨h, d, ds, a, x, r, rfl, st, q⟩ := h
    refine ⟨_, (pss_cons (ps_par (i := 2) (j := 3) (by rfl) sc_l_gen_plain.nd rfl rfl (by decide) rfl rfl (pa_cons (pe_ix ix_list (pv 1) pe_int (fun _ _ => rfl)) (pa_cons (pe_ix ix_list (pv 1) pe_int (fun _ _ => rfl)) pa_nil)) (by rfl))
    (pss_cons (ps_set (i := 4) sc_l_gen_plain.nd rfl (.inl rfl) (pe_call G_l_take (hr.mono (by decide)) (by rfl) D_l_take.g D_l_take.F.kp D_l_take.b .nil pass0 (pa_cons (pv 0) (pa_cons pe_int pa_nil))))
    (pss_cons (ps_if (PW.pt (pw_or (pt_cmpR op_lt (pv 4) pe_int (nomark _)) (pw_or1 (PW.pt (pw_and (pt_cmpR op_eq (pv 4) pe_int (nomark _)) (pw_and1 (pt_cmpR op_eq (pe_callB call_len_seq (by rfl) T.n_len PySem.boot_len (pa_cons (pv 2) pa_nil)) pe_int (nomark _))))))))
    (pss_one (ps_ret (pe_tup (pa_cons pe_str (pa_cons (pe_ix ix_list (pe_lst (pa_cons (pe_op op_sub (pe_call G_l_take (hr.mono (by decide)) (by rfl) D_l_take.g D_l_take.F.kp D_l_take.b .nil pass0 (pa_cons (pv 0) (pa_cons pe_int pa_nil))) pe_int) (pa_cons (pe_op op_sub (pe_call G_l_take (hr.mono (by decide)) (by rfl) D_l_take.g D_l_take.F.kp D_l_take.b .nil pass0 (pa_cons (pv 0) (pa_cons pe_int pa_nil))) pe_int) pa_nil))) (pe_op op_fdiv (pe_call G_l_take (hr.mono (by decide)) (by rfl) D_l_take.g D_l_take.F.kp D_l_take.b .nil pass0 (pa_cons (pv 0) (pa_cons pe_int pa_nil))) pe_int) (fun _ _ => rfl)) pa_nil)))))
    pss_nil)
    (pss_cons (ps_if (pt_cmpR op_eq (pv 4) pe_int (nomark _))
    (pss_one (ps_ret (pe_tup (pa_cons pe_str (pa_cons (pe_ix ix_list (pv 2) (pe_call G_l_take (hr.mono (by decide)) (by rfl) D_l_take.g D_l_take.F.kp D_l_take.b .nil pass0 (pa_cons (pv 0) (pa_cons (pe_callB call_len_seq (by rfl) T.n_len PySem.boot_len (pa_cons (pv 2) pa_nil)) pa_nil))) (fun _ _ => rfl)) (pa_cons (pe_op op_sub (pe_call G_l_take (hr.mono (by decide)) (by rfl) D_l_take.g D_l_take.F.kp D_l_take.b .nil pass0 (pa_cons (pv 0) (pa_cons pe_int pa_nil))) pe_int) pa_nil))))))
    pss_nil)
    (pss_cons (ps_if (pt_cmpR op_eq (pe_callB call_len_seq (by rfl) T.n_len PySem.boot_len (pa_cons (pv 3) pa_nil)) pe_int (nomark _))
    (pss_one (ps_ret (pe_tup (pa_cons pe_str (pa_cons pe_int pa_nil)))))
    pss_nil)
    (pss_one (ps_ret (pe_tup (pa_cons pe_str (pa_cons (pe_ix ix_list (pv 3) (pe_call G_l_take (hr.mono (by decide)) (by rfl) D_l_take.g D_l_take.F.kp D_l_take.b .nil pass0 (pa_cons (pv 0) (pa_cons (pe_callB call_len_seq (by rfl) T.n_len PySem.boot_len (pa_cons (pv 3) pa_nil)) pa_nil))) (fun _ _ => rfl)) (pa_cons (pe_ix ix_list (pe_lst (pa_cons pe_int (pa_cons pe_int (pa_cons pe_int (pa_cons (pe_un un_neg pe_int) pa_nil))))) (pe_call G_l_take (hr.mono (by decide)) (by rfl) D_l_take.g D_l_take.F.kp D_l_take.b .nil pass0 (pa_cons (pv 0) (pa_cons pe_int pa_nil))) (fun _ _ => rfl)) pa_nil))))))))))), ?_⟩
    refine ⟨_, rfl, a.c, _, _, _, rfl, rfl, SqL.of st.cx.c, atI_nat (j := 0) rfl, _, rfl, a.c, _, _, _, rfl, rfl, SqL.of st.cx.c, atI_nat (j := 1) rfl, _, _, rfl, ?_⟩
    have st1 := st
    have zl := st.cx.zl
    have zn := st.cx.zn
    have fin : ∀ {t : Pl} {ws : List V} {ds2 : List PyData} {G2 : Hp} {t2 : Addr}, But h H G2 → St8 K G2 h d ds a x r → t.enc = .tuple ds2 → (∀ G3, DpAll K G3 ws ds2) → G2 t2 = none → t.ok x.ns x.ls → Q (.ref t2) (upd G2 t2 (.tup ws)) := fun {t ws ds2 G2 t2} b s e o n hz => by
      generalize hG3 : upd G2 t2 _ = G3
      obtain ⟨s3, e3⟩ := new_of n hG3
      exact q _ t _ (b.trans (Same.but s3)) (s.same s3) (e ▸ .tup (SqT.of e3) (o G3)) hz
    refine ⟨_, rfl, h, d, ds, 6, rfl, by decide, st1.hd, fun k H2 _ _ b2 hd2 _ => ?_⟩
    have st2 := st1.but b2 hd2
    have el := st2.cx.l
    have en := st2.cx.n
    refine ⟨_, rfl, _, _, rfl, rfl, _, rfl, ite2 (fun c1 => ?_) (fun c1 => ⟨_, rfl, rfl, _, rfl, ite2 (fun c2 => ⟨_, rfl, a.L, _, rfl, .inl (SqL.of el), rfl, _, rfl, ite2 (fun c3 => ?_) (fun c3 => ?_)⟩) (fun c2 => ?_)⟩)⟩
    · refine iteT ?_
      refine ⟨_, rfl, h, d, ds, 7, rfl, by decide, st2.hd, fun r1 H3 _ _ b3 hd3 _ => ⟨_, _, rfl, rfl, _, rfl, h, d, ds, 199, rfl, by decide, hd3, fun r2 H4 _ _ b4 hd4 _ => ⟨_, _, rfl, rfl, by show 2 ≤ sizeLine; decide, fun t1 n1 => ?_⟩⟩⟩
      generalize hG5 : upd H4 t1 _ = H5
      obtain ⟨s5, e5⟩ := new_of n1 hG5
      refine ⟨_, rfl, h, d, ds, 5, rfl, by decide, hd4.same s5, fun r3 H6 q0 q1 b6 hd6 _ => ?_⟩
      obtain ⟨v, hv, e⟩ := atI_in (xs := [.int (r1 - 2), .int (r2 - 99)]) (i := r3 / 4) (by omega) (by show _ < (2 : Int); omega)
      refine ⟨_, _, rfl, rfl, ⟨by decide, by decide⟩, t1, _, _, _, rfl, rfl, SqL.of (b6 _ _ (hand_ne hd4 n1) e5), e, by show 2 ≤ sizeLine; decide, fun t2 n2 => ?_⟩
      simp only [List.mem_cons, List.not_mem_nil, or_false] at hv
      rcases hv with rfl | rfl <;> exact fin (t := .num _) (b2.trans (b3.trans (b4.trans ((Same.but s5).trans b6)))) ((((st2.but b3 hd3).but b4 hd4).same s5).but b6 hd6) rfl (fun _ => .cons (.str _) (.cons (.int _) .nil)) n2 trivial
    · refine ⟨_, rfl, h, d, ds, 7, rfl, by decide, st2.hd, fun r1 H3 _ _ b3 hd3 _ => ⟨_, _, rfl, rfl, _, rfl, h, d, ds, 199, rfl, by decide, hd3, fun r2 H4 _ _ b4 hd4 _ => ⟨_, _, rfl, rfl, by show 2 ≤ sizeLine; decide, fun t1 n1 => ?_⟩⟩⟩
      generalize hG5 : upd H4 t1 _ = H5
      obtain ⟨s5, e5⟩ := new_of n1 hG5
      refine ⟨_, rfl, h, d, ds, 5, rfl, by decide, hd4.same s5, fun r3 H6 q0 q1 b6 hd6 _ => ?_⟩
      obtain ⟨v, hv, e⟩ := atI_in (xs := [.int (r1 - 2), .int (r2 - 99)]) (i := r3 / 4) (by omega) (by show _ < (2 : Int); omega)
      refine ⟨_, _, rfl, rfl, ⟨by decide, by decide⟩, t1, _, _, _, rfl, rfl, SqL.of (b6 _ _ (hand_ne hd4 n1) e5), e, by show 2 ≤ sizeLine; decide, fun t2 n2 => ?_⟩
      simp only [List.mem_cons, List.not_mem_nil, or_false] at hv
      rcases hv with rfl | rfl <;> exact fin (t := .num _) (b2.trans (b3.trans (b4.trans ((Same.but s5).trans b6)))) ((((st2.but b3 hd3).but b4 hd4).same s5).but b6 hd6) rfl (fun _ => .cons (.str _) (.cons (.int _) .nil)) n2 trivial
    · refine ⟨_, rfl, rfl, _, rfl, ?_⟩
      rw [c2]
      have hlp : 0 < x.ls.length := by
        refine Nat.pos_of_ne_zero fun e => ?_
        have := of_decide_eq_false (Bool.eq_false_iff.mpr c3)
        rw [List.length_map, e] at this
        exact this rfl
      refine iteT ⟨_, rfl, _, rfl, _, rfl, a.L, _, rfl, .inl (SqL.of el), h, d, ds, _, rfl, by rw [List.length_map]; omega, hd2, fun r1 H3 q0 q1 b3 hd3 _ => ?_⟩
      have st3 := st2.but b3 hd3
      rw [List.length_map] at q1
      obtain ⟨v, hv, e⟩ := atI_in (xs := x.ls.map V.str) (i := r1) q0 (by rw [List.length_map]; exact q1)
      obtain ⟨z, hz, rfl⟩ := List.mem_map.mp hv
      refine ⟨a.L, _, _, _, rfl, rfl, SqL.of st3.cx.l, e, _, rfl, h, d, ds, 3, rfl, by decide, hd3, fun r2 H4 _ _ b4 hd4 _ => ⟨_, _, rfl, rfl, by show 3 ≤ sizeLine; decide, fun t2 n2 => ?_⟩⟩
      exact fin (t := .len z _) (b2.trans (b3.trans b4)) (st3.but b4 hd4) rfl (fun _ => .cons (.str _) (.cons (.str _) (.cons (.int _) .nil))) n2 hz
    · refine iteF ?_
      refine ⟨_, rfl, rfl, _, rfl, ?_⟩
      rw [Bool.eq_false_iff.mpr c2]
      refine iteF ⟨_, rfl, a.N, _, rfl, .inl (SqL.of en), rfl, _, rfl, ite2 (fun c3 => ?_) (fun c3 => ?_)⟩
      · exact ⟨by show 2 ≤ sizeLine; decide, fun t2 n2 => fin (t := .num 0) b2 st2 rfl (fun _ => .cons (.str _) (.cons (.int _) .nil)) n2 trivial⟩
      · have hlp : 0 < x.ns.length := by
          refine Nat.pos_of_ne_zero fun e => ?_
          have := of_decide_eq_false (Bool.eq_false_iff.mpr c3)
          rw [List.length_map, e] at this
          exact this rfl
        refine ⟨_, rfl, _, rfl, _, rfl, a.N, _, rfl, .inl (SqL.of en), h, d, ds, _, rfl, by rw [List.length_map]; omega, hd2, fun r1 H3 q0 q1 b3 hd3 _ => ?_⟩
        have st3 := st2.but b3 hd3
        rw [List.length_map] at q1
        obtain ⟨v, hv, e⟩ := atI_in (xs := x.ns.map V.str) (i := r1) q0 (by rw [List.length_map]; exact q1)
        obtain ⟨z, hz, rfl⟩ := List.mem_map.mp hv
        refine ⟨a.N, _, _, _, rfl, rfl, SqL.of st3.cx.n, e, ?_⟩
        refine ⟨_, rfl, by show 4 ≤ sizeLine; decide, fun t1 n1 => ?_⟩
        generalize hG5 : upd H3 t1 _ = H5
        obtain ⟨s5, e5⟩ := new_of n1 hG5
        refine ⟨_, rfl, h, d, ds, 4, rfl, by decide, hd3.same s5, fun r3 H6 q0 q1 b6 hd6 _ => ?_⟩
        obtain ⟨v, hv, e⟩ := atI_in (xs := [.int 0, .int 0, .int 1, .int (-1)]) (i := r3) q0 (by show _ < (4 : Int); omega)
        refine ⟨t1, _, _, _, rfl, rfl, SqL.of (b6 _ _ (hand_ne hd3 n1) e5), e, by show 3 ≤ sizeLine; decide, fun t2 n2 => ?_⟩
        simp only [List.mem_cons, List.not_mem_nil, or_false] at hv
        rcases hv with rfl | rfl | rfl | rfl <;> exact fin (t := .var z _) (b2.trans (b3.trans ((Same.but s5).trans b6))) ((st3.same s5).but b6 hd6) rfl (fun _ => .cons (.str _) (.cons (.str _) (.cons (.int _) .nil))) n2 hz
end
end SW

namespace SW
open PySem PySem.Spec PyProof.Rows L2
abbrev s_l_gen_condition : Stmt := topS 43
theorem sc_l_gen_condition : FnScope ["hand", "ctx", "kind", "first", "second", "third", "forms"] ["hand", "ctx"] (defScope s_l_gen_condition) := ⟨rfl, rfl, rfl, by decide +kernel, rfl, by decide +kernel, by decide +kernel⟩

/-- data that is known, and holds no list -/
structure Od (K : PySem.W.Frag) (H : Hp) (v : V) (d : PyData) : Prop where
  dp : Dp K H v d
  nl : noL d = true
structure Ods (K : PySem.W.Frag) (H : Hp) (vs : List V) (ds : List PyData) : Prop where
  dp : DpAll K H vs ds
  nl : noLs ds = true
theorem Od.int {K : PySem.W.Frag} {H : Hp} (i : Int) : Od K H (.int i) (.int i) := ⟨.int i, rfl⟩
theorem Od.str {K : PySem.W.Frag} {H : Hp} (i : PySem.Str) : Od K H (.str i) (.str i) := ⟨.str i, rfl⟩
theorem Od.bl {K : PySem.W.Frag} {H : Hp} (i : Bool) : Od K H (.bl i) (.bool i) := ⟨.bl i, rfl⟩
theorem Ods.nil {K : PySem.W.Frag} {H : Hp} : Ods K H [] [] := ⟨.nil, rfl⟩
theorem Ods.cons {K : PySem.W.Frag} {H : Hp} {v : V} {d : PyData} {vs : List V} {ds : List PyData} (a : Od K H v d) (b : Ods K H vs ds) : Ods K H (v :: vs) (d :: ds) := ⟨.cons a.dp b.dp, by
  unfold noLs
  rw [a.nl, b.nl]
  rfl⟩
theorem Od.tup {K : PySem.W.Frag} {H : Hp} {t : Addr} {xs : List V} {ds : List PyData} (h : H t = some (.tup xs)) (o : Ods K H xs ds) : Od K H (.ref t) (.tuple ds) := ⟨.tup (SqT.of h) o.dp, by unfold noL; exact o.nl⟩
theorem Od.same {K : PySem.W.Frag} {H H' : Hp} {v : V} {d : PyData} (a : Od K H v d) (s : Same H H') : Od K H' v d := ⟨a.dp.same s, a.nl⟩
theorem Od.hand {K : PySem.W.Frag} {H H' : Hp} {v : V} {d : PyData} {h d0 : Addr} {ds : List Int} (a : Od K H v d) (hl : Hand H h d0 ds) (s : But h H H') : Od K H' v d := ⟨hl.dp s a.nl a.dp, a.nl⟩
section
variable {P : Program} {w : World} {K : PySem.W.Frag} {mg : PySem.Str → Option Value} {base : Heap}
theorem ne_hand2 {H : Hp} {h d b t1 t2 : Addr} {ds : List Int} (hd : Hand H h d ds) (e : H b = some (.lst [.ref t1, .ref t2])) : b ≠ h := fun q => by
  obtain ⟨⟨i, e2⟩, _, _⟩ := hd
  rw [q, e2] at e
  cases e
theorem ne_hand2s {H : Hp} {h d b : Addr} {v : V} {x : PySem.Str} {ds : List Int} (hd : Hand H h d ds) (e : H b = some (.lst [.str x, v])) : b ≠ h := fun q => by
  obtain ⟨⟨i, e2⟩, _, _⟩ := hd
  rw [q, e2] at e
  cases e
def spIx (K : PySem.W.Frag) : Sp := fun vs H Q _ => ∃ (h d : Addr) (ds : List Int) (a : Ca) (x : Cd) (r : Int) (z : PySem.Str), vs = [.ref h, .ref a.c, .str z] ∧ St8 K H h d ds a x r ∧ x.b = true ∧ z ∈ x.ls ∧ ∀ (v : V) (t : Pl) (H' : Hp), But h H H' → St8 K H' h d ds a x r → Od K H' v t.enc → t.ok x.vs x.ls → Q v H'
theorem ok_l_index (T : TxB mg) (D_l_gen_index : Df K mg "_law_gen_index" s_l_gen_index ["hand", "ctx", "name"]) (D_l_gen_plain : Df K mg "_law_gen_plain" s_l_gen_plain ["hand", "ctx"]) (D_l_take : Df K mg "_law_take" s_l_take ["hand", "many"]) : FnOk P w K mg base CX0 3 D_l_gen_index.f D_l_gen_index.fd ["hand", "ctx", "name"] (spIx K) := by
  have G_l_take := ok_l_take (P := P) (w := w) (K := K) (base := base) T D_l_take
  have G_l_gen_plain := ok_l_plain (P := P) (w := w) (K := K) (base := base) T D_l_gen_plain D_l_take
  refine D_l_gen_index.F.ok sc_l_gen_index (fun vs H Q E h => ?_) (fun cdv A outer s H vs Q E hr h => ?_)
  · obtain ⟨h, d, ds, a, x, r, z, rfl, _⟩ := h
    rfl
  · obtain ⟨h, d, ds, a, x, r, z, rfl, st, hxb, hzl, q⟩ := h
    refine ⟨_, (pss_cons (ps_set (i := 3) sc_l_gen_index.nd rfl (.inl rfl) (pe_call G_l_take (hr.mono (by decide)) (by rfl) D_l_take.g D_l_take.F.kp D_l_take.b .nil pass0 (pa_cons (pv 0) (pa_cons pe_int pa_nil))))
    (pss_cons (ps_if (pt_cmpR op_lt (pv 3) pe_int (nomark _))
    (pss_one (ps_ret (pe_tup (pa_cons pe_str (pa_cons (pe_call G_l_take (hr.mono (by decide)) (by rfl) D_l_take.g D_l_take.F.kp D_l_take.b .nil pass0 (pa_cons (pv 0) (pa_cons pe_int pa_nil))) pa_nil)))))
    pss_nil)
    (pss_cons (ps_if (pt_cmpR op_lt (pv 3) pe_int (nomark _))
    (pss_one (ps_ret (pe_tup (pa_cons pe_str (pa_cons (pv 2) (pa_cons (pe_op op_sub (pe_un un_neg pe_int) (pe_call G_l_take (hr.mono (by decide)) (by rfl) D_l_take.g D_l_take.F.kp D_l_take.b .nil pass0 (pa_cons (pv 0) (pa_cons pe_int pa_nil)))) pa_nil))))))
    pss_nil)
    (pss_cons (ps_if (pt_cmpR op_lt (pv 3) pe_int (nomark _))
    (pss_one (ps_ret (pe_tup (pa_cons pe_str (pa_cons (pe_ix ix_list (pe_ix ix_list (pv 1) pe_int (fun _ _ => rfl)) (pe_call G_l_take (hr.mono (by decide)) (by rfl) D_l_take.g D_l_take.F.kp D_l_take.b .nil pass0 (pa_cons (pv 0) (pa_cons pe_int pa_nil))) (fun _ _ => rfl)) (pa_cons pe_int pa_nil))))))
    pss_nil)
    (pss_one (ps_ret (pe_call G_l_gen_plain (hr.mono (by decide)) (by rfl) D_l_gen_plain.g D_l_gen_plain.F.kp D_l_gen_plain.b .nil pass0 (pa_cons (pv 0) (pa_cons (pv 1) pa_nil))))))))), ?_⟩
    have fin : ∀ {t : Pl} {ws : List V} {ds2 : List PyData} {G2 : Hp} {t2 : Addr}, But h H G2 → St8 K G2 h d ds a x r → t.enc = .tuple ds2 → (∀ G3, Ods K G3 ws ds2) → G2 t2 = none → t.ok x.vs x.ls → Q (.ref t2) (upd G2 t2 (.tup ws)) := fun {t ws ds2 G2 t2} b s e o n hz => by
      generalize hG3 : upd G2 t2 _ = G3
      obtain ⟨s3, e3⟩ := new_of n hG3
      exact q _ t _ (b.trans (Same.but s3)) (s.same s3) (e ▸ .tup e3 (o G3)) hz
    refine ⟨_, rfl, h, d, ds, 8, rfl, by decide, st.hd, fun k H2 _ _ b2 hd2 _ => ?_⟩
    have st2 := st.but b2 hd2
    refine ⟨_, rfl, _, _, rfl, rfl, _, rfl, ite2 (fun c1 => ?_) (fun c1 => ⟨_, rfl, _, _, rfl, rfl, _, rfl, ite2 (fun c2 => ?_) (fun c2 => ⟨_, rfl, _, _, rfl, rfl, _, rfl, ite2 (fun c3 => ?_) (fun c3 => ?_)⟩)⟩)⟩
    · exact ⟨_, rfl, h, d, ds, 3, rfl, by decide, hd2, fun r1 H3 _ _ b3 hd3 _ => ⟨by show 2 ≤ sizeLine; decide, fun t2 n2 => fin (t := .num _) (b2.trans b3) (st2.but b3 hd3) rfl (fun _ => .cons (.str _) (.cons (.int _) .nil)) n2 trivial⟩⟩
    · exact ⟨_, rfl, _, rfl, _, rfl, h, d, ds, 2, rfl, by decide, hd2, fun r1 H3 _ _ b3 hd3 _ => ⟨_, _, rfl, rfl, by show 3 ≤ sizeLine; decide, fun t2 n2 => fin (t := .len z _) (b2.trans b3) (st2.but b3 hd3) rfl (fun _ => .cons (.str _) (.cons (.str _) (.cons (.int _) .nil))) n2 hzl⟩⟩
    · refine ⟨_, rfl, a.c, _, _, _, rfl, rfl, SqL.of st2.cx.c, atI_nat (j := 3) rfl, _, rfl, h, d, ds, 2, rfl, by decide, hd2, fun r1 H3 q0 q1 b3 hd3 _ => ?_⟩
      have st3 := st2.but b3 hd3
      obtain ⟨v, hv, e⟩ := atI_in (xs := [.str x.c5, .str x.c6]) (i := r1) q0 (by show _ < (2 : Int); omega)
      have hvs : x.vs = x.c5 :: x.c6 :: x.ns := by
        unfold Cd.vs
        rw [if_pos hxb]
      refine ⟨a.Cn, _, _, _, rfl, rfl, SqL.of st3.cx.cn, e, by show 3 ≤ sizeLine; decide, fun t2 n2 => ?_⟩
      simp only [List.mem_cons, List.not_mem_nil, or_false] at hv
      rcases hv with rfl | rfl <;> exact fin (t := .var _ 0) (b2.trans b3) st3 rfl (fun _ => .cons (.str _) (.cons (.str _) (.cons (.int _) .nil))) n2 (by show _ ∈ x.vs; rw [hvs]; simp)
    · exact ⟨_, rfl, _, rfl, h, d, ds, a, x, r, rfl, st2, fun v t H3 b3 st3 o ok => q v t H3 (b2.trans b3) st3 ⟨o, noL_pl t⟩ (Pl.up ok)⟩
def spT8 (K : PySem.W.Frag) : Sp := fun vs H Q _ => ∃ (h d : Addr) (ds : List Int) (a : Ca) (x : Cd) (r : Int), vs = [.ref h, .ref a.c] ∧ St8 K H h d ds a x r ∧ ∀ (v : V) (t : Tm) (H' : Hp), But h H H' → St8 K H' h d ds a x r → Od K H' v t.enc → t.ok x.vs x.ls → Q v H'
theorem ok_l_term (T : TxB mg) (D_l_gen_term : Df K mg "_law_gen_term" s_l_gen_term ["hand", "ctx"]) (D_l_gen_index : Df K mg "_law_gen_index" s_l_gen_index ["hand", "ctx", "name"]) (D_l_gen_plain : Df K mg "_law_gen_plain" s_l_gen_plain ["hand", "ctx"]) (D_l_take : Df K mg "_law_take" s_l_take ["hand", "many"]) : FnOk P w K mg base CX0 4 D_l_gen_term.f D_l_gen_term.fd ["hand", "ctx"] (spT8 K) := by
  have G_l_take := ok_l_take (P := P) (w := w) (K := K) (base := base) T D_l_take
  have G_l_gen_plain := ok_l_plain (P := P) (w := w) (K := K) (base := base) T D_l_gen_plain D_l_take
  have G_l_gen_index := ok_l_index (P := P) (w := w) (K := K) (base := base) T D_l_gen_index D_l_gen_plain D_l_take
  refine D_l_gen_term.F.ok sc_l_gen_term (fun vs H Q E h => ?_) (fun cdv A outer s H vs Q E hr h => ?_)
  · obtain ⟨h, d, ds, a, x, r, rfl, _⟩ := h
    rfl
  · obtain ⟨h, d, ds, a, x, r, rfl, st, q⟩ := h
    refine ⟨_, (pss_cons (ps_if (PW.pt (pw_or (pt_cmpR op_eq (pe_callB call_len_seq (by rfl) T.n_len PySem.boot_len (pa_cons (pe_ix ix_list (pv 1) pe_int (fun _ _ => rfl)) pa_nil)) pe_int (nomark _)) (pw_or1 (pt_cmpR op_gt (pe_call G_l_take (hr.mono (by decide)) (by rfl) D_l_take.g D_l_take.F.kp D_l_take.b .nil pass0 (pa_cons (pv 0) (pa_cons pe_int pa_nil))) pe_int (nomark _)))))
    (pss_one (ps_ret (pe_call G_l_gen_plain (hr.mono (by decide)) (by rfl) D_l_gen_plain.g D_l_gen_plain.F.kp D_l_gen_plain.b .nil pass0 (pa_cons (pv 0) (pa_cons (pv 1) pa_nil)))))
    pss_nil)
    (pss_cons (ps_set (i := 2) sc_l_gen_term.nd rfl (.inl rfl) (pe_ix ix_list (pe_ix ix_list (pv 1) pe_int (fun _ _ => rfl)) (pe_call G_l_take (hr.mono (by decide)) (by rfl) D_l_take.g D_l_take.F.kp D_l_take.b .nil pass0 (pa_cons (pv 0) (pa_cons (pe_callB call_len_seq (by rfl) T.n_len PySem.boot_len (pa_cons (pe_ix ix_list (pv 1) pe_int (fun _ _ => rfl)) pa_nil)) pa_nil))) (fun _ _ => rfl)))
    (pss_cons (ps_set (i := 3) sc_l_gen_term.nd rfl (.inl rfl) (pe_tup (pa_cons pe_str (pa_cons (pe_call G_l_take (hr.mono (by decide)) (by rfl) D_l_take.g D_l_take.F.kp D_l_take.b .nil pass0 (pa_cons (pv 0) (pa_cons pe_int pa_nil))) pa_nil))))
    (pss_cons (ps_if (pt_val (pe_ix ix_list (pv 1) pe_int (fun _ _ => rfl)))
    (pss_one (ps_set (i := 3) sc_l_gen_term.nd rfl (.inl rfl) (pe_call G_l_gen_index (hr.mono (by decide)) (by rfl) D_l_gen_index.g D_l_gen_index.F.kp D_l_gen_index.b .nil pass0 (pa_cons (pv 0) (pa_cons (pv 1) (pa_cons (pv 2) pa_nil))))))
    pss_nil)
    (pss_one (ps_ret (pe_tup (pa_cons pe_str (pa_cons (pe_tup (pa_cons (pv 2) (pa_cons pe_bl pa_nil))) (pa_cons (pv 3) (pa_cons (pe_ix ix_list (pe_lst (pa_cons pe_int (pa_cons pe_int (pa_cons pe_int (pa_cons (pe_un un_neg pe_int) pa_nil))))) (pe_call G_l_take (hr.mono (by decide)) (by rfl) D_l_take.g D_l_take.F.kp D_l_take.b .nil pass0 (pa_cons (pv 0) (pa_cons pe_int pa_nil))) (fun _ _ => rfl)) pa_nil))))))))))), ?_⟩
    refine ⟨_, rfl, a.c, _, _, _, rfl, rfl, SqL.of st.cx.c, atI_nat (j := 0) rfl, a.L, _, rfl, .inl (SqL.of st.cx.l), rfl, _, rfl, ite2 (fun c1 => ?_) (fun c1 => ⟨_, rfl, h, d, ds, 3, rfl, by decide, st.hd, fun k H2 _ _ b2 hd2 _ => ⟨_, _, rfl, rfl, _, rfl, ite2 (fun c2 => ?_) (fun c2 => ?_)⟩⟩)⟩
    · refine iteT ?_
      exact ⟨_, rfl, _, rfl, h, d, ds, a, x, r, rfl, st, fun v t H3 b3 st3 o ok => q v (.pl t) H3 b3 st3 ⟨o, noL_pl t⟩ (Pl.up ok)⟩
    · exact ⟨_, rfl, _, rfl, h, d, ds, a, x, r, rfl, st.but b2 hd2, fun v t H3 b3 st3 o ok => q v (.pl t) H3 (b2.trans b3) st3 ⟨o, noL_pl t⟩ (Pl.up ok)⟩
    · have st2 := st.but b2 hd2
      have hlp : 0 < x.ls.length := by
        refine Nat.pos_of_ne_zero fun e => ?_
        have := of_decide_eq_false (Bool.eq_false_iff.mpr c1)
        rw [List.length_map, e] at this
        exact this rfl
      have zl := st.cx.zl
      refine ⟨_, rfl, a.c, _, _, _, rfl, rfl, SqL.of st2.cx.c, atI_nat (j := 0) rfl, _, rfl, _, rfl, a.c, _, _, _, rfl, rfl, SqL.of st2.cx.c, atI_nat (j := 0) rfl, a.L, _, rfl, .inl (SqL.of st2.cx.l), h, d, ds, _, rfl, by rw [List.length_map]; omega, hd2, fun r1 H3 q0 q1 b3 hd3 _ => ?_⟩
      have st3 := st2.but b3 hd3
      rw [List.length_map] at q1
      obtain ⟨v, hv, e⟩ := atI_in (xs := x.ls.map V.str) (i := r1) q0 (by rw [List.length_map]; exact q1)
      obtain ⟨z, hz, rfl⟩ := List.mem_map.mp hv
      refine ⟨a.L, _, _, _, rfl, rfl, SqL.of st3.cx.l, e, ?_⟩
      refine ⟨_, rfl, h, d, ds, 2, rfl, by decide, hd3, fun r2 H4 _ _ b4 hd4 _ => ⟨by show 2 ≤ sizeLine; decide, fun t2 n2 => ?_⟩⟩
      have st4 := st3.but b4 hd4
      generalize hG5 : upd H4 t2 _ = H5
      obtain ⟨s5, e5⟩ := new_of n2 hG5
      have st5 := st4.same s5
      have o5 : Od K H5 (.ref t2) (Pl.num r2).enc := .tup e5 (.cons (.str _) (.cons (.int _) .nil))
      have b5 : But h H H5 := b2.trans (b3.trans (b4.trans (Same.but s5)))
      refine ⟨_, rfl, a.c, _, _, _, rfl, rfl, SqL.of st5.cx.c, atI_nat (j := 6) rfl, ?_⟩
      refine ⟨x.b, rfl, ite2 (fun c => ?_) (fun c => ?_)⟩
      · refine ⟨_, rfl, _, rfl, _, rfl, h, d, ds, a, x, r, z, rfl, st5, c, hz, fun vI tI H6 b6 st6 o6 okI => ?_⟩
        refine ⟨_, rfl, by show 2 ≤ sizeLine; decide, fun t6 n6 => ?_⟩
        generalize hG7 : upd H6 t6 _ = H7
        obtain ⟨s7, e7⟩ := new_of n6 hG7
        refine ⟨_, rfl, _, rfl, by show 4 ≤ sizeLine; decide, fun t8 n8 => ?_⟩
        generalize hG8 : upd H7 t8 _ = H8
        obtain ⟨s8, e8⟩ := new_of n8 hG8
        have st8 := (st6.same s7).same s8
        refine ⟨_, rfl, h, d, ds, 4, rfl, by decide, st8.hd, fun r9 H9 q0 q1 b9 hd9 _ => ?_⟩
        obtain ⟨v, hv, e⟩ := atI_in (xs := [.int 0, .int 0, .int 1, .int (-2)]) (i := r9) q0 (by show _ < (4 : Int); omega)
        have o7 : Od K H7 (.ref t6) (pWh z) := .tup e7 (.cons (.str _) (.cons (.bl _) .nil))
        have o71 := (o7.same s8).hand st8.hd b9
        have o72 := ((o6.same s7).same s8).hand st8.hd b9
        refine ⟨t8, _, _, _, rfl, rfl, SqL.of (b9 _ _ (hand_ne (st6.same s7).hd n8) e8), e, by show 4 ≤ sizeLine; decide, fun t2 n2 => ?_⟩
        generalize hGx : upd H9 t2 _ = Hx
        obtain ⟨sx, ex⟩ := new_of n2 hGx
        simp only [List.mem_cons, List.not_mem_nil, or_false] at hv
        rcases hv with rfl | rfl | rfl | rfl <;> exact q _ (.cell z tI _) Hx ((b5.trans b6).trans (((Same.but s7).trans (Same.but s8)).trans (b9.trans (Same.but sx)))) ((st8.but b9 hd9).same sx) (.tup ex (.cons (.str _) (.cons (o71.same sx) (.cons (o72.same sx) (.cons (.int _) .nil))))) ⟨hz, okI⟩
      · skip
        refine ⟨_, rfl, by show 2 ≤ sizeLine; decide, fun t6 n6 => ?_⟩
        generalize hG7 : upd H5 t6 _ = H7
        obtain ⟨s7, e7⟩ := new_of n6 hG7
        refine ⟨_, rfl, _, rfl, by show 4 ≤ sizeLine; decide, fun t8 n8 => ?_⟩
        generalize hG8 : upd H7 t8 _ = H8
        obtain ⟨s8, e8⟩ := new_of n8 hG8
        have st8 := (st5.same s7).same s8
        refine ⟨_, rfl, h, d, ds, 4, rfl, by decide, st8.hd, fun r9 H9 q0 q1 b9 hd9 _ => ?_⟩
        obtain ⟨v, hv, e⟩ := atI_in (xs := [.int 0, .int 0, .int 1, .int (-2)]) (i := r9) q0 (by show _ < (4 : Int); omega)
        have o7 : Od K H7 (.ref t6) (pWh z) := .tup e7 (.cons (.str _) (.cons (.bl _) .nil))
        have o71 := (o7.same s8).hand st8.hd b9
        have o72 := ((o5.same s7).same s8).hand st8.hd b9
        refine ⟨t8, _, _, _, rfl, rfl, SqL.of (b9 _ _ (hand_ne (st5.same s7).hd n8) e8), e, by show 4 ≤ sizeLine; decide, fun t2 n2 => ?_⟩
        generalize hGx : upd H9 t2 _ = Hx
        obtain ⟨sx, ex⟩ := new_of n2 hGx
        simp only [List.mem_cons, List.not_mem_nil, or_false] at hv
        rcases hv with rfl | rfl | rfl | rfl <;> exact q _ (.cell z (Pl.num r2) _) Hx (b5.trans (((Same.but s7).trans (Same.but s8)).trans (b9.trans (Same.but sx)))) ((st8.but b9 hd9).same sx) (.tup ex (.cons (.str _) (.cons (o71.same sx) (.cons (o72.same sx) (.cons (.int _) .nil))))) ⟨hz, trivial⟩
def spC8 (K : PySem.W.Frag) : Sp := fun vs H Q _ => ∃ (h d : Addr) (ds : List Int) (a : Ca) (x : Cd) (r : Int), vs = [.ref h, .ref a.c] ∧ St8 K H h d ds a x r ∧ ∀ (v : V) (m : Cm) (H' : Hp), But h H H' → St8 K H' h d ds a x r → Od K H' v m.enc → m.ok x.vs x.ls → Q v H'
theorem ok_l_cmp (T : TxB mg) (D_l_gen_cmp : Df K mg "_law_gen_cmp" s_l_gen_cmp ["hand", "ctx"]) (D_l_gen_term : Df K mg "_law_gen_term" s_l_gen_term ["hand", "ctx"]) (D_l_gen_index : Df K mg "_law_gen_index" s_l_gen_index ["hand", "ctx", "name"]) (D_l_gen_plain : Df K mg "_law_gen_plain" s_l_gen_plain ["hand", "ctx"]) (D_l_take : Df K mg "_law_take" s_l_take ["hand", "many"]) : FnOk P w K mg base CX0 5 D_l_gen_cmp.f D_l_gen_cmp.fd ["hand", "ctx"] (spC8 K) := by
  have G_l_take := ok_l_take (P := P) (w := w) (K := K) (base := base) T D_l_take
  have G_l_gen_term := ok_l_term (P := P) (w := w) (K := K) (base := base) T D_l_gen_term D_l_gen_index D_l_gen_plain D_l_take
  refine D_l_gen_cmp.F.ok sc_l_gen_cmp (fun vs H Q E h => ?_) (fun cdv A outer s H vs Q E hr h => ?_)
  · obtain ⟨h, d, ds, a, x, r, rfl, _⟩ := h
    rfl
  · obtain ⟨h, d, ds, a, x, r, rfl, st, q⟩ := h
    refine ⟨_, (pss_cons (ps_set (i := 2) sc_l_gen_cmp.nd rfl (.inl rfl) (pe_ix ix_list (pe_lst (pa_strs (.cons _ _ _ (.cons _ _ _ (.cons _ _ _ (.cons _ _ _ (.cons _ _ _ (.cons _ _ _ .nil)))))))) (pe_call G_l_take (hr.mono (by decide)) (by rfl) D_l_take.g D_l_take.F.kp D_l_take.b .nil pass0 (pa_cons (pv 0) (pa_cons pe_int pa_nil))) (fun _ _ => rfl)))
    (pss_one (ps_ret (pe_tup (pa_cons pe_str (pa_cons (pv 2) (pa_cons (pe_call G_l_gen_term (hr.mono (by decide)) (by rfl) D_l_gen_term.g D_l_gen_term.F.kp D_l_gen_term.b .nil pass0 (pa_cons (pv 0) (pa_cons (pv 1) pa_nil))) (pa_cons (pe_call G_l_gen_term (hr.mono (by decide)) (by rfl) D_l_gen_term.g D_l_gen_term.F.kp D_l_gen_term.b .nil pass0 (pa_cons (pv 0) (pa_cons (pv 1) pa_nil))) pa_nil)))))))), ?_⟩
    refine ⟨by show 6 ≤ sizeLine; decide, fun t1 n1 => ?_⟩
    generalize hG2 : upd H t1 _ = H2
    obtain ⟨s2, e2⟩ := new_of n1 hG2
    have st2 := st.same s2
    refine ⟨_, rfl, h, d, ds, 6, rfl, by decide, st2.hd, fun r3 H3 q0 q1 b3 hd3 _ => ?_⟩
    have st3 := st2.but b3 hd3
    obtain ⟨v, hv, e⟩ := atI_in (xs := [("<" : PySem.Str), "<=", ">", ">=", "==", "!="].map V.str) (i := r3) q0 (by show _ < (6 : Int); omega)
    obtain ⟨z, _, rfl⟩ := List.mem_map.mp hv
    refine ⟨t1, _, _, _, rfl, rfl, SqL.of (b3 _ _ (hand_ne st.hd n1) e2), e, ?_⟩
    refine ⟨_, rfl, _, rfl, _, rfl, h, d, ds, a, x, r, rfl, st3, fun v1 m1 H4 b4 st4 o4 k4 => ?_⟩
    refine ⟨_, rfl, _, rfl, h, d, ds, a, x, r, rfl, st4, fun v2 m2 H5 b5 st5 o5 k5 => ?_⟩
    refine ⟨by show 4 ≤ sizeLine; decide, fun t2 n2 => ?_⟩
    generalize hGx : upd H5 t2 _ = Hx
    obtain ⟨sx, ex⟩ := new_of n2 hGx
    exact q _ ⟨z, m1, m2⟩ Hx ((Same.but s2).trans (b3.trans (b4.trans (b5.trans (Same.but sx))))) (st5.same sx) (.tup ex (.cons (.str _) (.cons (.str _) (.cons ((o4.hand st4.hd b5).same sx) (.cons (o5.same sx) .nil))))) ⟨k4, k5⟩
theorem and_or {v : V} (h : v ∈ [("and" : PySem.Str), "or"].map V.str) : ∃ o, v = .str (kdOf o) := by
  obtain ⟨z, hz, rfl⟩ := List.mem_map.mp h
  simp only [List.mem_cons, List.not_mem_nil, or_false] at hz
  rcases hz with rfl | rfl
  · exact ⟨false, rfl⟩
  · exact ⟨true, rfl⟩
theorem two_ok {nn ln : List PySem.Str} {n : Nat} {a b : CoD n} (ha : okC nn ln n a) (hb : okC nn ln n b) : ∀ c, c ∈ [a, b] → okC nn ln n c := fun c hc => by
  rcases List.mem_cons.mp hc with rfl | hc
  · exact ha
  · rw [List.mem_singleton.mp hc]
    exact hb
theorem three_ok {nn ln : List PySem.Str} {n : Nat} {a b d : CoD n} (ha : okC nn ln n a) (hb : okC nn ln n b) (hd : okC nn ln n d) : ∀ c, c ∈ [a, b, d] → okC nn ln n c := fun c hc => by
  rcases List.mem_cons.mp hc with rfl | hc
  · exact ha
  · exact two_ok hb hd c hc
/-- .. with how many ways there are -/
def spCo (K : PySem.W.Frag) : Sp := fun vs H Q _ => ∃ (h d : Addr) (ds : List Int) (a : Ca) (x : Cd) (r : Int), vs = [.ref h, .ref a.c] ∧ St8 K H h d ds a x r ∧ ∀ (t : Addr) (k : Int) (v : V) (c : CoD 4) (H' : Hp), 1 ≤ k → k ≤ 3 → But h H H' → St8 K H' h d ds a x r → Od K H' v (encC 4 c) → okC x.vs x.ls 4 c → H' t = some (.lst [.int k, v]) → Q (.ref t) H'
theorem fin_co {K : PySem.W.Frag} {H : Hp} {h d : Addr} {ds : List Int} {a : Ca} {x : Cd} {r : Int} {Q : V → Hp → Prop} (q : ∀ (t : Addr) (k : Int) (v : V) (c : CoD 4) (H' : Hp), 1 ≤ k → k ≤ 3 → But h H H' → St8 K H' h d ds a x r → Od K H' v (encC 4 c) → okC x.vs x.ls 4 c → H' t = some (.lst [.int k, v]) → Q (.ref t) H') {k : Int} (k1 : 1 ≤ k) (k2 : k ≤ 3) {v : V} {c : CoD 4} {G2 : Hp} {t2 : Addr} (b : But h H G2) (s : St8 K G2 h d ds a x r) (o : Od K G2 v (encC 4 c)) (ok : okC x.vs x.ls 4 c) (n : G2 t2 = none) : Q (.ref t2) (upd G2 t2 (.lst [.int k, v])) := by
  generalize hG3 : upd G2 t2 _ = G3
  obtain ⟨s3, e3⟩ := new_of n hG3
  exact q _ _ _ c _ k1 k2 (b.trans (Same.but s3)) (s.same s3) (o.same s3) ok e3
theorem ok_l_condition (T : TxB mg) (D_l_gen_condition : Df K mg "_law_gen_condition" s_l_gen_condition ["hand", "ctx"]) (D_l_gen_cmp : Df K mg "_law_gen_cmp" s_l_gen_cmp ["hand", "ctx"]) (D_l_gen_term : Df K mg "_law_gen_term" s_l_gen_term ["hand", "ctx"]) (D_l_gen_index : Df K mg "_law_gen_index" s_l_gen_index ["hand", "ctx", "name"]) (D_l_gen_plain : Df K mg "_law_gen_plain" s_l_gen_plain ["hand", "ctx"]) (D_l_take : Df K mg "_law_take" s_l_take ["hand", "many"]) : FnOk P w K mg base CX0 6 D_l_gen_condition.f D_l_gen_condition.fd ["hand", "ctx"] (spCo K) := by
  have G_l_take := ok_l_take (P := P) (w := w) (K := K) (base := base) T D_l_take
  have G_l_gen_cmp := ok_l_cmp (P := P) (w := w) (K := K) (base := base) T D_l_gen_cmp D_l_gen_term D_l_gen_index D_l_gen_plain D_l_take
  refine D_l_gen_condition.F.ok sc_l_gen_condition (fun vs H Q E h => ?_) (fun cdv A outer s H vs Q E hr h => ?_)
  · obtain ⟨h, d, ds, a, x, r, rfl, _⟩ := h
    rfl
  · obtain ⟨h, d, ds, a, x, r, rfl, st, q⟩ := h
    refine ⟨_, (pss_cons (ps_set (i := 2) sc_l_gen_condition.nd rfl (.inl rfl) (pe_call G_l_take (hr.mono (by decide)) (by rfl) D_l_take.g D_l_take.F.kp D_l_take.b .nil pass0 (pa_cons (pv 0) (pa_cons pe_int pa_nil))))
    (pss_cons (ps_set (i := 3) sc_l_gen_condition.nd rfl (.inl rfl) (pe_call G_l_gen_cmp (hr.mono (by decide)) (by rfl) D_l_gen_cmp.g D_l_gen_cmp.F.kp D_l_gen_cmp.b .nil pass0 (pa_cons (pv 0) (pa_cons (pv 1) pa_nil))))
    (pss_cons (ps_if (pt_cmpR op_lt (pv 2) pe_int (nomark _))
    (pss_one (ps_ret (pe_lst (pa_cons pe_int (pa_cons (pv 3) pa_nil)))))
    pss_nil)
    (pss_cons (ps_if (pt_cmpR op_eq (pv 2) pe_int (nomark _))
    (pss_one (ps_ret (pe_lst (pa_cons pe_int (pa_cons (pe_tup (pa_cons pe_str (pa_cons (pv 3) pa_nil))) pa_nil)))))
    pss_nil)
    (pss_cons (ps_set (i := 4) sc_l_gen_condition.nd rfl (.inl rfl) (pe_call G_l_gen_cmp (hr.mono (by decide)) (by rfl) D_l_gen_cmp.g D_l_gen_cmp.F.kp D_l_gen_cmp.b .nil pass0 (pa_cons (pv 0) (pa_cons (pv 1) pa_nil))))
    (pss_cons (ps_if (pt_cmpR op_lt (pv 2) pe_int (nomark _))
    (pss_one (ps_ret (pe_lst (pa_cons pe_int (pa_cons (pe_tup (pa_cons (pe_ix ix_list (pe_lst (pa_cons pe_str (pa_cons pe_str pa_nil))) (pe_op op_sub (pv 2) pe_int) (fun _ _ => rfl)) (pa_cons (pe_tup (pa_cons (pv 3) (pa_cons (pv 4) pa_nil))) pa_nil))) pa_nil)))))
    pss_nil)
    (pss_cons (ps_if (pt_cmpR op_eq (pv 2) pe_int (nomark _))
    (pss_one (ps_ret (pe_lst (pa_cons pe_int (pa_cons (pe_tup (pa_cons pe_str (pa_cons (pe_tup (pa_cons (pe_ix ix_list (pe_lst (pa_cons pe_str (pa_cons pe_str pa_nil))) (pe_call G_l_take (hr.mono (by decide)) (by rfl) D_l_take.g D_l_take.F.kp D_l_take.b .nil pass0 (pa_cons (pv 0) (pa_cons pe_int pa_nil))) (fun _ _ => rfl)) (pa_cons (pe_tup (pa_cons (pv 3) (pa_cons (pv 4) pa_nil))) pa_nil))) pa_nil))) pa_nil)))))
    pss_nil)
    (pss_cons (ps_set (i := 5) sc_l_gen_condition.nd rfl (.inl rfl) (pe_call G_l_gen_cmp (hr.mono (by decide)) (by rfl) D_l_gen_cmp.g D_l_gen_cmp.F.kp D_l_gen_cmp.b .nil pass0 (pa_cons (pv 0) (pa_cons (pv 1) pa_nil))))
    (pss_cons (ps_set (i := 6) sc_l_gen_condition.nd rfl (.inl rfl) (pe_lst (pa_cons (pe_tup (pa_cons pe_str (pa_cons (pe_tup (pa_cons (pe_tup (pa_cons pe_str (pa_cons (pe_tup (pa_cons (pv 3) (pa_cons (pe_tup (pa_cons pe_str (pa_cons (pv 4) pa_nil))) pa_nil))) pa_nil))) (pa_cons (pv 5) pa_nil))) pa_nil))) (pa_cons (pe_tup (pa_cons pe_str (pa_cons (pe_tup (pa_cons (pe_tup (pa_cons pe_str (pa_cons (pe_tup (pa_cons (pv 3) (pa_cons (pv 4) pa_nil))) pa_nil))) (pa_cons (pv 5) pa_nil))) pa_nil))) pa_nil))))
    (pss_cons (ps_set (i := 6) sc_l_gen_condition.nd rfl (.inl rfl) (pe_op op_cat (pv 6) (pe_lst (pa_cons (pe_tup (pa_cons (pe_ix ix_list (pe_lst (pa_cons pe_str (pa_cons pe_str pa_nil))) (pe_call G_l_take (hr.mono (by decide)) (by rfl) D_l_take.g D_l_take.F.kp D_l_take.b .nil pass0 (pa_cons (pv 0) (pa_cons pe_int pa_nil))) (fun _ _ => rfl)) (pa_cons (pe_tup (pa_cons (pv 3) (pa_cons (pv 4) (pa_cons (pv 5) pa_nil)))) pa_nil))) (pa_cons (pe_tup (pa_cons pe_str (pa_cons (pe_tup (pa_cons (pv 3) (pa_cons (pe_tup (pa_cons pe_str (pa_cons (pe_tup (pa_cons (pv 4) (pa_cons (pv 5) pa_nil))) pa_nil))) pa_nil))) pa_nil))) pa_nil)))))
    (pss_one (ps_ret (pe_lst (pa_cons pe_int (pa_cons (pe_ix ix_list (pv 6) (pe_call G_l_take (hr.mono (by decide)) (by rfl) D_l_take.g D_l_take.F.kp D_l_take.b .nil pass0 (pa_cons (pv 0) (pa_cons pe_int pa_nil))) (fun _ _ => rfl)) pa_nil))))))))))))))), ?_⟩
    refine ⟨_, rfl, h, d, ds, 11, rfl, by decide, st.hd, fun k H2 k0 k1 b2 hd2 _ => ?_⟩
    have st2 := st.but b2 hd2
    refine ⟨_, rfl, _, rfl, h, d, ds, a, x, r, rfl, st2, fun v1 m1 H3 b3 st3 o1 g1 => ?_⟩
    have b23 := b2.trans b3
    refine ⟨_, rfl, _, _, rfl, rfl, _, rfl, ite2 (fun c1 => ?_) (fun c1 => ⟨_, rfl, rfl, _, rfl, ite2 (fun c2 => ?_) (fun c2 => ?_)⟩)⟩
    · exact ⟨_, rfl, by show 2 ≤ sizeLine; decide, fun t2 n2 => fin_co (c := .inl m1) q (by decide) (by decide) b23 st3 o1 g1 n2⟩
    · refine ⟨_, rfl, by show 2 ≤ sizeLine; decide, fun t4 n4 => ?_⟩
      generalize hG4 : upd H3 t4 _ = H4
      obtain ⟨s4, e4⟩ := new_of n4 hG4
      exact ⟨by show 2 ≤ sizeLine; decide, fun t2 n2 => fin_co (c := .inr (.inl (.inl m1))) q (by decide) (by decide) (b23.trans (Same.but s4)) (st3.same s4) (.tup e4 (.cons (.str _) (.cons (o1.same s4) .nil))) g1 n2⟩
    · have k4 : 4 < k := by
        have := of_decide_eq_false (Bool.eq_false_iff.mpr c1)
        have c2' : ¬ V.int k = V.int 4 := of_decide_eq_false (Bool.eq_false_iff.mpr c2)
        have : ¬ k = 4 := fun e => c2' (by rw [e])
        omega
      refine ⟨_, rfl, _, rfl, h, d, ds, a, x, r, rfl, st3, fun v2 m2 H4 b4 st4 o2 g2 => ?_⟩
      have b24 := b23.trans b4
      have o1 := o1.hand st3.hd b4
      refine ⟨_, rfl, _, _, rfl, rfl, _, rfl, ite2 (fun c3 => ?_) (fun c3 => ⟨_, rfl, rfl, _, rfl, ite2 (fun c5 => ?_) (fun c5 => ?_)⟩)⟩
      · have k5 := of_decide_eq_true c3
        refine ⟨by show 2 ≤ sizeLine; decide, fun t5 n5 => ?_⟩
        generalize hG5 : upd H4 t5 _ = H5
        obtain ⟨s5, e5⟩ := new_of n5 hG5
        obtain ⟨v, hv, e⟩ := atI_in (xs := [("and" : PySem.Str), "or"].map V.str) (i := k - 5) (by omega) (by show _ < (2 : Int); omega)
        obtain ⟨jo, rfl⟩ := and_or hv
        refine ⟨_, rfl, _, _, rfl, rfl, t5, _, _, _, rfl, rfl, SqL.of e5, e, _, rfl, _, rfl, by show 2 ≤ sizeLine; decide, fun t6 n6 => ?_⟩
        generalize hG6 : upd H5 t6 _ = H6
        obtain ⟨s6, e6⟩ := new_of n6 hG6
        refine ⟨by show 2 ≤ sizeLine; decide, fun t7 n7 => ?_⟩
        generalize hG7 : upd H6 t7 _ = H7
        obtain ⟨s7, e7⟩ := new_of n7 hG7
        have s57 := s5.trans (s6.trans s7)
        have o6 : Od K H6 (.ref t6) _ := .tup e6 (.cons (o1.same (s5.trans s6)) (.cons (o2.same (s5.trans s6)) .nil))
        exact ⟨by show 2 ≤ sizeLine; decide, fun t2 n2 => fin_co q (by decide) (by decide) (b24.trans (Same.but s57)) (st4.same s57) (c := .inr (.inr (jo, [.inl m1, .inl m2]))) (.tup e7 (.cons (.str _) (.cons (o6.same s7) .nil))) (two_ok g1 g2) n2⟩
      · refine ⟨by show 2 ≤ sizeLine; decide, fun t5 n5 => ?_⟩
        generalize hG5 : upd H4 t5 _ = H5
        obtain ⟨s5, e5⟩ := new_of n5 hG5
        refine ⟨_, rfl, h, d, ds, 2, rfl, by decide, st4.hd.same s5, fun k8 H8 k80 k81 b8 hd8 _ => ?_⟩
        have st8 := (st4.same s5).but b8 hd8
        obtain ⟨v, hv, e⟩ := atI_in (xs := [("and" : PySem.Str), "or"].map V.str) (i := k8) (by omega) (by show _ < (2 : Int); omega)
        obtain ⟨jo, rfl⟩ := and_or hv
        have o1 := (o1.same s5).hand (st4.hd.same s5) b8
        have o2 := (o2.same s5).hand (st4.hd.same s5) b8
        refine ⟨t5, _, _, _, rfl, rfl, SqL.of (b8 _ _ (hand_ne st4.hd n5) e5), e, _, rfl, _, rfl, by show 2 ≤ sizeLine; decide, fun t6 n6 => ?_⟩
        generalize hG6 : upd H8 t6 _ = H6
        obtain ⟨s6, e6⟩ := new_of n6 hG6
        refine ⟨by show 2 ≤ sizeLine; decide, fun t7 n7 => ?_⟩
        generalize hG7 : upd H6 t7 _ = H7
        obtain ⟨s7, e7⟩ := new_of n7 hG7
        refine ⟨by show 2 ≤ sizeLine; decide, fun t9 n9 => ?_⟩
        generalize hG9 : upd H7 t9 _ = H9
        obtain ⟨s9, e9⟩ := new_of n9 hG9
        have s69 := s6.trans (s7.trans s9)
        have o6 : Od K H6 (.ref t6) _ := .tup e6 (.cons (o1.same s6) (.cons (o2.same s6) .nil))
        have o7 : Od K H7 (.ref t7) _ := .tup e7 (.cons (.str _) (.cons (o6.same s7) .nil))
        exact ⟨by show 2 ≤ sizeLine; decide, fun t2 n2 => fin_co q (by decide) (by decide) (b24.trans ((Same.but s5).trans (b8.trans (Same.but s69)))) (st8.same s69) (c := .inr (.inl (.inr (.inr (jo, [.inl m1, .inl m2]))))) (.tup e9 (.cons (.str _) (.cons (o7.same s9) .nil))) (two_ok g1 g2) n2⟩
      · refine ⟨_, rfl, _, rfl, h, d, ds, a, x, r, rfl, st4, fun v3 m3 H5 b5 st5 o3 g3 => ?_⟩
        have b25 := b24.trans b5
        have o1 := o1.hand st4.hd b5
        have o2 := o2.hand st4.hd b5
        refine ⟨_, rfl, _, rfl, by show 2 ≤ sizeLine; decide, fun t10 nt10 => ?_⟩
        generalize hGJ1 : upd H5 t10 _ = J1
        obtain ⟨sJ1, eJ1⟩ := new_of nt10 hGJ1
        have oC : Od K J1 (.ref t10) _ := .tup eJ1 (.cons (.str _) (.cons (o2.same sJ1) .nil))
        have o1 := o1.same sJ1
        have o2 := o2.same sJ1
        have o3 := o3.same sJ1
        have st5 := st5.same sJ1
        have b25 := b25.trans (Same.but sJ1)
        refine ⟨by show 2 ≤ sizeLine; decide, fun t20 nt20 => ?_⟩
        generalize hGJ2 : upd J1 t20 _ = J2
        obtain ⟨sJ2, eJ2⟩ := new_of nt20 hGJ2
        have oB : Od K J2 (.ref t20) _ := .tup eJ2 (.cons (o1.same sJ2) (.cons (oC.same sJ2) .nil))
        have o1 := o1.same sJ2
        have o2 := o2.same sJ2
        have o3 := o3.same sJ2
        have st5 := st5.same sJ2
        have b25 := b25.trans (Same.but sJ2)
        refine ⟨by show 2 ≤ sizeLine; decide, fun t30 nt30 => ?_⟩
        generalize hGJ3 : upd J2 t30 _ = J3
        obtain ⟨sJ3, eJ3⟩ := new_of nt30 hGJ3
        have oA : Od K J3 (.ref t30) _ := .tup eJ3 (.cons (.str _) (.cons (oB.same sJ3) .nil))
        have o1 := o1.same sJ3
        have o2 := o2.same sJ3
        have o3 := o3.same sJ3
        have st5 := st5.same sJ3
        have b25 := b25.trans (Same.but sJ3)
        refine ⟨_, rfl, by show 2 ≤ sizeLine; decide, fun t40 nt40 => ?_⟩
        generalize hGJ4 : upd J3 t40 _ = J4
        obtain ⟨sJ4, eJ4⟩ := new_of nt40 hGJ4
        have oX : Od K J4 (.ref t40) _ := .tup eJ4 (.cons (oA.same sJ4) (.cons (o3.same sJ4) .nil))
        have o1 := o1.same sJ4
        have o2 := o2.same sJ4
        have o3 := o3.same sJ4
        have st5 := st5.same sJ4
        have b25 := b25.trans (Same.but sJ4)
        refine ⟨by show 2 ≤ sizeLine; decide, fun t50 nt50 => ?_⟩
        generalize hGJ5 : upd J4 t50 _ = J5
        obtain ⟨sJ5, eJ5⟩ := new_of nt50 hGJ5
        have oP : Od K J5 (.ref t50) _ := .tup eJ5 (.cons (.str _) (.cons (oX.same sJ5) .nil))
        have o1 := o1.same sJ5
        have o2 := o2.same sJ5
        have o3 := o3.same sJ5
        have st5 := st5.same sJ5
        have b25 := b25.trans (Same.but sJ5)
        refine ⟨_, rfl, _, rfl, by show 2 ≤ sizeLine; decide, fun t60 nt60 => ?_⟩
        generalize hGJ6 : upd J5 t60 _ = J6
        obtain ⟨sJ6, eJ6⟩ := new_of nt60 hGJ6
        have oB : Od K J6 (.ref t60) _ := .tup eJ6 (.cons (o1.same sJ6) (.cons (o2.same sJ6) .nil))
        have o1 := o1.same sJ6
        have o2 := o2.same sJ6
        have o3 := o3.same sJ6
        have oP := oP.same sJ6
        have st5 := st5.same sJ6
        have b25 := b25.trans (Same.but sJ6)
        refine ⟨by show 2 ≤ sizeLine; decide, fun t70 nt70 => ?_⟩
        generalize hGJ7 : upd J6 t70 _ = J7
        obtain ⟨sJ7, eJ7⟩ := new_of nt70 hGJ7
        have oA : Od K J7 (.ref t70) _ := .tup eJ7 (.cons (.str _) (.cons (oB.same sJ7) .nil))
        have o1 := o1.same sJ7
        have o2 := o2.same sJ7
        have o3 := o3.same sJ7
        have oP := oP.same sJ7
        have st5 := st5.same sJ7
        have b25 := b25.trans (Same.but sJ7)
        refine ⟨_, rfl, by show 2 ≤ sizeLine; decide, fun t80 nt80 => ?_⟩
        generalize hGJ8 : upd J7 t80 _ = J8
        obtain ⟨sJ8, eJ8⟩ := new_of nt80 hGJ8
        have oX : Od K J8 (.ref t80) _ := .tup eJ8 (.cons (oA.same sJ8) (.cons (o3.same sJ8) .nil))
        have o1 := o1.same sJ8
        have o2 := o2.same sJ8
        have o3 := o3.same sJ8
        have oP := oP.same sJ8
        have st5 := st5.same sJ8
        have b25 := b25.trans (Same.but sJ8)
        refine ⟨by show 2 ≤ sizeLine; decide, fun t90 nt90 => ?_⟩
        generalize hGJ9 : upd J8 t90 _ = J9
        obtain ⟨sJ9, eJ9⟩ := new_of nt90 hGJ9
        have oQ : Od K J9 (.ref t90) _ := .tup eJ9 (.cons (.str _) (.cons (oX.same sJ9) .nil))
        have o1 := o1.same sJ9
        have o2 := o2.same sJ9
        have o3 := o3.same sJ9
        have oP := oP.same sJ9
        have st5 := st5.same sJ9
        have b25 := b25.trans (Same.but sJ9)
        refine ⟨by show 2 ≤ sizeLine; decide, fun t100 nt100 => ?_⟩
        generalize hGJ10 : upd J9 t100 _ = J10
        obtain ⟨sJ10, eJ10⟩ := new_of nt100 hGJ10
        have eL := eJ10
        have o1 := o1.same sJ10
        have o2 := o2.same sJ10
        have o3 := o3.same sJ10
        have oP := oP.same sJ10
        have oQ := oQ.same sJ10
        have st5 := st5.same sJ10
        have b25 := b25.trans (Same.but sJ10)
        refine ⟨_, rfl, by show 2 ≤ sizeLine; decide, fun t110 nt110 => ?_⟩
        generalize hGJ11 : upd J10 t110 _ = J11
        obtain ⟨sJ11, eJ11⟩ := new_of nt110 hGJ11
        have eM := eJ11
        have eL := sJ11 _ _ eL
        have o1 := o1.same sJ11
        have o2 := o2.same sJ11
        have o3 := o3.same sJ11
        have oP := oP.same sJ11
        have oQ := oQ.same sJ11
        have st5 := st5.same sJ11
        have b25 := b25.trans (Same.but sJ11)
        refine ⟨_, rfl, h, d, ds, 2, rfl, by decide, st5.hd, fun k8 H8 k80 k81 b8 hd8 _ => ?_⟩
        obtain ⟨v, hv, e⟩ := atI_in (xs := [("and" : PySem.Str), "or"].map V.str) (i := k8) (by omega) (by show _ < (2 : Int); omega)
        obtain ⟨jo, rfl⟩ := and_or hv
        have o1 := o1.hand st5.hd b8
        have o2 := o2.hand st5.hd b8
        have o3 := o3.hand st5.hd b8
        have oP := oP.hand st5.hd b8
        have oQ := oQ.hand st5.hd b8
        have eL := b8 _ _ (ne_hand2 st5.hd eL) eL
        have eM := b8 _ _ (ne_hand2s st5.hd eM) eM
        have st5 := st5.but b8 hd8
        have b25 := b25.trans b8
        refine ⟨t110, _, _, _, rfl, rfl, SqL.of eM, e, ?_⟩
        refine ⟨_, rfl, _, rfl, _, rfl, by show 3 ≤ sizeLine; decide, fun t120 nt120 => ?_⟩
        generalize hGJ12 : upd H8 t120 _ = J12
        obtain ⟨sJ12, eJ12⟩ := new_of nt120 hGJ12
        have oX : Od K J12 (.ref t120) _ := .tup eJ12 (.cons (o1.same sJ12) (.cons (o2.same sJ12) (.cons (o3.same sJ12) .nil)))
        have o1 := o1.same sJ12
        have o2 := o2.same sJ12
        have o3 := o3.same sJ12
        have oP := oP.same sJ12
        have oQ := oQ.same sJ12
        have st5 := st5.same sJ12
        have b25 := b25.trans (Same.but sJ12)
        have eL := sJ12 _ _ eL
        refine ⟨by show 2 ≤ sizeLine; decide, fun t130 nt130 => ?_⟩
        generalize hGJ13 : upd J12 t130 _ = J13
        obtain ⟨sJ13, eJ13⟩ := new_of nt130 hGJ13
        have oR : Od K J13 (.ref t130) _ := .tup eJ13 (.cons (.str _) (.cons (oX.same sJ13) .nil))
        have o1 := o1.same sJ13
        have o2 := o2.same sJ13
        have o3 := o3.same sJ13
        have oP := oP.same sJ13
        have oQ := oQ.same sJ13
        have st5 := st5.same sJ13
        have b25 := b25.trans (Same.but sJ13)
        have eL := sJ13 _ _ eL
        refine ⟨_, rfl, _, rfl, _, rfl, by show 2 ≤ sizeLine; decide, fun t140 nt140 => ?_⟩
        generalize hGJ14 : upd J13 t140 _ = J14
        obtain ⟨sJ14, eJ14⟩ := new_of nt140 hGJ14
        have oB : Od K J14 (.ref t140) _ := .tup eJ14 (.cons (o2.same sJ14) (.cons (o3.same sJ14) .nil))
        have o1 := o1.same sJ14
        have o2 := o2.same sJ14
        have o3 := o3.same sJ14
        have oP := oP.same sJ14
        have oQ := oQ.same sJ14
        have oR := oR.same sJ14
        have st5 := st5.same sJ14
        have b25 := b25.trans (Same.but sJ14)
        have eL := sJ14 _ _ eL
        refine ⟨by show 2 ≤ sizeLine; decide, fun t150 nt150 => ?_⟩
        generalize hGJ15 : upd J14 t150 _ = J15
        obtain ⟨sJ15, eJ15⟩ := new_of nt150 hGJ15
        have oA : Od K J15 (.ref t150) _ := .tup eJ15 (.cons (.str _) (.cons (oB.same sJ15) .nil))
        have o1 := o1.same sJ15
        have o2 := o2.same sJ15
        have o3 := o3.same sJ15
        have oP := oP.same sJ15
        have oQ := oQ.same sJ15
        have oR := oR.same sJ15
        have st5 := st5.same sJ15
        have b25 := b25.trans (Same.but sJ15)
        have eL := sJ15 _ _ eL
        refine ⟨by show 2 ≤ sizeLine; decide, fun t160 nt160 => ?_⟩
        generalize hGJ16 : upd J15 t160 _ = J16
        obtain ⟨sJ16, eJ16⟩ := new_of nt160 hGJ16
        have oX : Od K J16 (.ref t160) _ := .tup eJ16 (.cons (o1.same sJ16) (.cons (oA.same sJ16) .nil))
        have o1 := o1.same sJ16
        have o2 := o2.same sJ16
        have o3 := o3.same sJ16
        have oP := oP.same sJ16
        have oQ := oQ.same sJ16
        have oR := oR.same sJ16
        have st5 := st5.same sJ16
        have b25 := b25.trans (Same.but sJ16)
        have eL := sJ16 _ _ eL
        refine ⟨by show 2 ≤ sizeLine; decide, fun t170 nt170 => ?_⟩
        generalize hGJ17 : upd J16 t170 _ = J17
        obtain ⟨sJ17, eJ17⟩ := new_of nt170 hGJ17
        have oS : Od K J17 (.ref t170) _ := .tup eJ17 (.cons (.str _) (.cons (oX.same sJ17) .nil))
        have o1 := o1.same sJ17
        have o2 := o2.same sJ17
        have o3 := o3.same sJ17
        have oP := oP.same sJ17
        have oQ := oQ.same sJ17
        have oR := oR.same sJ17
        have st5 := st5.same sJ17
        have b25 := b25.trans (Same.but sJ17)
        have eL := sJ17 _ _ eL
        refine ⟨by show 2 ≤ sizeLine; decide, fun t180 nt180 => ?_⟩
        generalize hGJ18 : upd J17 t180 _ = J18
        obtain ⟨sJ18, eJ18⟩ := new_of nt180 hGJ18
        have eN := eJ18
        have eL := sJ18 _ _ eL
        have o1 := o1.same sJ18
        have o2 := o2.same sJ18
        have o3 := o3.same sJ18
        have oP := oP.same sJ18
        have oQ := oQ.same sJ18
        have oR := oR.same sJ18
        have oS := oS.same sJ18
        have st5 := st5.same sJ18
        have b25 := b25.trans (Same.but sJ18)
        refine ⟨t100, t180, _, _, rfl, rfl, eL, eN, by show 4 ≤ sizeLine; decide, fun tF nF => ?_⟩
        generalize hGF : upd J18 tF _ = HF
        obtain ⟨sF, eF⟩ := new_of nF hGF
        have hdF := st5.hd
        have o1 := o1.same sF
        have o2 := o2.same sF
        have o3 := o3.same sF
        have oP := oP.same sF
        have oQ := oQ.same sF
        have oR := oR.same sF
        have oS := oS.same sF
        have st5 := st5.same sF
        have b25 := b25.trans (Same.but sF)
        refine ⟨_, rfl, _, rfl, h, d, ds, 4, rfl, by decide, st5.hd, fun k9 H9 k90 k91 b9 hd9 _ => ?_⟩
        obtain ⟨v9, hv9, e9⟩ := atI_in (xs := [.ref t50, .ref t90, .ref t130, .ref t170]) (i := k9) (by omega) (by show _ < (4 : Int); omega)
        refine ⟨tF, _, _, _, rfl, rfl, SqL.of (b9 _ _ (hand_ne hdF nF) eF), e9, by show 2 ≤ sizeLine; decide, fun t2 n2 => ?_⟩
        simp only [List.mem_cons, List.not_mem_nil, or_false] at hv9
        rcases hv9 with rfl | rfl | rfl | rfl
        · exact fin_co (c := .inr (.inr (true, [.inr (.inr (false, [.inl m1, .inr (.inl (.inl m2))])), .inl m3]))) q (by decide) (by decide) (b25.trans b9) (st5.but b9 hd9) (oP.hand st5.hd b9) (two_ok (two_ok g1 g2) g3) n2
        · exact fin_co (c := .inr (.inr (false, [.inr (.inr (true, [.inl m1, .inl m2])), .inl m3]))) q (by decide) (by decide) (b25.trans b9) (st5.but b9 hd9) (oQ.hand st5.hd b9) (two_ok (two_ok g1 g2) g3) n2
        · exact fin_co (c := .inr (.inr (jo, [.inl m1, .inl m2, .inl m3]))) q (by decide) (by decide) (b25.trans b9) (st5.but b9 hd9) (oR.hand st5.hd b9) (three_ok g1 g2 g3) n2
        · exact fin_co (c := .inr (.inr (false, [.inl m1, .inr (.inr (true, [.inl m2, .inl m3]))]))) q (by decide) (by decide) (b25.trans b9) (st5.but b9 hd9) (oS.hand st5.hd b9) (two_ok g1 (two_ok g2 g3)) n2
end
end SW

namespace SW
open PySem PySem.Spec PyProof.Rows L2
abbrev s_l_gen_call : Stmt := topS 44
theorem sc_l_gen_call : FnScope ["hand", "ctx", "name", "parameters", "moves", "free", "arguments", "one", "is_list", "fit", "other", "chosen"] ["hand", "ctx"] (defScope s_l_gen_call) := ⟨rfl, rfl, rfl, by decide +kernel, rfl, by decide +kernel, by decide +kernel⟩

/-- a statement that holds no other -/
inductive Sm | lst (k : PySem.Str) (r : Int) (x : PySem.Str) (ds : List PyData) | cal (r : Int) (y f : PySem.Str) (as : List Ar) | oth (k : PySem.Str) (r : Int) (ds : List PyData)
def Sm.to {B : Type} : Sm → Sf B
  | .lst k r x ds => .lst k r x ds
  | .cal r y f as => .cal r y f as
  | .oth k r ds => .oth k r ds
def Sm.enc (s : Sm) : PyData := Sf.enc (B := Empty) (fun x => nomatch x) s.to
def Sm.ok (s : Sm) : Prop := Sf.ok (B := Empty) (fun _ => True) s.to
theorem Sm.enc_to {B : Type} {e : B → PyData} (s : Sm) : Sf.enc e s.to = s.enc := by cases s <;> rfl
theorem Sm.ok_to {B : Type} {p : B → Prop} {s : Sm} (h : s.ok) : Sf.ok p s.to := by cases s <;> exact h
theorem Sm.subs {B : Type} (s : Sm) : Sf.subs (B := B) s.to = [] := by cases s <;> rfl
theorem Sm.noL {s : Sm} (h : s.ok) : SW.noL s.enc = true := noL_sf (e := fun x : Empty => nomatch x) (p := fun _ => True) (fun b => nomatch b) h
/-- an argument fits its parameter -/
def ArgOk (nn ln mv : List PySem.Str) (kmv : List PySem.Str) (p : PySem.Str × Bool) (a : Ar) : Prop := (p.2 = true → ∃ z, a = .ls z ∧ z ∈ ln ∧ (z ∈ mv → p.1 ∈ kmv)) ∧ (p.2 = false → ∃ (t : Pl) (h : PySem.Str) (ds : List PyData), a = .pl h ds ∧ a.enc = t.enc ∧ t.ok nn ln)
def Ar.nm : Ar → Option PySem.Str
  | .ls z => some z
  | .pl _ _ => none
def TyO (nn ln : List PySem.Str) (k : PySem.Str) (ds : List PyData) : Prop :=
  (k = "set" ∧ ∃ (y : PySem.Str) (t : Tm), ds = [.str y, t.enc] ∧ y ∈ nn ∧ t.ok nn ln) ∨ (k = "choose" ∧ ∃ (y : PySem.Str) (lo hi : Pl), ds = [.str y, lo.enc, hi.enc] ∧ y ∈ nn ∧ lo.ok nn ln ∧ hi.ok nn ln) ∨ (k = "check" ∧ ∃ c : CoD 4, ds = [encC 4 c] ∧ okC nn ln 4 c) ∨ (k = "skip" ∧ ds = []) ∨ (k = "return" ∧ ∃ t : Tm, ds = [t.enc] ∧ t.ok nn ln)
/-- a statement as it is written -/
def TyS (nn ln mv : List PySem.Str) (kn : List Kn) {B : Type} : Sf B → Prop
  | .lst k _ z ds => z ∈ ln ∧ ((k = "swap" ∧ ∃ i j : Pl, ds = [i.enc, j.enc] ∧ i.ok nn ln ∧ j.ok nn ln) ∨ (k = "put" ∧ z ∉ mv ∧ ∃ (i : Pl) (t : Tm), ds = [i.enc, t.enc] ∧ i.ok nn ln ∧ t.ok nn ln))
  | .cal _ y f as => y ∈ nn ∧ (as.filterMap Ar.nm).Nodup ∧ ∃ k, k ∈ kn ∧ k.nm = f ∧ as.length = k.ps.length ∧ ∀ (j : Nat) (p : PySem.Str × Bool) (a : Ar), k.ps[j]? = some p → as[j]? = some a → ArgOk nn ln mv k.mv p a
  | .oth k _ ds => TyO nn ln k ds
  | .iff _ c _ _ => ∃ co : CoD 4, c = encC 4 co ∧ okC nn ln 4 co
  | .whl _ c _ f _ => (∃ co : CoD 4, c = encC 4 co ∧ okC nn ln 4 co) ∧ ∃ p q : Pl, f = .tuple [p.enc, q.enc] ∧ p.ok nn ln ∧ q.ok nn ln
def AtS (x : Cd) {B : Type} (s : Sf B) : Prop := TyS x.vs x.ls x.mv x.kn s
def AtM (x : Cd) (s : Sm) : Prop := AtS x (B := Empty) s.to
theorem AtM.to {x : Cd} {B : Type} {s : Sm} (h : AtM x s) : AtS x (B := B) s.to := by cases s <;> exact h
theorem Op_sqt {K : PySem.W.Frag} {H H' : Hp} {h b : Addr} {ys xs : List V} (hl : H h = some (.lst ys)) (s : But h H H') (hs : SqT K H b xs) : SqT K H' b xs := by
  rcases hs with (hs | ⟨o, hs⟩) | hs
  · exact .inl (.inl (s _ _ (fun e => by rw [e, hl] at hs; cases hs) hs))
  · exact .inl (.inr ⟨o, s _ _ (fun e => by rw [e, hl] at hs; cases hs) hs⟩)
  · exact .inr hs
theorem dpa_strs_inv {K : PySem.W.Frag} {H : Hp} : ∀ {ws : List PySem.Str} {xs : List V}, DpAll K H xs (ws.map PyData.str) → xs = ws.map V.str
  | [], _, h => by
    cases h
    rfl
  | x :: r, _, h => by
    cases h with
    | cons h1 h2 =>
      cases dp_str_inv h1
      rw [dpa_strs_inv h2]
      rfl
section
variable {P : Program} {w : World} {K : PySem.W.Frag} {mg : PySem.Str → Option Value} {base : Heap}
def spS (K : PySem.W.Frag) (c : Cd → Prop) : Sp := fun vs H Q _ => ∃ (h d : Addr) (ds : List Int) (a : Ca) (x : Cd) (r : Int), vs = [.ref h, .ref a.c] ∧ St8 K H h d ds a x r ∧ c x ∧ (∀ k, k ∈ x.kn → k.ps.length ≤ 10) ∧ ∀ (v : V) (s : Sm) (H' : Hp), But h H H' → St8 K H' h d ds a x r → Dp K H' v s.enc → s.ok → AtM x s → Q v H'
theorem fin_st {K : PySem.W.Frag} {H : Hp} {h d : Addr} {ds : List Int} {a : Ca} {x : Cd} {r : Int} {Q : V → Hp → Prop} (q : ∀ (v : V) (s : Sm) (H' : Hp), But h H H' → St8 K H' h d ds a x r → Dp K H' v s.enc → s.ok → AtM x s → Q v H') {z : PySem.Str} (hz : z ∉ oddK) {i : Int} {ws : List V} {es : List PyData} {G2 : Hp} {t2 : Addr} (b : But h H G2) (s : St8 K G2 h d ds a x r) (o : ∀ G3, Same G2 G3 → Ods K G3 ws es) (ty : TyO x.vs x.ls z es) (n : G2 t2 = none) : Q (.ref t2) (upd G2 t2 (.tup (.str z :: .int i :: ws))) := by
  generalize hG3 : upd G2 t2 _ = G3
  obtain ⟨s3, e3⟩ := new_of n hG3
  have o1 := o G3 s3
  exact q _ (.oth z i es) _ (b.trans (Same.but s3)) (s.same s3) (.tup (SqT.of e3) (.cons (.str _) (.cons (.int _) o1.dp))) ⟨hz, o1.nl⟩ ty
theorem fin_lst {K : PySem.W.Frag} {H : Hp} {h d : Addr} {ds : List Int} {a : Ca} {x : Cd} {r : Int} {Q : V → Hp → Prop} (q : ∀ (v : V) (s : Sm) (H' : Hp), But h H H' → St8 K H' h d ds a x r → Dp K H' v s.enc → s.ok → AtM x s → Q v H') {z y : PySem.Str} (hz : z = "put" ∨ z = "swap") {i : Int} {ws : List V} {es : List PyData} {G2 : Hp} {t2 : Addr} (b : But h H G2) (s : St8 K G2 h d ds a x r) (o : ∀ G3, Same G2 G3 → Ods K G3 ws es) (ty : TyS x.vs x.ls x.mv x.kn (Sf.lst z i y es : Sf Empty)) (n : G2 t2 = none) : Q (.ref t2) (upd G2 t2 (.tup (.str z :: .int i :: .str y :: ws))) := by
  generalize hG3 : upd G2 t2 _ = G3
  obtain ⟨s3, e3⟩ := new_of n hG3
  have o1 := o G3 s3
  exact q _ (.lst z i y es) _ (b.trans (Same.but s3)) (s.same s3) (.tup (SqT.of e3) (.cons (.str _) (.cons (.int _) (.cons (.str _) o1.dp)))) ⟨hz, o1.nl⟩ ty
/-- the arguments so far fit -/
structure ArOk (nn ln mv kmv : List PySem.Str) (as : List Ar) (ps : List (PySem.Str × Bool)) (i : Nat) (fr : List PySem.Str) : Prop where
  len : as.length = i
  fit : ∀ (j : Nat) (p : PySem.Str × Bool) (a : Ar), ps[j]? = some p → as[j]? = some a → ArgOk nn ln mv kmv p a
  ok : ∀ a, a ∈ as → a.ok
  nd : (as.filterMap Ar.nm).Nodup
  fnd : fr.Nodup
  dis : ∀ z, z ∈ as.filterMap Ar.nm → z ∉ fr
theorem ArOk.snoc {nn ln mv kmv : List PySem.Str} {as : List Ar} {ps : List (PySem.Str × Bool)} {i : Nat} {fr fr' : List PySem.Str} (k : ArOk nn ln mv kmv as ps i fr) {b : Ar} (h1 : ∀ p, ps[i]? = some p → ArgOk nn ln mv kmv p b) (h3 : b.ok) (h4 : ∀ z, b.nm = some z → z ∈ fr ∧ z ∉ fr') (h5 : fr'.Nodup) (h6 : ∀ z, z ∈ fr' → z ∈ fr) : ArOk nn ln mv kmv (as ++ [b]) ps (i + 1) fr' := by
  obtain ⟨len, fit, ok, nd, fnd, dis⟩ := k
  have e : (as ++ [b]).filterMap Ar.nm = as.filterMap Ar.nm ++ (match b.nm with | some z => [z] | none => []) := by
    rw [List.filterMap_append, List.filterMap_cons]
    cases b.nm <;> rfl
  refine ⟨by rw [List.length_append, len]; rfl, fun j p a hp ha => ?_, fun a ha => ?_, ?_, h5, fun z hz hf => ?_⟩
  · by_cases hj : j < as.length
    · rw [List.getElem?_append_left hj] at ha
      exact fit j p a hp ha
    · have hj2 : j = as.length := by
        have := (List.getElem?_eq_some_iff.mp ha).1
        rw [List.length_append] at this
        have : j < as.length + 1 := this
        omega
      rw [hj2, List.getElem?_append_right (Nat.le_refl _), Nat.sub_self] at ha
      cases ha
      exact h1 p (by rw [← len, ← hj2]; exact hp)
  · rcases List.mem_append.mp ha with ha | ha
    · exact ok a ha
    · rw [List.mem_singleton.mp ha]
      exact h3
  · rw [e]
    cases hb : b.nm with
    | none =>
      rw [List.append_nil]
      exact nd
    | some z =>
      refine List.nodup_append.mpr ⟨nd, List.pairwise_singleton _ _, fun y hy w hw e2 => ?_⟩
      rw [List.mem_singleton.mp hw] at e2
      exact dis y hy (e2 ▸ (h4 z hb).1)
  · rw [e] at hz
    rcases List.mem_append.mp hz with hz | hz
    · exact dis z hz (h6 z hf)
    · cases hb : b.nm with
      | none =>
        rw [hb] at hz
        cases hz
      | some y =>
        rw [hb] at hz
        rw [List.mem_singleton.mp hz] at hf
        exact (h4 y hb).2 hf
theorem erase_nd {ws : List PySem.Str} {j : Nat} {k : PySem.Str} (h : ws[j]? = some k) (nd : ws.Nodup) : k ∉ ws.eraseIdx j ∧ (ws.eraseIdx j).Nodup := by
  refine ⟨fun hm => ?_, (List.eraseIdx_sublist ws j).nodup nd⟩
  obtain ⟨i, hij, hi⟩ := List.mem_eraseIdx_iff_getElem?.mp hm
  obtain ⟨i1, i2⟩ := List.getElem?_eq_some_iff.mp hi
  obtain ⟨j1, j2⟩ := List.getElem?_eq_some_iff.mp h
  have := List.pairwise_iff_getElem.mp nd
  rcases Nat.lt_trichotomy i j with hl | hl | hl
  · exact this i j i1 j1 hl (i2.trans j2.symm)
  · exact hij hl
  · exact this j i j1 i1 hl (j2.trans i2.symm)
theorem ars_noL {as : List Ar} (h : ∀ a, a ∈ as → a.ok) : noLs (as.map Ar.enc) = true := noLs_mapof fun a ha => noL_ar (h a ha)
theorem pl_opl (t : Pl) : ∃ (z : PySem.Str) (es : List PyData), t.enc = .tuple (.str z :: es) ∧ noLs es = true ∧ z ≠ "list" := by
  cases t with
  | num n => exact ⟨_, _, rfl, rfl, by decide +kernel⟩
  | var y p => exact ⟨_, _, rfl, rfl, by decide +kernel⟩
  | len y p => exact ⟨_, _, rfl, rfl, by decide +kernel⟩
theorem in_of {z : PySem.Str} {ws : List PySem.Str} (h : (if false = true then !inV (.str z) (ws.map V.str) else inV (.str z) (ws.map V.str)) = true) : z ∈ ws := by
  rw [if_neg Bool.false_ne_true, inV_strs] at h
  exact of_decide_eq_true h
theorem nin_of {z : PySem.Str} {ws : List PySem.Str} (h : (if true = true then !inV (.str z) (ws.map V.str) else inV (.str z) (ws.map V.str)) = true) : z ∉ ws := by
  rw [if_pos rfl, inV_strs] at h
  exact fun hm => by rw [decide_eq_true hm] at h; cases h
theorem ok_l_call (T : TxB mg) (D_l_gen_call : Df K mg "_law_gen_call" s_l_gen_call ["hand", "ctx"]) (D_l_gen_plain : Df K mg "_law_gen_plain" s_l_gen_plain ["hand", "ctx"]) (D_l_take : Df K mg "_law_take" s_l_take ["hand", "many"]) : FnOk P w K mg base CX0 3 D_l_gen_call.f D_l_gen_call.fd ["hand", "ctx"] (spS K fun x => x.kn ≠ [] ∧ x.b = true ∧ x.ls.Nodup) := by
  have G_l_take := ok_l_take (P := P) (w := w) (K := K) (base := base) T D_l_take
  have G_l_gen_plain := ok_l_plain (P := P) (w := w) (K := K) (base := base) T D_l_gen_plain D_l_take
  refine D_l_gen_call.F.ok sc_l_gen_call (fun vs H Q E h => ?_) (fun cdv A outer s H vs Q E hr h => ?_)
  · obtain ⟨h, d, ds, a, x, r, rfl, _⟩ := h
    rfl
  · obtain ⟨h, d, ds, a, x, r, rfl, st, ⟨hkn, hxb, hlnd⟩, hps, q⟩ := h
    refine ⟨_, (pss_cons (ps_asg (pe_ix ix_list (pe_ix ix_list (pv 1) pe_int (fun _ _ => rfl)) (pe_call G_l_take (hr.mono (by decide)) (by rfl) D_l_take.g D_l_take.F.kp D_l_take.b .nil pass0 (pa_cons (pv 0) (pa_cons (pe_callB call_len_seq (by rfl) T.n_len PySem.boot_len (pa_cons (pe_ix ix_list (pv 1) pe_int (fun _ _ => rfl)) pa_nil)) pa_nil))) (fun _ _ => rfl)) (pg_tup (by rfl) (pgs_cons (pg_name (i := 2) sc_l_gen_call.nd rfl (.inl rfl)) (pgs_cons (pg_name (i := 3) sc_l_gen_call.nd rfl (.inl rfl)) (pgs_cons (pg_name (i := 4) sc_l_gen_call.nd rfl (.inr rfl)) pgs_nil)))))
    (pss_cons (ps_set (i := 5) sc_l_gen_call.nd rfl (.inl rfl) (pe_callTy call_list_of (by rfl) T.n_list (by decide +kernel) (pa_cons (pe_ix ix_list (pv 1) pe_int (fun _ _ => rfl)) pa_nil)))
    (pss_cons (ps_set (i := 6) sc_l_gen_call.nd rfl (.inl rfl) (pe_lst pa_nil))
    (pss_cons (ps_for PassesOwn.never rfl (pi_tup (pv 3)) (pg_tup (by rfl) (pgs_cons (pg_name (i := 7) sc_l_gen_call.nd rfl (.inr rfl)) (pgs_cons (pg_name (i := 8) sc_l_gen_call.nd rfl (.inl rfl)) pgs_nil)))
    (pss_cons (ps_if (pt_not (pt_val (pv 8)))
    (pss_cons (ps_expr (pe_bm PySem.F.plainAttrs_list PySem.F.slot_list_append PySem.F.type_list_append mt_append (pv 6) (pa_cons (pe_call G_l_gen_plain (hr.mono (by decide)) (by rfl) D_l_gen_plain.g D_l_gen_plain.F.kp D_l_gen_plain.b .nil pass0 (pa_cons (pv 0) (pa_cons (pv 1) pa_nil))) pa_nil)))
    (pss_one ps_continue))
    pss_nil)
    (pss_cons (ps_setLc (i := 9) (own := [("other", 10)]) (g := gName 10) (by rfl) sc_l_gen_call.nd rfl rfl (sw_true rfl rfl rfl (by decide +kernel)) (pi_list (pv 5)) (blkOk_by (own := [("other", 10)]) (N := ["hand", "ctx", "name", "parameters", "moves", "free", "arguments", "one", "is_list", "fit", "other", "chosen"]) (sc := defScope s_l_gen_call) (by decide +kernel)) (fun _ _ _ _ _ => pg_name (i := 10) sc_l_gen_call.nd rfl (Or.inl rfl)) (fun _ _ _ _ _ => pts_one (PW.pt (pw_or (pt_cmpR (show OpR _ (compareOp .In) (rIn K false) from op_in_seq) (pv 7) (pv 4) (by rfl)) (pw_or1 (pt_cmpR (show OpR _ (compareOp .NotIn) (rIn K true) from op_notIn_seq) (pv 10) (pe_ix (show IxR _ (rIxL K) from ix_list) (pv 1) pe_int (fun _ _ => rfl)) (by rfl)))))) (fun _ _ _ _ _ => (pv 10)))
    (pss_cons (ps_if (pt_cmpR op_eq (pe_callB call_len_seq (by rfl) T.n_len PySem.boot_len (pa_cons (pv 9) pa_nil)) pe_int (nomark _))
    (pss_one (ps_ret (pe_tup (pa_cons pe_str (pa_cons pe_int pa_nil)))))
    pss_nil)
    (pss_cons (ps_set (i := 11) sc_l_gen_call.nd rfl (.inl rfl) (pe_ix ix_list (pv 9) (pe_call G_l_take (hr.mono (by decide)) (by rfl) D_l_take.g D_l_take.F.kp D_l_take.b .nil pass0 (pa_cons (pv 0) (pa_cons (pe_callB call_len_seq (by rfl) T.n_len PySem.boot_len (pa_cons (pv 9) pa_nil)) pa_nil))) (fun _ _ => rfl)))
    (pss_cons (ps_expr (pe_bm PySem.F.plainAttrs_list PySem.F.slot_list_remove PySem.F.type_list_remove mt_removeS (pv 5) (pa_cons (pv 11) pa_nil)))
    (pss_one (ps_expr (pe_bm PySem.F.plainAttrs_list PySem.F.slot_list_append PySem.F.type_list_append mt_append (pv 6) (pa_cons (pe_tup (pa_cons pe_str (pa_cons (pv 11) pa_nil))) pa_nil))))))))))
    (pss_one (ps_ret (pe_tup (pa_cons pe_str (pa_cons pe_int (pa_cons (pe_ix ix_list (pe_ix ix_list (pv 1) pe_int (fun _ _ => rfl)) (pe_call G_l_take (hr.mono (by decide)) (by rfl) D_l_take.g D_l_take.F.kp D_l_take.b .nil pass0 (pa_cons (pv 0) (pa_cons pe_int pa_nil))) (fun _ _ => rfl)) (pa_cons (pv 2) (pa_cons (pe_callTy call_tuple_of (by rfl) T.n_tuple (by decide +kernel) (pa_cons (pv 6) pa_nil)) pa_nil)))))))))))), ?_⟩
    obtain ⟨xk, ek, dk⟩ := st.cx.k
    have hxk : xk.length = x.kn.length := by rw [dpa_len dk, List.length_map]
    have hkp : 0 < x.kn.length := List.length_pos_iff.mpr hkn
    refine ⟨_, rfl, a.c, _, _, _, rfl, rfl, SqL.of st.cx.c, atI_nat (j := 2) rfl, _, rfl, _, rfl, a.c, _, _, _, rfl, rfl, SqL.of st.cx.c, atI_nat (j := 2) rfl, a.Kd, _, rfl, .inl (SqL.of ek), h, d, ds, _, rfl, by omega, st.hd, fun r1 H2 q0 q1 b2 hd2 _ => ?_⟩
    have st2 := st.but b2 hd2
    have ek2 := b2 _ _ (st.cx.hand_ne st.hd a.Kd (by simp)) ek
    have hj : r1.toNat < x.kn.length := by omega
    obtain ⟨v, gv, dv⟩ := dp_mem dk hj
    have hmk := List.getElem_mem hj
    have hps1 := hps _ hmk
    generalize x.kn[r1.toNat] = kk at dv hmk hps1
    have dv := st.hd.dp b2 kk.noL dv
    obtain ⟨t, us, rfl, ht, ha⟩ := dp_tup_inv dv
    obtain ⟨v1, vr, rfl, m1, hb⟩ : ∃ v1 vr, us = v1 :: vr ∧ Dp K H2 v1 (.str kk.nm) ∧ DpAll K H2 vr [psE kk.ps, .tuple (kk.mv.map .str)] := by
      cases ha with
      | cons h1 h2 => exact ⟨_, _, rfl, h1, h2⟩
    cases dp_str_inv m1
    obtain ⟨v2, v3, rfl, m2, m3⟩ := dpa2 hb
    refine ⟨a.Kd, _, _, _, rfl, rfl, SqL.of ek2, at_nat (j := r1.toNat) (by omega) gv, t, _, rfl, ht, rfl, _, _, rfl, _, _, rfl, _, _, rfl, rfl, ?_⟩
    refine ⟨_, rfl, a.c, _, _, _, rfl, rfl, SqL.of st2.cx.c, atI_nat (j := 0) rfl, a.L, _, rfl, .inl (SqL.of st2.cx.l), fun F nF => ?_⟩
    generalize hG3 : upd H2 F _ = H3
    obtain ⟨s3, eF⟩ := new_of nF hG3
    refine ⟨Nat.zero_le _, fun N nN => ?_⟩
    generalize hG4 : upd H3 N _ = H4
    obtain ⟨s4, eN⟩ := new_of nN hG4
    obtain ⟨tp, ys, rfl, htp, dyp⟩ := dp_tup_inv m2
    obtain ⟨tm, zs, rfl, htm, dzm⟩ := dp_tup_inv m3
    cases dpa_strs_inv dzm
    have hyl : ys.length = kk.ps.length := by rw [dpa_len dyp, List.length_map]
    have s34 := s3.trans s4
    have st4 := st2.same s34
    have b24 : But h H H4 := b2.trans (Same.but s34)
    have nFH : H2 F = none := nF
    have nNH : H2 N = none := s3.free nN
    have zl := st.cx.zl
    have nFh := hand_ne hd2 nF
    have nNh := hand_ne hd2 nNH
    have nFN : F ≠ N := ne_of_none eF nN
    have htp2 : ∀ {G : Hp}, But h H2 G → SqT K G tp ys := fun b => by
      obtain ⟨⟨i, e⟩, _, _⟩ := hd2
      exact Op_sqt e b htp
    have htm2 : ∀ {G : Hp}, But h H2 G → SqT K G tm (kk.mv.map V.str) := fun b => by
      obtain ⟨⟨i, e⟩, _, _⟩ := hd2
      exact Op_sqt e b htm
    refine ⟨_, rfl, tp, rfl, ⟨_, htp2 (Same.but s34)⟩, ?_⟩
    refine for_tup (K := K) (a := tp) (xs := ys) (fun i σ G => ∃ (y7 y8 y9 y10 y11 : Option V) (fr : List PySem.Str) (xs : List V) (as : List Ar), σ = [some (.ref h), some (.ref a.c), some (.str kk.nm), some (.ref tp), some (.ref tm), some (.ref F), some (.ref N), y7, y8, y9, y10, y11] ∧ But h H2 G ∧ St8 K G h d ds a x r ∧ G F = some (.lst (fr.map V.str)) ∧ fr.length ≤ 10 ∧ (∀ z, z ∈ fr → z ∈ x.ls) ∧ G N = some (.lst xs) ∧ DpAll K G xs (as.map Ar.enc) ∧ ArOk x.vs x.ls x.mv kk.mv as kk.ps i fr) ⟨_, _, _, _, _, x.ls, [], [], rfl, Same.but s34, st4, s4 _ _ eF, zl, fun _ h => h, eN, .nil, rfl, fun j p a _ ha => (by cases ha), fun _ h => (List.not_mem_nil h).elim, List.Pairwise.nil, hlnd, fun _ h => (List.not_mem_nil h).elim⟩ (fun i σ G _ hP => ?_) (fun i y σ G hy hP => ?_) (fun σ G hP => ?_)
    · obtain ⟨_, _, _, _, _, _, _, _, _, bG, _⟩ := hP
      exact htp2 bG
    · obtain ⟨y7, y8, y9, y10, y11, fr, xs, as, rfl, bG, stG, eF, zf, hfr, eN, dN, ao⟩ := hP
      have hi : i < kk.ps.length := by
        rw [← hyl]
        exact (List.getElem?_eq_some_iff.mp hy).1
      obtain ⟨v', g1, dy⟩ := dp_mem dyp hi
      rw [hy] at g1
      cases g1
      have hpi := List.getElem?_eq_getElem hi
      generalize kk.ps[i] = pq at dy hpi
      obtain ⟨pn, pb⟩ := pq
      have dyG := hd2.dp bG (show noL (.tuple [.str pn, .bool pb]) = true from rfl) dy
      obtain ⟨t2, w1, w2, rfl, ht2, n1, n2⟩ := dp_inv2 dyG
      cases dp_str_inv n1
      obtain rfl : w2 = .bl pb := by
        cases n2
        rfl
      have hal : as.length = i := ao.len
      have hxl : xs.length = i := by rw [dpa_len dN, List.length_map, hal]
      refine ⟨t2, _, rfl, ht2, rfl, _, _, rfl, _, _, rfl, rfl, ?_⟩
      refine ⟨_, rfl, pb, rfl, ?_⟩
      cases pb with
      | false =>
        refine iteT ⟨_, rfl, .inl ⟨rfl, _, SqL.of eN⟩, _, rfl, _, rfl, h, d, ds, a, x, r, rfl, stG, fun v3 tp3 G3 b3 st3 o3 k3 => ?_⟩
        have eN3 := b3 _ _ nNh eN
        refine ⟨N, _, _, rfl, rfl, eN3, small_sz5 (by omega), ?_⟩
        obtain ⟨z, es, o4, o5, o6⟩ := pl_opl tp3
        rw [o4] at o3
        have dN3 : DpAll K G3 xs (as.map Ar.enc) := by
          obtain ⟨⟨i, e⟩, _, _⟩ := stG.hd
          exact dpa_but e b3 _ _ (ars_noL ao.ok) dN
        have bb : But h H2 (upd G3 N (.lst (xs ++ [v3]))) := (bG.trans b3).new nNH
        have ao2 := ao.snoc (b := .pl z es) (fr' := fr) (fun q hq => by
          rw [hpi] at hq
          cases hq
          exact ⟨fun h => (by cases h), fun _ => ⟨tp3, z, es, rfl, o4.symm, Pl.up k3⟩⟩) ⟨o6, o5⟩ (fun y hy => by cases hy) ao.fnd fun _ h => h
        refine ⟨_, _, _, _, _, fr, xs ++ [v3], as ++ [.pl z es], rfl, bb, st2.but bb (st3.hd.upd nNh (hand_ne2 hd2 nNH)), (upd_ne nFN).trans (b3 _ _ nFh eF), zf, hfr, upd_same, ?_, ao2⟩
        refine dpa_but eN3 (fun b o hb e => (upd_ne hb).trans e) _ _ (ars_noL ao2.ok) ?_
        rw [List.map_append]
        exact dpa_snoc dN3 o3
      | true =>
        refine iteF ⟨_, rfl, F, rfl, ⟨_, SqL.of eF⟩, fun D nD => ?_⟩
        refine lc_list (K := K) (a := F) (xs := fr.map V.str) (fun j J => Same G J ∧ ∃ gs : List PySem.Str, J D = some (.lst (gs.map V.str)) ∧ gs.length ≤ j ∧ ∀ z, z ∈ gs → z ∈ fr ∧ (z ∈ x.mv → pn ∈ kk.mv)) ⟨same_new nD, [], upd_same, Nat.le_refl _, fun _ h => (List.not_mem_nil h).elim⟩ (fun j J _ hP => SqL.of (hP.1 _ _ eF)) (fun j y J hy hP => ?_) (fun J hP => ?_)
        · obtain ⟨sJ, gs, eD, gl, gf⟩ := hP
          rw [List.getElem?_map] at hy
          obtain ⟨z, hz, rfl⟩ := Option.map_eq_some_iff.mp hy
          have hzm := List.mem_of_getElem? hz
          have hjl : j < fr.length := (List.getElem?_eq_some_iff.mp hz).1
          have add : (z ∈ x.mv → pn ∈ kk.mv) → Same G (upd J D (.lst (gs.map V.str ++ [.str z]))) ∧ ∃ gs' : List PySem.Str, (upd J D (.lst (gs.map V.str ++ [.str z]))) D = some (.lst (gs'.map V.str)) ∧ gs'.length ≤ j + 1 ∧ ∀ z, z ∈ gs' → z ∈ fr ∧ (z ∈ x.mv → pn ∈ kk.mv) := fun hmv => by
            refine ⟨same_mut sJ nD, gs ++ [z], by rw [upd_same, List.map_append]; rfl, by rw [List.length_append, List.length_singleton]; omega, fun y hy => ?_⟩
            rcases List.mem_append.mp hy with hy | hy
            · exact gf y hy
            · rw [List.mem_singleton.mp hy]
              exact ⟨hzm, hmv⟩
          have zd : (gs.map V.str).length < sizeLine := small_sz5 (by rw [List.length_map]; omega)
          refine ⟨rfl, _, rfl, _, rfl, tm, _, rfl, .inr (htm2 (bG.trans (Same.but sJ))), rfl, flat_strs _, _, rfl, ite2 (fun e => ?_) (fun e => ?_)⟩
          · refine iteT ?_
            exact ⟨_, rfl, _, eD, zd, add fun _ => in_of e⟩
          · have stJ := stG.same sJ
            refine ⟨_, rfl, _, rfl, a.c, _, _, _, rfl, rfl, SqL.of stJ.cx.c, atI_nat (j := 4) rfl, a.Mv, _, rfl, .inl (SqL.of stJ.cx.m), rfl, flat_strs _, _, rfl, ite2 (fun e => ?_) (fun e => ?_)⟩
            · exact ⟨_, rfl, _, eD, zd, add fun hm => absurd hm (nin_of e)⟩
            · exact ⟨sJ, gs, eD, by omega, gf⟩
        · obtain ⟨sJ, gs, eD, gl, gf⟩ := hP
          rw [List.length_map] at gl
          have stJ := stG.same sJ
          have bJ : But h H2 J := bG.trans (Same.but sJ)
          refine ⟨_, rfl, D, _, rfl, .inl (SqL.of eD), rfl, _, rfl, ite2 (fun c => ?_) (fun c => ?_)⟩
          · exact ⟨by show 2 ≤ sizeLine; decide, fun t7 n7 => fin_st q (by decide +kernel) (b2.trans bJ) stJ (fun _ _ => .nil) (.inr (.inr (.inr (.inl ⟨rfl, rfl⟩)))) n7⟩
          · have hlp : 0 < gs.length := by
              refine Nat.pos_of_ne_zero fun e => ?_
              have := of_decide_eq_false (Bool.eq_false_iff.mpr c)
              rw [List.length_map, e] at this
              exact this rfl
            refine ⟨_, rfl, _, rfl, _, rfl, D, _, rfl, .inl (SqL.of eD), h, d, ds, _, rfl, by rw [List.length_map]; omega, stJ.hd, fun r5 H5 q0 q1 b5 hd5 _ => ?_⟩
            rw [List.length_map] at q1
            obtain ⟨v, hv, e⟩ := atI_in (xs := gs.map V.str) (i := r5) q0 (by rw [List.length_map]; exact q1)
            obtain ⟨z, hz, rfl⟩ := List.mem_map.mp hv
            have nDh : D ≠ h := hand_ne stG.hd nD
            refine ⟨D, _, _, _, rfl, rfl, SqL.of (b5 _ _ nDh eD), e, ?_⟩
            have eF5 := b5 _ _ nFh (sJ _ _ eF)
            refine ⟨_, rfl, .inl ⟨rfl, _, SqL.of eF5⟩, _, rfl, F, fr, z, rfl, rfl, eF5, (gf z hz).1, fun us uj u1 u2 => ?_⟩
            have und := erase_nd u1 ao.fnd
            have usl : us.length ≤ fr.length := by
              rw [u2]
              exact List.length_eraseIdx_le _ _
            rw [← u2] at und
            have usm : ∀ y, y ∈ us → y ∈ fr := fun y hy => List.mem_of_mem_eraseIdx (u2 ▸ hy)
            have eN5 := b5 _ _ nNh (sJ _ _ eN)
            have dN5 : DpAll K H5 xs (as.map Ar.enc) := by
              obtain ⟨⟨i, e⟩, _, _⟩ := stJ.hd
              exact dpa_but e b5 _ _ (ars_noL ao.ok) (dpa_same sJ _ _ dN)
            have b6 : But h H2 (upd H5 F (.lst (us.map V.str))) := (bJ.trans b5).new nFH
            have eN6 : (upd H5 F (.lst (us.map V.str))) N = some (.lst xs) := (upd_ne nFN.symm).trans eN5
            have eF6 : (upd H5 F (.lst (us.map V.str))) F = some (.lst (us.map V.str)) := upd_same
            have dN6 : DpAll K (upd H5 F (.lst (us.map V.str))) xs (as.map Ar.enc) := dpa_but eF5 (fun b o hb e => (upd_ne hb).trans e) _ _ (ars_noL ao.ok) dN5
            have hd6 : Hand (upd H5 F (.lst (us.map V.str))) h d ds := hd5.upd nFh (hand_ne2 hd2 nFH)
            generalize upd H5 F (.lst (us.map V.str)) = H6 at b6 eN6 eF6 dN6 hd6
            refine ⟨_, rfl, .inl ⟨rfl, _, SqL.of eN6⟩, _, rfl, by show 2 ≤ sizeLine; decide, fun t7 n7 => ?_⟩
            generalize hG7 : upd H6 t7 _ = H7
            obtain ⟨s7, e7⟩ := new_of n7 hG7
            have eN7 := s7 _ _ eN6
            refine ⟨N, _, _, rfl, rfl, eN7, small_sz5 (by omega), ?_⟩
            have bb : But h H2 (upd H7 N (.lst (xs ++ [.ref t7]))) := (b6.trans (Same.but s7)).new nNH
            have ao2 := ao.snoc (b := .ls z) (fr' := us) (fun q hq => by
              rw [hpi] at hq
              cases hq
              exact ⟨fun _ => ⟨z, rfl, hfr z (gf z hz).1, (gf z hz).2⟩, fun h => (by cases h)⟩) trivial (fun y hy => by
              cases hy
              exact ⟨(gf z hz).1, und.1⟩) und.2 usm
            refine ⟨_, _, _, _, _, us, xs ++ [.ref t7], as ++ [.ls z], rfl, bb, st2.but bb ((hd6.same s7).upd nNh (hand_ne2 hd2 nNH)), (upd_ne nFN).trans (s7 _ _ eF6), by omega, fun y hy => hfr y (usm y hy), upd_same, ?_, ao2⟩
            refine dpa_but eN7 (fun b o hb e => (upd_ne hb).trans e) _ _ (ars_noL ao2.ok) ?_
            rw [List.map_append]
            exact dpa_snoc (dpa_same s7 _ _ dN6) (dp_tup2 e7 (.str _) (.str _))
    · obtain ⟨y7, y8, y9, y10, y11, fr, xs, as, rfl, bG, stG, eF, zf, hfr, eN, dN, ao⟩ := hP
      rw [hyl] at ao
      have hal : as.length = kk.ps.length := ao.len
      refine ⟨_, rfl, a.c, _, _, _, rfl, rfl, SqL.of stG.cx.c, atI_nat (j := 3) rfl, _, rfl, h, d, ds, 2, rfl, by decide, stG.hd, fun r5 H5 q0 q1 b5 hd5 _ => ?_⟩
      have st5 := stG.but b5 hd5
      obtain ⟨v, hv, e⟩ := atI_in (xs := [.str x.c5, .str x.c6]) (i := r5) q0 (by show _ < (2 : Int); omega)
      obtain ⟨yy, rfl, hyy⟩ : ∃ yy, v = .str yy ∧ yy ∈ x.vs := by
        have hvs : x.vs = x.c5 :: x.c6 :: x.ns := by
          unfold Cd.vs
          rw [if_pos hxb]
        simp only [List.mem_cons, List.not_mem_nil, or_false] at hv
        rcases hv with rfl | rfl <;> exact ⟨_, rfl, by rw [hvs]; simp⟩
      have hN5 := b5 _ _ nNh eN
      have dN5 := (by
        obtain ⟨⟨i, e⟩, _, _⟩ := stG.hd
        exact dpa_but e b5 _ _ (ars_noL ao.ok) dN : DpAll K H5 xs (as.map Ar.enc))
      refine ⟨a.Cn, _, _, _, rfl, rfl, SqL.of st5.cx.cn, e, _, rfl, _, rfl, N, xs, rfl, .inl ⟨SqL.of hN5, fun tt nt => ?_⟩⟩
      generalize hG6 : upd H5 tt _ = H6
      obtain ⟨s6, e6⟩ := new_of nt hG6
      refine ⟨by show 5 ≤ sizeLine; decide, fun t7 n7 => ?_⟩
      generalize hG7 : upd H6 t7 _ = H7
      obtain ⟨s7, e7⟩ := new_of n7 hG7
      have d6 : Dp K H7 (.ref tt) (.tuple (as.map Ar.enc)) := .tup (SqT.of (s7 _ _ e6)) (dpa_same (s6.trans s7) _ _ dN5)
      exact q _ (.cal 0 yy kk.nm as) H7 (b2.trans (bG.trans (b5.trans (Same.but (s6.trans s7))))) (st5.same (s6.trans s7)) (.tup (SqT.of e7) (.cons (.str _) (.cons (.int _) (.cons (.str _) (.cons (.str _) (.cons d6 .nil)))))) ao.ok ⟨hyy, ao.nd, kk, hmk, rfl, hal, ao.fit⟩
end
end SW

namespace SW
open PySem PySem.Spec PyProof.Rows L2
abbrev s_l_gen_simple : Stmt := topS 45
theorem sc_l_gen_simple : FnScope ["hand", "ctx", "kind", "name", "low", "high"] ["hand", "ctx"] (defScope s_l_gen_simple) := ⟨rfl, rfl, rfl, by decide +kernel, rfl, by decide +kernel, by decide +kernel⟩

section
variable {P : Program} {w : World} {K : PySem.W.Frag} {mg : PySem.Str → Option Value} {base : Heap}
theorem out_of {z : PySem.Str} {ws : List PySem.Str} (h : ¬ (if false = true then !inV (.str z) (ws.map V.str) else inV (.str z) (ws.map V.str)) = true) : z ∉ ws := by
  rw [if_neg Bool.false_ne_true, inV_strs] at h
  exact fun hm => h (decide_eq_true hm)
theorem ok_l_simple (T : TxB mg) (D_l_gen_simple : Df K mg "_law_gen_simple" s_l_gen_simple ["hand", "ctx"]) (D_l_gen_call : Df K mg "_law_gen_call" s_l_gen_call ["hand", "ctx"]) (D_l_gen_term : Df K mg "_law_gen_term" s_l_gen_term ["hand", "ctx"]) (D_l_gen_index : Df K mg "_law_gen_index" s_l_gen_index ["hand", "ctx", "name"]) (D_l_gen_plain : Df K mg "_law_gen_plain" s_l_gen_plain ["hand", "ctx"]) (D_l_take : Df K mg "_law_take" s_l_take ["hand", "many"]) : FnOk P w K mg base CX0 5 D_l_gen_simple.f D_l_gen_simple.fd ["hand", "ctx"] (spS K fun x => x.b = true ∧ x.ls.Nodup) := by
  have G_l_take := ok_l_take (P := P) (w := w) (K := K) (base := base) T D_l_take
  have G_l_gen_plain := ok_l_plain (P := P) (w := w) (K := K) (base := base) T D_l_gen_plain D_l_take
  have G_l_gen_index := ok_l_index (P := P) (w := w) (K := K) (base := base) T D_l_gen_index D_l_gen_plain D_l_take
  have G_l_gen_term := ok_l_term (P := P) (w := w) (K := K) (base := base) T D_l_gen_term D_l_gen_index D_l_gen_plain D_l_take
  have G_l_gen_call := ok_l_call (P := P) (w := w) (K := K) (base := base) T D_l_gen_call D_l_gen_plain D_l_take
  refine D_l_gen_simple.F.ok sc_l_gen_simple (fun vs H Q E h => ?_) (fun cdv A outer s H vs Q E hr h => ?_)
  · obtain ⟨h, d, ds, a, x, r, rfl, _⟩ := h
    rfl
  · obtain ⟨h, d, ds, a, x, r, rfl, st, ⟨hxb, hlnd⟩, hps, q⟩ := h
    have hvs : x.vs = x.c5 :: x.c6 :: x.ns := by
      unfold Cd.vs
      rw [if_pos hxb]
    refine ⟨_, (pss_cons (ps_set (i := 2) sc_l_gen_simple.nd rfl (.inl rfl) (pe_call G_l_take (hr.mono (by decide)) (by rfl) D_l_take.g D_l_take.F.kp D_l_take.b .nil pass0 (pa_cons (pv 0) (pa_cons pe_int pa_nil))))
    (pss_cons (ps_if (PW.pt (pw_and (pt_cmpR op_lt (pv 2) pe_int (nomark _)) (pw_and1 (pt_cmpR op_gt (pe_callB call_len_seq (by rfl) T.n_len PySem.boot_len (pa_cons (pe_ix ix_list (pv 1) pe_int (fun _ _ => rfl)) pa_nil)) pe_int (nomark _)))))
    (pss_one (ps_ret (pe_call G_l_gen_call (hr.mono (by decide)) (by rfl) D_l_gen_call.g D_l_gen_call.F.kp D_l_gen_call.b .nil pass0 (pa_cons (pv 0) (pa_cons (pv 1) pa_nil)))))
    pss_nil)
    (pss_cons (ps_if (PW.pt (pw_and (pt_cmpR op_lt (pv 2) pe_int (nomark _)) (pw_and1 (pt_cmpR op_gt (pe_callB call_len_seq (by rfl) T.n_len PySem.boot_len (pa_cons (pe_ix ix_list (pv 1) pe_int (fun _ _ => rfl)) pa_nil)) pe_int (nomark _)))))
    (pss_cons (ps_set (i := 3) sc_l_gen_simple.nd rfl (.inl rfl) (pe_ix ix_list (pe_ix ix_list (pv 1) pe_int (fun _ _ => rfl)) (pe_call G_l_take (hr.mono (by decide)) (by rfl) D_l_take.g D_l_take.F.kp D_l_take.b .nil pass0 (pa_cons (pv 0) (pa_cons (pe_callB call_len_seq (by rfl) T.n_len PySem.boot_len (pa_cons (pe_ix ix_list (pv 1) pe_int (fun _ _ => rfl)) pa_nil)) pa_nil))) (fun _ _ => rfl)))
    (pss_cons (ps_if (PW.pt (pw_or (pt_cmpR op_eq (pv 2) pe_int (nomark _)) (pw_or1 (pt_cmpR op_in_seq (pv 3) (pe_ix ix_list (pv 1) pe_int (fun _ _ => rfl)) (by rfl)))))
    (pss_one (ps_ret (pe_tup (pa_cons pe_str (pa_cons pe_int (pa_cons (pv 3) (pa_cons (pe_call G_l_gen_index (hr.mono (by decide)) (by rfl) D_l_gen_index.g D_l_gen_index.F.kp D_l_gen_index.b .nil pass0 (pa_cons (pv 0) (pa_cons (pv 1) (pa_cons (pv 3) pa_nil)))) (pa_cons (pe_call G_l_gen_index (hr.mono (by decide)) (by rfl) D_l_gen_index.g D_l_gen_index.F.kp D_l_gen_index.b .nil pass0 (pa_cons (pv 0) (pa_cons (pv 1) (pa_cons (pv 3) pa_nil)))) pa_nil))))))))
    pss_nil)
    (pss_one (ps_ret (pe_tup (pa_cons pe_str (pa_cons pe_int (pa_cons (pv 3) (pa_cons (pe_call G_l_gen_index (hr.mono (by decide)) (by rfl) D_l_gen_index.g D_l_gen_index.F.kp D_l_gen_index.b .nil pass0 (pa_cons (pv 0) (pa_cons (pv 1) (pa_cons (pv 3) pa_nil)))) (pa_cons (pe_call G_l_gen_term (hr.mono (by decide)) (by rfl) D_l_gen_term.g D_l_gen_term.F.kp D_l_gen_term.b .nil pass0 (pa_cons (pv 0) (pa_cons (pv 1) pa_nil))) pa_nil))))))))))
    pss_nil)
    (pss_cons (ps_if (pt_cmpR op_eq (pv 2) pe_int (nomark _))
    (pss_cons (ps_set (i := 4) sc_l_gen_simple.nd rfl (.inl rfl) (pe_ix ix_list (pe_lst (pa_cons (pe_tup (pa_cons pe_str (pa_cons (pe_op op_sub (pe_call G_l_take (hr.mono (by decide)) (by rfl) D_l_take.g D_l_take.F.kp D_l_take.b .nil pass0 (pa_cons (pv 0) (pa_cons pe_int pa_nil))) pe_int) pa_nil))) (pa_cons (pe_call G_l_gen_plain (hr.mono (by decide)) (by rfl) D_l_gen_plain.g D_l_gen_plain.F.kp D_l_gen_plain.b .nil pass0 (pa_cons (pv 0) (pa_cons (pv 1) pa_nil))) pa_nil))) (pe_op op_fdiv (pe_call G_l_take (hr.mono (by decide)) (by rfl) D_l_take.g D_l_take.F.kp D_l_take.b .nil pass0 (pa_cons (pv 0) (pa_cons pe_int pa_nil))) pe_int) (fun _ _ => rfl)))
    (pss_cons (ps_set (i := 5) sc_l_gen_simple.nd rfl (.inl rfl) (pe_ix ix_list (pe_lst (pa_cons (pe_tup (pa_cons pe_str (pa_cons (pe_op op_add pe_int (pe_call G_l_take (hr.mono (by decide)) (by rfl) D_l_take.g D_l_take.F.kp D_l_take.b .nil pass0 (pa_cons (pv 0) (pa_cons pe_int pa_nil)))) pa_nil))) (pa_cons (pe_call G_l_gen_plain (hr.mono (by decide)) (by rfl) D_l_gen_plain.g D_l_gen_plain.F.kp D_l_gen_plain.b .nil pass0 (pa_cons (pv 0) (pa_cons (pv 1) pa_nil))) pa_nil))) (pe_op op_fdiv (pe_call G_l_take (hr.mono (by decide)) (by rfl) D_l_take.g D_l_take.F.kp D_l_take.b .nil pass0 (pa_cons (pv 0) (pa_cons pe_int pa_nil))) pe_int) (fun _ _ => rfl)))
    (pss_one (ps_ret (pe_tup (pa_cons pe_str (pa_cons pe_int (pa_cons (pe_ix ix_list (pe_ix ix_list (pv 1) pe_int (fun _ _ => rfl)) (pe_call G_l_take (hr.mono (by decide)) (by rfl) D_l_take.g D_l_take.F.kp D_l_take.b .nil pass0 (pa_cons (pv 0) (pa_cons pe_int pa_nil))) (fun _ _ => rfl)) (pa_cons (pv 4) (pa_cons (pv 5) pa_nil))))))))))
    pss_nil)
    (pss_cons (ps_if (pt_cmpR op_eq (pv 2) pe_int (nomark _))
    (pss_one (ps_ret (pe_tup (pa_cons pe_str (pa_cons pe_int pa_nil)))))
    pss_nil)
    (pss_one (ps_ret (pe_tup (pa_cons pe_str (pa_cons pe_int (pa_cons (pe_ix ix_list (pe_ix ix_list (pv 1) pe_int (fun _ _ => rfl)) (pe_call G_l_take (hr.mono (by decide)) (by rfl) D_l_take.g D_l_take.F.kp D_l_take.b .nil pass0 (pa_cons (pv 0) (pa_cons pe_int pa_nil))) (fun _ _ => rfl)) (pa_cons (pe_call G_l_gen_term (hr.mono (by decide)) (by rfl) D_l_gen_term.g D_l_gen_term.F.kp D_l_gen_term.b .nil pass0 (pa_cons (pv 0) (pa_cons (pv 1) pa_nil))) pa_nil)))))))))))), ?_⟩
    refine ⟨_, rfl, h, d, ds, 9, rfl, by decide, st.hd, fun k H2 k0 k1 b2 hd2 _ => ?_⟩
    have st2 := st.but b2 hd2
    obtain ⟨xk, ek, dk⟩ := st2.cx.k
    have hxk : xk.length = x.kn.length := by rw [dpa_len dk, List.length_map]
    have zl := st.cx.zl
    -- the rest behind the first two tests
    have nm : ∀ {j : Int} {v : V} {i : Nat}, V.int j = v → v = V.int i → j = i := fun h1 h2 => V.int.inj (h1.trans h2)
    refine ⟨_, rfl, _, _, rfl, rfl, _, rfl, ite2 (fun c1 => ⟨_, rfl, a.c, _, _, _, rfl, rfl, SqL.of st2.cx.c, atI_nat (j := 2) rfl, a.Kd, _, rfl, .inl (SqL.of ek), _, _, rfl, rfl, _, rfl, ite2 (fun c2 => ?_) (fun c2 => ?_)⟩) (fun c1 => ?_)⟩
    · have hk2 := of_decide_eq_true c2
      refine ⟨_, rfl, _, rfl, h, d, ds, a, x, r, rfl, st2, ⟨fun e => ?_, hxb, hlnd⟩, hps, fun v s H3 b3 st3 d3 o3 m3 => q v s H3 (b2.trans b3) st3 d3 o3 m3⟩
      rw [e] at hxk
      rw [hxk] at hk2
      exact absurd hk2 (by decide)
    · refine ⟨_, rfl, _, _, rfl, rfl, _, rfl, ite2 (fun c3 => ⟨_, rfl, a.c, _, _, _, rfl, rfl, SqL.of st2.cx.c, atI_nat (j := 0) rfl, a.L, _, rfl, .inl (SqL.of st2.cx.l), _, _, rfl, rfl, _, rfl, ite2 (fun c4 => ?_) (fun c4 => ?_)⟩) (fun c3 => ?_)⟩
      · have hlp : 0 < x.ls.length := by
          have := of_decide_eq_true c4
          rw [List.length_map] at this
          omega
        refine ⟨_, rfl, a.c, _, _, _, rfl, rfl, SqL.of st2.cx.c, atI_nat (j := 0) rfl, _, rfl, _, rfl, a.c, _, _, _, rfl, rfl, SqL.of st2.cx.c, atI_nat (j := 0) rfl, a.L, _, rfl, .inl (SqL.of st2.cx.l), h, d, ds, _, rfl, by rw [List.length_map]; omega, st2.hd, fun r3 H3 q0 q1 b3 hd3 _ => ?_⟩
        rw [List.length_map] at q1
        have st3 := st2.but b3 hd3
        obtain ⟨v, hv, e⟩ := atI_in (xs := x.ls.map V.str) (i := r3) q0 (by rw [List.length_map]; exact q1)
        obtain ⟨z, hz, rfl⟩ := List.mem_map.mp hv
        have b23 := b2.trans b3
        refine ⟨a.L, _, _, _, rfl, rfl, SqL.of st3.cx.l, e, ?_⟩
        refine ⟨_, rfl, rfl, _, rfl, ite2 (fun c8 => ?_) (fun c8 => ⟨_, rfl, _, rfl, a.c, _, _, _, rfl, rfl, SqL.of st3.cx.c, atI_nat (j := 4) rfl, a.Mv, _, rfl, .inl (SqL.of st3.cx.m), rfl, flat_strs _, _, rfl, ite2 (fun c9 => ?_) (fun c9 => ?_)⟩)⟩
        · refine iteT ?_
          refine ⟨_, rfl, _, rfl, _, rfl, _, rfl, h, d, ds, a, x, r, z, rfl, st3, hxb, hz, fun v4 i4 H4 b4 st4 o4 k4 => ?_⟩
          refine ⟨_, rfl, _, rfl, _, rfl, h, d, ds, a, x, r, z, rfl, st4, hxb, hz, fun v5 i5 H5 b5 st5 o5 k5 => ?_⟩
          exact ⟨by show 5 ≤ sizeLine; decide, fun tz nz => fin_lst q (.inr rfl) (b23.trans (b4.trans b5)) st5 (fun _ s => .cons ((o4.hand st4.hd b5).same s) (.cons (o5.same s) .nil)) ⟨hz, .inl ⟨rfl, i4, i5, rfl, k4, k5⟩⟩ nz⟩
        · refine ⟨_, rfl, _, rfl, _, rfl, _, rfl, h, d, ds, a, x, r, z, rfl, st3, hxb, hz, fun v4 i4 H4 b4 st4 o4 k4 => ?_⟩
          refine ⟨_, rfl, _, rfl, _, rfl, h, d, ds, a, x, r, z, rfl, st4, hxb, hz, fun v5 i5 H5 b5 st5 o5 k5 => ?_⟩
          exact ⟨by show 5 ≤ sizeLine; decide, fun tz nz => fin_lst q (.inr rfl) (b23.trans (b4.trans b5)) st5 (fun _ s => .cons ((o4.hand st4.hd b5).same s) (.cons (o5.same s) .nil)) ⟨hz, .inl ⟨rfl, i4, i5, rfl, k4, k5⟩⟩ nz⟩
        · refine ⟨_, rfl, _, rfl, _, rfl, _, rfl, h, d, ds, a, x, r, z, rfl, st3, hxb, hz, fun v4 i4 H4 b4 st4 o4 k4 => ?_⟩
          refine ⟨_, rfl, _, rfl, h, d, ds, a, x, r, rfl, st4, fun v5 t5 H5 b5 st5 o5 k5 => ?_⟩
          exact ⟨by show 5 ≤ sizeLine; decide, fun tz nz => fin_lst q (.inl rfl) (b23.trans (b4.trans b5)) st5 (fun _ s => .cons ((o4.hand st4.hd b5).same s) (.cons (o5.same s) .nil)) ⟨hz, .inr ⟨rfl, out_of c9, i4, t5, rfl, k4, k5⟩⟩ nz⟩
      · refine ⟨_, rfl, rfl, _, rfl, ite2 (fun c5 => ?_) (fun c5 => ⟨_, rfl, rfl, _, rfl, ite2 (fun c6 => ?_) (fun c6 => ?_)⟩)⟩
        · refine ⟨_, rfl, h, d, ds, 3, rfl, by decide, st2.hd, fun r1 A1 _ _ ba1 hda1 _ => ⟨_, _, rfl, rfl, by show 2 ≤ sizeLine; decide, fun t1 n1 => ?_⟩⟩
          generalize hGB1 : upd A1 t1 _ = B1
          obtain ⟨sB1, eB1⟩ := new_of n1 hGB1
          have stB1 := (st2.but ba1 hda1).same sB1
          have oB1 : Od K B1 (.ref t1) (Pl.num (r1 - 1)).enc := .tup eB1 (.cons (.str _) (.cons (.int _) .nil))
          refine ⟨_, rfl, _, rfl, h, d, ds, a, x, r, rfl, stB1, fun v1 tp1 C1 bC1 stC1 oC1 kC1 => ⟨by show 2 ≤ sizeLine; decide, fun l1 m1 => ?_⟩⟩
          have oC1 : Od K C1 v1 tp1.enc := ⟨oC1, noL_pl _⟩
          generalize hGD1 : upd C1 l1 _ = D1
          obtain ⟨sD1, eD1⟩ := new_of m1 hGD1
          refine ⟨_, rfl, h, d, ds, 4, rfl, by decide, (stC1.same sD1).hd, fun r'1 E1 q01 q11 bE1 hdE1 _ => ?_⟩
          have stE1 := (stC1.same sD1).but bE1 hdE1
          obtain ⟨w1, hw1, e1⟩ := atI_in (xs := [.ref t1, v1]) (i := r'1 / 3) (by omega) (by show _ < (2 : Int); omega)
          obtain ⟨p1, oW1, kW1⟩ : ∃ p : Pl, Od K E1 w1 p.enc ∧ p.ok x.vs x.ls := by
            simp only [List.mem_cons, List.not_mem_nil, or_false] at hw1
            rcases hw1 with rfl | rfl
            · exact ⟨_, ((oB1.hand stB1.hd bC1).same sD1).hand (stC1.same sD1).hd bE1, trivial⟩
            · exact ⟨tp1, (oC1.same sD1).hand (stC1.same sD1).hd bE1, Pl.up kC1⟩
          have bb1 := b2.trans (ba1.trans ((Same.but sB1).trans (bC1.trans ((Same.but sD1).trans bE1))))
          have bx1 := ba1.trans ((Same.but sB1).trans (bC1.trans ((Same.but sD1).trans bE1)))
          refine ⟨_, _, rfl, rfl, ⟨by decide, by decide⟩, l1, _, _, _, rfl, rfl, SqL.of (bE1 _ _ (hand_ne stC1.hd m1) eD1), e1, ?_⟩
          refine ⟨_, rfl, h, d, ds, 4, rfl, by decide, stE1.hd, fun r2 A2 _ _ ba2 hda2 _ => ⟨_, _, rfl, rfl, by show 2 ≤ sizeLine; decide, fun t2 n2 => ?_⟩⟩
          generalize hGB2 : upd A2 t2 _ = B2
          obtain ⟨sB2, eB2⟩ := new_of n2 hGB2
          have stB2 := (stE1.but ba2 hda2).same sB2
          have oB2 : Od K B2 (.ref t2) (Pl.num (2 + r2)).enc := .tup eB2 (.cons (.str _) (.cons (.int _) .nil))
          refine ⟨_, rfl, _, rfl, h, d, ds, a, x, r, rfl, stB2, fun v2 tp2 C2 bC2 stC2 oC2 kC2 => ⟨by show 2 ≤ sizeLine; decide, fun l2 m2 => ?_⟩⟩
          have oC2 : Od K C2 v2 tp2.enc := ⟨oC2, noL_pl _⟩
          generalize hGD2 : upd C2 l2 _ = D2
          obtain ⟨sD2, eD2⟩ := new_of m2 hGD2
          refine ⟨_, rfl, h, d, ds, 4, rfl, by decide, (stC2.same sD2).hd, fun r'2 E2 q02 q12 bE2 hdE2 _ => ?_⟩
          have stE2 := (stC2.same sD2).but bE2 hdE2
          obtain ⟨w2, hw2, e2⟩ := atI_in (xs := [.ref t2, v2]) (i := r'2 / 3) (by omega) (by show _ < (2 : Int); omega)
          obtain ⟨p2, oW2, kW2⟩ : ∃ p : Pl, Od K E2 w2 p.enc ∧ p.ok x.vs x.ls := by
            simp only [List.mem_cons, List.not_mem_nil, or_false] at hw2
            rcases hw2 with rfl | rfl
            · exact ⟨_, ((oB2.hand stB2.hd bC2).same sD2).hand (stC2.same sD2).hd bE2, trivial⟩
            · exact ⟨tp2, (oC2.same sD2).hand (stC2.same sD2).hd bE2, Pl.up kC2⟩
          have bb2 := bb1.trans (ba2.trans ((Same.but sB2).trans (bC2.trans ((Same.but sD2).trans bE2))))
          have bx2 := ba2.trans ((Same.but sB2).trans (bC2.trans ((Same.but sD2).trans bE2)))
          refine ⟨_, _, rfl, rfl, ⟨by decide, by decide⟩, l2, _, _, _, rfl, rfl, SqL.of (bE2 _ _ (hand_ne stC2.hd m2) eD2), e2, ?_⟩
          refine ⟨_, rfl, a.c, _, _, _, rfl, rfl, SqL.of stE2.cx.c, atI_nat (j := 3) rfl, _, rfl, h, d, ds, 2, rfl, by decide, stE2.hd, fun r9 H9 q0 q1 b9 hd9 _ => ?_⟩
          have st9 := stE2.but b9 hd9
          obtain ⟨v, hv, e⟩ := atI_in (xs := [.str x.c5, .str x.c6]) (i := r9) q0 (by show _ < (2 : Int); omega)
          have ov : ∃ y, v = .str y ∧ y ∈ x.vs := by
            simp only [List.mem_cons, List.not_mem_nil, or_false] at hv
            rcases hv with rfl | rfl <;> exact ⟨_, rfl, by rw [hvs]; simp⟩
          obtain ⟨y, rfl, hy⟩ := ov
          have oW1 := (oW1.hand stE1.hd bx2).hand stE2.hd b9
          have oW2 := oW2.hand stE2.hd b9
          exact ⟨a.Cn, _, _, _, rfl, rfl, SqL.of st9.cx.cn, e, _, rfl, _, rfl, by show 5 ≤ sizeLine; decide, fun tz nz => fin_st q (by decide +kernel) (bb2.trans b9) st9 (fun _ s => .cons (.str y) (.cons (oW1.same s) (.cons (oW2.same s) .nil))) (.inr (.inl ⟨rfl, y, p1, p2, rfl, hy, kW1, kW2⟩)) nz⟩
        · exact ⟨by show 2 ≤ sizeLine; decide, fun tz nz => fin_st q (by decide +kernel) b2 st2 (fun _ _ => .nil) (.inr (.inr (.inr (.inl ⟨rfl, rfl⟩)))) nz⟩
        · refine ⟨_, rfl, a.c, _, _, _, rfl, rfl, SqL.of st2.cx.c, atI_nat (j := 3) rfl, _, rfl, h, d, ds, 2, rfl, by decide, st2.hd, fun r9 H9 q0 q1 b9 hd9 _ => ?_⟩
          have st9 := st2.but b9 hd9
          obtain ⟨v, hv, e⟩ := atI_in (xs := [.str x.c5, .str x.c6]) (i := r9) q0 (by show _ < (2 : Int); omega)
          have ov : ∃ y, v = .str y ∧ y ∈ x.vs := by
            simp only [List.mem_cons, List.not_mem_nil, or_false] at hv
            rcases hv with rfl | rfl <;> exact ⟨_, rfl, by rw [hvs]; simp⟩
          obtain ⟨y, rfl, hy⟩ := ov
          refine ⟨a.Cn, _, _, _, rfl, rfl, SqL.of st9.cx.cn, e, _, rfl, _, rfl, h, d, ds, a, x, r, rfl, st9, fun v4 t4 H4 b4 st4 o4 k4 => ?_⟩
          exact ⟨by show 4 ≤ sizeLine; decide, fun tz nz => fin_st q (by decide +kernel) (b2.trans (b9.trans b4)) st4 (fun _ s => .cons (.str y) (.cons (o4.same s) .nil)) (.inl ⟨rfl, y, t4, rfl, hy, k4⟩) nz⟩
      · refine iteF ?_
        refine ⟨_, rfl, rfl, _, rfl, ite2 (fun c5 => ?_) (fun c5 => ⟨_, rfl, rfl, _, rfl, ite2 (fun c6 => ?_) (fun c6 => ?_)⟩)⟩
        · refine ⟨_, rfl, h, d, ds, 3, rfl, by decide, st2.hd, fun r1 A1 _ _ ba1 hda1 _ => ⟨_, _, rfl, rfl, by show 2 ≤ sizeLine; decide, fun t1 n1 => ?_⟩⟩
          generalize hGB1 : upd A1 t1 _ = B1
          obtain ⟨sB1, eB1⟩ := new_of n1 hGB1
          have stB1 := (st2.but ba1 hda1).same sB1
          have oB1 : Od K B1 (.ref t1) (Pl.num (r1 - 1)).enc := .tup eB1 (.cons (.str _) (.cons (.int _) .nil))
          refine ⟨_, rfl, _, rfl, h, d, ds, a, x, r, rfl, stB1, fun v1 tp1 C1 bC1 stC1 oC1 kC1 => ⟨by show 2 ≤ sizeLine; decide, fun l1 m1 => ?_⟩⟩
          have oC1 : Od K C1 v1 tp1.enc := ⟨oC1, noL_pl _⟩
          generalize hGD1 : upd C1 l1 _ = D1
          obtain ⟨sD1, eD1⟩ := new_of m1 hGD1
          refine ⟨_, rfl, h, d, ds, 4, rfl, by decide, (stC1.same sD1).hd, fun r'1 E1 q01 q11 bE1 hdE1 _ => ?_⟩
          have stE1 := (stC1.same sD1).but bE1 hdE1
          obtain ⟨w1, hw1, e1⟩ := atI_in (xs := [.ref t1, v1]) (i := r'1 / 3) (by omega) (by show _ < (2 : Int); omega)
          obtain ⟨p1, oW1, kW1⟩ : ∃ p : Pl, Od K E1 w1 p.enc ∧ p.ok x.vs x.ls := by
            simp only [List.mem_cons, List.not_mem_nil, or_false] at hw1
            rcases hw1 with rfl | rfl
            · exact ⟨_, ((oB1.hand stB1.hd bC1).same sD1).hand (stC1.same sD1).hd bE1, trivial⟩
            · exact ⟨tp1, (oC1.same sD1).hand (stC1.same sD1).hd bE1, Pl.up kC1⟩
          have bb1 := b2.trans (ba1.trans ((Same.but sB1).trans (bC1.trans ((Same.but sD1).trans bE1))))
          have bx1 := ba1.trans ((Same.but sB1).trans (bC1.trans ((Same.but sD1).trans bE1)))
          refine ⟨_, _, rfl, rfl, ⟨by decide, by decide⟩, l1, _, _, _, rfl, rfl, SqL.of (bE1 _ _ (hand_ne stC1.hd m1) eD1), e1, ?_⟩
          refine ⟨_, rfl, h, d, ds, 4, rfl, by decide, stE1.hd, fun r2 A2 _ _ ba2 hda2 _ => ⟨_, _, rfl, rfl, by show 2 ≤ sizeLine; decide, fun t2 n2 => ?_⟩⟩
          generalize hGB2 : upd A2 t2 _ = B2
          obtain ⟨sB2, eB2⟩ := new_of n2 hGB2
          have stB2 := (stE1.but ba2 hda2).same sB2
          have oB2 : Od K B2 (.ref t2) (Pl.num (2 + r2)).enc := .tup eB2 (.cons (.str _) (.cons (.int _) .nil))
          refine ⟨_, rfl, _, rfl, h, d, ds, a, x, r, rfl, stB2, fun v2 tp2 C2 bC2 stC2 oC2 kC2 => ⟨by show 2 ≤ sizeLine; decide, fun l2 m2 => ?_⟩⟩
          have oC2 : Od K C2 v2 tp2.enc := ⟨oC2, noL_pl _⟩
          generalize hGD2 : upd C2 l2 _ = D2
          obtain ⟨sD2, eD2⟩ := new_of m2 hGD2
          refine ⟨_, rfl, h, d, ds, 4, rfl, by decide, (stC2.same sD2).hd, fun r'2 E2 q02 q12 bE2 hdE2 _ => ?_⟩
          have stE2 := (stC2.same sD2).but bE2 hdE2
          obtain ⟨w2, hw2, e2⟩ := atI_in (xs := [.ref t2, v2]) (i := r'2 / 3) (by omega) (by show _ < (2 : Int); omega)
          obtain ⟨p2, oW2, kW2⟩ : ∃ p : Pl, Od K E2 w2 p.enc ∧ p.ok x.vs x.ls := by
            simp only [List.mem_cons, List.not_mem_nil, or_false] at hw2
            rcases hw2 with rfl | rfl
            · exact ⟨_, ((oB2.hand stB2.hd bC2).same sD2).hand (stC2.same sD2).hd bE2, trivial⟩
            · exact ⟨tp2, (oC2.same sD2).hand (stC2.same sD2).hd bE2, Pl.up kC2⟩
          have bb2 := bb1.trans (ba2.trans ((Same.but sB2).trans (bC2.trans ((Same.but sD2).trans bE2))))
          have bx2 := ba2.trans ((Same.but sB2).trans (bC2.trans ((Same.but sD2).trans bE2)))
          refine ⟨_, _, rfl, rfl, ⟨by decide, by decide⟩, l2, _, _, _, rfl, rfl, SqL.of (bE2 _ _ (hand_ne stC2.hd m2) eD2), e2, ?_⟩
          refine ⟨_, rfl, a.c, _, _, _, rfl, rfl, SqL.of stE2.cx.c, atI_nat (j := 3) rfl, _, rfl, h, d, ds, 2, rfl, by decide, stE2.hd, fun r9 H9 q0 q1 b9 hd9 _ => ?_⟩
          have st9 := stE2.but b9 hd9
          obtain ⟨v, hv, e⟩ := atI_in (xs := [.str x.c5, .str x.c6]) (i := r9) q0 (by show _ < (2 : Int); omega)
          have ov : ∃ y, v = .str y ∧ y ∈ x.vs := by
            simp only [List.mem_cons, List.not_mem_nil, or_false] at hv
            rcases hv with rfl | rfl <;> exact ⟨_, rfl, by rw [hvs]; simp⟩
          obtain ⟨y, rfl, hy⟩ := ov
          have oW1 := (oW1.hand stE1.hd bx2).hand stE2.hd b9
          have oW2 := oW2.hand stE2.hd b9
          exact ⟨a.Cn, _, _, _, rfl, rfl, SqL.of st9.cx.cn, e, _, rfl, _, rfl, by show 5 ≤ sizeLine; decide, fun tz nz => fin_st q (by decide +kernel) (bb2.trans b9) st9 (fun _ s => .cons (.str y) (.cons (oW1.same s) (.cons (oW2.same s) .nil))) (.inr (.inl ⟨rfl, y, p1, p2, rfl, hy, kW1, kW2⟩)) nz⟩
        · exact ⟨by show 2 ≤ sizeLine; decide, fun tz nz => fin_st q (by decide +kernel) b2 st2 (fun _ _ => .nil) (.inr (.inr (.inr (.inl ⟨rfl, rfl⟩)))) nz⟩
        · refine ⟨_, rfl, a.c, _, _, _, rfl, rfl, SqL.of st2.cx.c, atI_nat (j := 3) rfl, _, rfl, h, d, ds, 2, rfl, by decide, st2.hd, fun r9 H9 q0 q1 b9 hd9 _ => ?_⟩
          have st9 := st2.but b9 hd9
          obtain ⟨v, hv, e⟩ := atI_in (xs := [.str x.c5, .str x.c6]) (i := r9) q0 (by show _ < (2 : Int); omega)
          have ov : ∃ y, v = .str y ∧ y ∈ x.vs := by
            simp only [List.mem_cons, List.not_mem_nil, or_false] at hv
            rcases hv with rfl | rfl <;> exact ⟨_, rfl, by rw [hvs]; simp⟩
          obtain ⟨y, rfl, hy⟩ := ov
          refine ⟨a.Cn, _, _, _, rfl, rfl, SqL.of st9.cx.cn, e, _, rfl, _, rfl, h, d, ds, a, x, r, rfl, st9, fun v4 t4 H4 b4 st4 o4 k4 => ?_⟩
          exact ⟨by show 4 ≤ sizeLine; decide, fun tz nz => fin_st q (by decide +kernel) (b2.trans (b9.trans b4)) st4 (fun _ s => .cons (.str y) (.cons (o4.same s) .nil)) (.inl ⟨rfl, y, t4, rfl, hy, k4⟩) nz⟩
    · refine iteF ?_
      refine ⟨_, rfl, _, _, rfl, rfl, _, rfl, ite2 (fun c3 => ⟨_, rfl, a.c, _, _, _, rfl, rfl, SqL.of st2.cx.c, atI_nat (j := 0) rfl, a.L, _, rfl, .inl (SqL.of st2.cx.l), _, _, rfl, rfl, _, rfl, ite2 (fun c4 => ?_) (fun c4 => ?_)⟩) (fun c3 => ?_)⟩
      · have hlp : 0 < x.ls.length := by
          have := of_decide_eq_true c4
          rw [List.length_map] at this
          omega
        refine ⟨_, rfl, a.c, _, _, _, rfl, rfl, SqL.of st2.cx.c, atI_nat (j := 0) rfl, _, rfl, _, rfl, a.c, _, _, _, rfl, rfl, SqL.of st2.cx.c, atI_nat (j := 0) rfl, a.L, _, rfl, .inl (SqL.of st2.cx.l), h, d, ds, _, rfl, by rw [List.length_map]; omega, st2.hd, fun r3 H3 q0 q1 b3 hd3 _ => ?_⟩
        rw [List.length_map] at q1
        have st3 := st2.but b3 hd3
        obtain ⟨v, hv, e⟩ := atI_in (xs := x.ls.map V.str) (i := r3) q0 (by rw [List.length_map]; exact q1)
        obtain ⟨z, hz, rfl⟩ := List.mem_map.mp hv
        have b23 := b2.trans b3
        refine ⟨a.L, _, _, _, rfl, rfl, SqL.of st3.cx.l, e, ?_⟩
        refine ⟨_, rfl, rfl, _, rfl, ite2 (fun c8 => ?_) (fun c8 => ⟨_, rfl, _, rfl, a.c, _, _, _, rfl, rfl, SqL.of st3.cx.c, atI_nat (j := 4) rfl, a.Mv, _, rfl, .inl (SqL.of st3.cx.m), rfl, flat_strs _, _, rfl, ite2 (fun c9 => ?_) (fun c9 => ?_)⟩)⟩
        · refine iteT ?_
          refine ⟨_, rfl, _, rfl, _, rfl, _, rfl, h, d, ds, a, x, r, z, rfl, st3, hxb, hz, fun v4 i4 H4 b4 st4 o4 k4 => ?_⟩
          refine ⟨_, rfl, _, rfl, _, rfl, h, d, ds, a, x, r, z, rfl, st4, hxb, hz, fun v5 i5 H5 b5 st5 o5 k5 => ?_⟩
          exact ⟨by show 5 ≤ sizeLine; decide, fun tz nz => fin_lst q (.inr rfl) (b23.trans (b4.trans b5)) st5 (fun _ s => .cons ((o4.hand st4.hd b5).same s) (.cons (o5.same s) .nil)) ⟨hz, .inl ⟨rfl, i4, i5, rfl, k4, k5⟩⟩ nz⟩
        · refine ⟨_, rfl, _, rfl, _, rfl, _, rfl, h, d, ds, a, x, r, z, rfl, st3, hxb, hz, fun v4 i4 H4 b4 st4 o4 k4 => ?_⟩
          refine ⟨_, rfl, _, rfl, _, rfl, h, d, ds, a, x, r, z, rfl, st4, hxb, hz, fun v5 i5 H5 b5 st5 o5 k5 => ?_⟩
          exact ⟨by show 5 ≤ sizeLine; decide, fun tz nz => fin_lst q (.inr rfl) (b23.trans (b4.trans b5)) st5 (fun _ s => .cons ((o4.hand st4.hd b5).same s) (.cons (o5.same s) .nil)) ⟨hz, .inl ⟨rfl, i4, i5, rfl, k4, k5⟩⟩ nz⟩
        · refine ⟨_, rfl, _, rfl, _, rfl, _, rfl, h, d, ds, a, x, r, z, rfl, st3, hxb, hz, fun v4 i4 H4 b4 st4 o4 k4 => ?_⟩
          refine ⟨_, rfl, _, rfl, h, d, ds, a, x, r, rfl, st4, fun v5 t5 H5 b5 st5 o5 k5 => ?_⟩
          exact ⟨by show 5 ≤ sizeLine; decide, fun tz nz => fin_lst q (.inl rfl) (b23.trans (b4.trans b5)) st5 (fun _ s => .cons ((o4.hand st4.hd b5).same s) (.cons (o5.same s) .nil)) ⟨hz, .inr ⟨rfl, out_of c9, i4, t5, rfl, k4, k5⟩⟩ nz⟩
      · refine ⟨_, rfl, rfl, _, rfl, ite2 (fun c5 => ?_) (fun c5 => ⟨_, rfl, rfl, _, rfl, ite2 (fun c6 => ?_) (fun c6 => ?_)⟩)⟩
        · refine ⟨_, rfl, h, d, ds, 3, rfl, by decide, st2.hd, fun r1 A1 _ _ ba1 hda1 _ => ⟨_, _, rfl, rfl, by show 2 ≤ sizeLine; decide, fun t1 n1 => ?_⟩⟩
          generalize hGB1 : upd A1 t1 _ = B1
          obtain ⟨sB1, eB1⟩ := new_of n1 hGB1
          have stB1 := (st2.but ba1 hda1).same sB1
          have oB1 : Od K B1 (.ref t1) (Pl.num (r1 - 1)).enc := .tup eB1 (.cons (.str _) (.cons (.int _) .nil))
          refine ⟨_, rfl, _, rfl, h, d, ds, a, x, r, rfl, stB1, fun v1 tp1 C1 bC1 stC1 oC1 kC1 => ⟨by show 2 ≤ sizeLine; decide, fun l1 m1 => ?_⟩⟩
          have oC1 : Od K C1 v1 tp1.enc := ⟨oC1, noL_pl _⟩
          generalize hGD1 : upd C1 l1 _ = D1
          obtain ⟨sD1, eD1⟩ := new_of m1 hGD1
          refine ⟨_, rfl, h, d, ds, 4, rfl, by decide, (stC1.same sD1).hd, fun r'1 E1 q01 q11 bE1 hdE1 _ => ?_⟩
          have stE1 := (stC1.same sD1).but bE1 hdE1
          obtain ⟨w1, hw1, e1⟩ := atI_in (xs := [.ref t1, v1]) (i := r'1 / 3) (by omega) (by show _ < (2 : Int); omega)
          obtain ⟨p1, oW1, kW1⟩ : ∃ p : Pl, Od K E1 w1 p.enc ∧ p.ok x.vs x.ls := by
            simp only [List.mem_cons, List.not_mem_nil, or_false] at hw1
            rcases hw1 with rfl | rfl
            · exact ⟨_, ((oB1.hand stB1.hd bC1).same sD1).hand (stC1.same sD1).hd bE1, trivial⟩
            · exact ⟨tp1, (oC1.same sD1).hand (stC1.same sD1).hd bE1, Pl.up kC1⟩
          have bb1 := b2.trans (ba1.trans ((Same.but sB1).trans (bC1.trans ((Same.but sD1).trans bE1))))
          have bx1 := ba1.trans ((Same.but sB1).trans (bC1.trans ((Same.but sD1).trans bE1)))
          refine ⟨_, _, rfl, rfl, ⟨by decide, by decide⟩, l1, _, _, _, rfl, rfl, SqL.of (bE1 _ _ (hand_ne stC1.hd m1) eD1), e1, ?_⟩
          refine ⟨_, rfl, h, d, ds, 4, rfl, by decide, stE1.hd, fun r2 A2 _ _ ba2 hda2 _ => ⟨_, _, rfl, rfl, by show 2 ≤ sizeLine; decide, fun t2 n2 => ?_⟩⟩
          generalize hGB2 : upd A2 t2 _ = B2
          obtain ⟨sB2, eB2⟩ := new_of n2 hGB2
          have stB2 := (stE1.but ba2 hda2).same sB2
          have oB2 : Od K B2 (.ref t2) (Pl.num (2 + r2)).enc := .tup eB2 (.cons (.str _) (.cons (.int _) .nil))
          refine ⟨_, rfl, _, rfl, h, d, ds, a, x, r, rfl, stB2, fun v2 tp2 C2 bC2 stC2 oC2 kC2 => ⟨by show 2 ≤ sizeLine; decide, fun l2 m2 => ?_⟩⟩
          have oC2 : Od K C2 v2 tp2.enc := ⟨oC2, noL_pl _⟩
          generalize hGD2 : upd C2 l2 _ = D2
          obtain ⟨sD2, eD2⟩ := new_of m2 hGD2
          refine ⟨_, rfl, h, d, ds, 4, rfl, by decide, (stC2.same sD2).hd, fun r'2 E2 q02 q12 bE2 hdE2 _ => ?_⟩
          have stE2 := (stC2.same sD2).but bE2 hdE2
          obtain ⟨w2, hw2, e2⟩ := atI_in (xs := [.ref t2, v2]) (i := r'2 / 3) (by omega) (by show _ < (2 : Int); omega)
          obtain ⟨p2, oW2, kW2⟩ : ∃ p : Pl, Od K E2 w2 p.enc ∧ p.ok x.vs x.ls := by
            simp only [List.mem_cons, List.not_mem_nil, or_false] at hw2
            rcases hw2 with rfl | rfl
            · exact ⟨_, ((oB2.hand stB2.hd bC2).same sD2).hand (stC2.same sD2).hd bE2, trivial⟩
            · exact ⟨tp2, (oC2.same sD2).hand (stC2.same sD2).hd bE2, Pl.up kC2⟩
          have bb2 := bb1.trans (ba2.trans ((Same.but sB2).trans (bC2.trans ((Same.but sD2).trans bE2))))
          have bx2 := ba2.trans ((Same.but sB2).trans (bC2.trans ((Same.but sD2).trans bE2)))
          refine ⟨_, _, rfl, rfl, ⟨by decide, by decide⟩, l2, _, _, _, rfl, rfl, SqL.of (bE2 _ _ (hand_ne stC2.hd m2) eD2), e2, ?_⟩
          refine ⟨_, rfl, a.c, _, _, _, rfl, rfl, SqL.of stE2.cx.c, atI_nat (j := 3) rfl, _, rfl, h, d, ds, 2, rfl, by decide, stE2.hd, fun r9 H9 q0 q1 b9 hd9 _ => ?_⟩
          have st9 := stE2.but b9 hd9
          obtain ⟨v, hv, e⟩ := atI_in (xs := [.str x.c5, .str x.c6]) (i := r9) q0 (by show _ < (2 : Int); omega)
          have ov : ∃ y, v = .str y ∧ y ∈ x.vs := by
            simp only [List.mem_cons, List.not_mem_nil, or_false] at hv
            rcases hv with rfl | rfl <;> exact ⟨_, rfl, by rw [hvs]; simp⟩
          obtain ⟨y, rfl, hy⟩ := ov
          have oW1 := (oW1.hand stE1.hd bx2).hand stE2.hd b9
          have oW2 := oW2.hand stE2.hd b9
          exact ⟨a.Cn, _, _, _, rfl, rfl, SqL.of st9.cx.cn, e, _, rfl, _, rfl, by show 5 ≤ sizeLine; decide, fun tz nz => fin_st q (by decide +kernel) (bb2.trans b9) st9 (fun _ s => .cons (.str y) (.cons (oW1.same s) (.cons (oW2.same s) .nil))) (.inr (.inl ⟨rfl, y, p1, p2, rfl, hy, kW1, kW2⟩)) nz⟩
        · exact ⟨by show 2 ≤ sizeLine; decide, fun tz nz => fin_st q (by decide +kernel) b2 st2 (fun _ _ => .nil) (.inr (.inr (.inr (.inl ⟨rfl, rfl⟩)))) nz⟩
        · refine ⟨_, rfl, a.c, _, _, _, rfl, rfl, SqL.of st2.cx.c, atI_nat (j := 3) rfl, _, rfl, h, d, ds, 2, rfl, by decide, st2.hd, fun r9 H9 q0 q1 b9 hd9 _ => ?_⟩
          have st9 := st2.but b9 hd9
          obtain ⟨v, hv, e⟩ := atI_in (xs := [.str x.c5, .str x.c6]) (i := r9) q0 (by show _ < (2 : Int); omega)
          have ov : ∃ y, v = .str y ∧ y ∈ x.vs := by
            simp only [List.mem_cons, List.not_mem_nil, or_false] at hv
            rcases hv with rfl | rfl <;> exact ⟨_, rfl, by rw [hvs]; simp⟩
          obtain ⟨y, rfl, hy⟩ := ov
          refine ⟨a.Cn, _, _, _, rfl, rfl, SqL.of st9.cx.cn, e, _, rfl, _, rfl, h, d, ds, a, x, r, rfl, st9, fun v4 t4 H4 b4 st4 o4 k4 => ?_⟩
          exact ⟨by show 4 ≤ sizeLine; decide, fun tz nz => fin_st q (by decide +kernel) (b2.trans (b9.trans b4)) st4 (fun _ s => .cons (.str y) (.cons (o4.same s) .nil)) (.inl ⟨rfl, y, t4, rfl, hy, k4⟩) nz⟩
      · refine iteF ?_
        refine ⟨_, rfl, rfl, _, rfl, ite2 (fun c5 => ?_) (fun c5 => ⟨_, rfl, rfl, _, rfl, ite2 (fun c6 => ?_) (fun c6 => ?_)⟩)⟩
        · refine ⟨_, rfl, h, d, ds, 3, rfl, by decide, st2.hd, fun r1 A1 _ _ ba1 hda1 _ => ⟨_, _, rfl, rfl, by show 2 ≤ sizeLine; decide, fun t1 n1 => ?_⟩⟩
          generalize hGB1 : upd A1 t1 _ = B1
          obtain ⟨sB1, eB1⟩ := new_of n1 hGB1
          have stB1 := (st2.but ba1 hda1).same sB1
          have oB1 : Od K B1 (.ref t1) (Pl.num (r1 - 1)).enc := .tup eB1 (.cons (.str _) (.cons (.int _) .nil))
          refine ⟨_, rfl, _, rfl, h, d, ds, a, x, r, rfl, stB1, fun v1 tp1 C1 bC1 stC1 oC1 kC1 => ⟨by show 2 ≤ sizeLine; decide, fun l1 m1 => ?_⟩⟩
          have oC1 : Od K C1 v1 tp1.enc := ⟨oC1, noL_pl _⟩
          generalize hGD1 : upd C1 l1 _ = D1
          obtain ⟨sD1, eD1⟩ := new_of m1 hGD1
          refine ⟨_, rfl, h, d, ds, 4, rfl, by decide, (stC1.same sD1).hd, fun r'1 E1 q01 q11 bE1 hdE1 _ => ?_⟩
          have stE1 := (stC1.same sD1).but bE1 hdE1
          obtain ⟨w1, hw1, e1⟩ := atI_in (xs := [.ref t1, v1]) (i := r'1 / 3) (by omega) (by show _ < (2 : Int); omega)
          obtain ⟨p1, oW1, kW1⟩ : ∃ p : Pl, Od K E1 w1 p.enc ∧ p.ok x.vs x.ls := by
            simp only [List.mem_cons, List.not_mem_nil, or_false] at hw1
            rcases hw1 with rfl | rfl
            · exact ⟨_, ((oB1.hand stB1.hd bC1).same sD1).hand (stC1.same sD1).hd bE1, trivial⟩
            · exact ⟨tp1, (oC1.same sD1).hand (stC1.same sD1).hd bE1, Pl.up kC1⟩
          have bb1 := b2.trans (ba1.trans ((Same.but sB1).trans (bC1.trans ((Same.but sD1).trans bE1))))
          have bx1 := ba1.trans ((Same.but sB1).trans (bC1.trans ((Same.but sD1).trans bE1)))
          refine ⟨_, _, rfl, rfl, ⟨by decide, by decide⟩, l1, _, _, _, rfl, rfl, SqL.of (bE1 _ _ (hand_ne stC1.hd m1) eD1), e1, ?_⟩
          refine ⟨_, rfl, h, d, ds, 4, rfl, by decide, stE1.hd, fun r2 A2 _ _ ba2 hda2 _ => ⟨_, _, rfl, rfl, by show 2 ≤ sizeLine; decide, fun t2 n2 => ?_⟩⟩
          generalize hGB2 : upd A2 t2 _ = B2
          obtain ⟨sB2, eB2⟩ := new_of n2 hGB2
          have stB2 := (stE1.but ba2 hda2).same sB2
          have oB2 : Od K B2 (.ref t2) (Pl.num (2 + r2)).enc := .tup eB2 (.cons (.str _) (.cons (.int _) .nil))
          refine ⟨_, rfl, _, rfl, h, d, ds, a, x, r, rfl, stB2, fun v2 tp2 C2 bC2 stC2 oC2 kC2 => ⟨by show 2 ≤ sizeLine; decide, fun l2 m2 => ?_⟩⟩
          have oC2 : Od K C2 v2 tp2.enc := ⟨oC2, noL_pl _⟩
          generalize hGD2 : upd C2 l2 _ = D2
          obtain ⟨sD2, eD2⟩ := new_of m2 hGD2
          refine ⟨_, rfl, h, d, ds, 4, rfl, by decide, (stC2.same sD2).hd, fun r'2 E2 q02 q12 bE2 hdE2 _ => ?_⟩
          have stE2 := (stC2.same sD2).but bE2 hdE2
          obtain ⟨w2, hw2, e2⟩ := atI_in (xs := [.ref t2, v2]) (i := r'2 / 3) (by omega) (by show _ < (2 : Int); omega)
          obtain ⟨p2, oW2, kW2⟩ : ∃ p : Pl, Od K E2 w2 p.enc ∧ p.ok x.vs x.ls := by
            simp only [List.mem_cons, List.not_mem_nil, or_false] at hw2
            rcases hw2 with rfl | rfl
            · exact ⟨_, ((oB2.hand stB2.hd bC2).same sD2).hand (stC2.same sD2).hd bE2, trivial⟩
            · exact ⟨tp2, (oC2.same sD2).hand (stC2.same sD2).hd bE2, Pl.up kC2⟩
          have bb2 := bb1.trans (ba2.trans ((Same.but sB2).trans (bC2.trans ((Same.but sD2).trans bE2))))
          have bx2 := ba2.trans ((Same.but sB2).trans (bC2.trans ((Same.but sD2).trans bE2)))
          refine ⟨_, _, rfl, rfl, ⟨by decide, by decide⟩, l2, _, _, _, rfl, rfl, SqL.of (bE2 _ _ (hand_ne stC2.hd m2) eD2), e2, ?_⟩
          refine ⟨_, rfl, a.c, _, _, _, rfl, rfl, SqL.of stE2.cx.c, atI_nat (j := 3) rfl, _, rfl, h, d, ds, 2, rfl, by decide, stE2.hd, fun r9 H9 q0 q1 b9 hd9 _ => ?_⟩
          have st9 := stE2.but b9 hd9
          obtain ⟨v, hv, e⟩ := atI_in (xs := [.str x.c5, .str x.c6]) (i := r9) q0 (by show _ < (2 : Int); omega)
          have ov : ∃ y, v = .str y ∧ y ∈ x.vs := by
            simp only [List.mem_cons, List.not_mem_nil, or_false] at hv
            rcases hv with rfl | rfl <;> exact ⟨_, rfl, by rw [hvs]; simp⟩
          obtain ⟨y, rfl, hy⟩ := ov
          have oW1 := (oW1.hand stE1.hd bx2).hand stE2.hd b9
          have oW2 := oW2.hand stE2.hd b9
          exact ⟨a.Cn, _, _, _, rfl, rfl, SqL.of st9.cx.cn, e, _, rfl, _, rfl, by show 5 ≤ sizeLine; decide, fun tz nz => fin_st q (by decide +kernel) (bb2.trans b9) st9 (fun _ s => .cons (.str y) (.cons (oW1.same s) (.cons (oW2.same s) .nil))) (.inr (.inl ⟨rfl, y, p1, p2, rfl, hy, kW1, kW2⟩)) nz⟩
        · exact ⟨by show 2 ≤ sizeLine; decide, fun tz nz => fin_st q (by decide +kernel) b2 st2 (fun _ _ => .nil) (.inr (.inr (.inr (.inl ⟨rfl, rfl⟩)))) nz⟩
        · refine ⟨_, rfl, a.c, _, _, _, rfl, rfl, SqL.of st2.cx.c, atI_nat (j := 3) rfl, _, rfl, h, d, ds, 2, rfl, by decide, st2.hd, fun r9 H9 q0 q1 b9 hd9 _ => ?_⟩
          have st9 := st2.but b9 hd9
          obtain ⟨v, hv, e⟩ := atI_in (xs := [.str x.c5, .str x.c6]) (i := r9) q0 (by show _ < (2 : Int); omega)
          have ov : ∃ y, v = .str y ∧ y ∈ x.vs := by
            simp only [List.mem_cons, List.not_mem_nil, or_false] at hv
            rcases hv with rfl | rfl <;> exact ⟨_, rfl, by rw [hvs]; simp⟩
          obtain ⟨y, rfl, hy⟩ := ov
          refine ⟨a.Cn, _, _, _, rfl, rfl, SqL.of st9.cx.cn, e, _, rfl, _, rfl, h, d, ds, a, x, r, rfl, st9, fun v4 t4 H4 b4 st4 o4 k4 => ?_⟩
          exact ⟨by show 4 ≤ sizeLine; decide, fun tz nz => fin_st q (by decide +kernel) (b2.trans (b9.trans b4)) st4 (fun _ s => .cons (.str y) (.cons (o4.same s) .nil)) (.inl ⟨rfl, y, t4, rfl, hy, k4⟩) nz⟩
end
end SW

namespace SW
open PySem PySem.Spec PyProof.Rows L2
/-! ### all as it was, but the hand and how many rows are left -/
def B2 (h R : Addr) (H H' : Hp) : Prop := ∀ b o, b ≠ h → b ≠ R → H b = some o → H' b = some o
theorem B2.refl (h R : Addr) (H : Hp) : B2 h R H H := fun _ _ _ _ e => e
theorem B2.trans {h R : Addr} {H G J : Hp} (a : B2 h R H G) (b : B2 h R G J) : B2 h R H J := fun c o h1 h2 e => b c o h1 h2 (a c o h1 h2 e)
theorem B2.but {h R : Addr} {H G : Hp} (a : But h H G) : B2 h R H G := fun c o h1 _ e => a c o h1 e
theorem B2.same {h R : Addr} {H G : Hp} (a : Same H G) : B2 h R H G := fun c o _ _ e => a c o e
theorem B2.ofR {h R : Addr} {H G : Hp} {o : HO} (e : upd H R o = G) : B2 h R H G := fun c u _ h2 q => by
  rw [← e, upd_ne h2]
  exact q
theorem B2.new {h R p : Addr} {H G : Hp} {o : HO} (a : B2 h R H G) (n : H p = none) : B2 h R H (upd G p o) := fun c u h1 h2 e => (upd_ne (ne_of_none e n)).trans (a c u h1 h2 e)
theorem B2.sqt {K : PySem.W.Frag} {H H' : Hp} {h R b : Addr} {ys zs xs : List V} (hl : H h = some (.lst ys)) (hr : H R = some (.lst zs)) (s : B2 h R H H') (hs : SqT K H b xs) : SqT K H' b xs := by
  rcases hs with (hs | ⟨o, hs⟩) | hs
  · exact .inl (.inl (s _ _ (fun e => by rw [e, hl] at hs; cases hs) (fun e => by rw [e, hr] at hs; cases hs) hs))
  · exact .inl (.inr ⟨o, s _ _ (fun e => by rw [e, hl] at hs; cases hs) (fun e => by rw [e, hr] at hs; cases hs) hs⟩)
  · exact .inr hs
section
variable {K : PySem.W.Frag} {H J G : Hp} {h d : Addr} {ds : List Int} {a : Ca} {x : Cd} {r r' : Int}
theorem St8.sqt (q : St8 K J h d ds a x r) (s : B2 h a.R J G) {b : Addr} {xs : List V} (e : SqT K J b xs) : SqT K G b xs := by
  obtain ⟨⟨⟨i, e1⟩, _, _⟩, c⟩ := q
  exact B2.sqt e1 c.r s e
theorem St8.dp (q : St8 K J h d ds a x r) (s : B2 h a.R J G) {d0 : PyData} {v : V} (n : noL d0 = true) (e : Dp K J v d0) : Dp K G v d0 := dp_tups (fun _ _ hs => q.sqt s hs) d0 v n e
theorem St8.dpa (q : St8 K J h d ds a x r) (s : B2 h a.R J G) {es : List PyData} {vs : List V} (n : noLs es = true) (e : DpAll K J vs es) : DpAll K G vs es := dpa_tups (fun _ _ hs => q.sqt s hs) es vs n e
theorem St8.op (q : St8 K J h d ds a x r) (s : B2 h a.R J G) {v : V} (o : Op K J v) : Op K G v := by
  obtain ⟨d0, h1, h2⟩ := o
  exact ⟨d0, q.dp s h2 h1, h2⟩
theorem St8.od (q : St8 K J h d ds a x r) (s : B2 h a.R J G) {v : V} {d0 : PyData} (o : Od K J v d0) : Od K G v d0 := ⟨q.dp s o.nl o.dp, o.nl⟩
theorem St8.neR (q : St8 K J h d ds a x r) : ∀ b, b ∈ ([a.c, a.L, a.N, a.Kd, a.Cn, a.Mv] : List Addr) → b ≠ a.R := by
  obtain ⟨_, c, l, n, ⟨xs, k1, k2⟩, cn, m, r, zl, zn, zk, zm⟩ := q
  have ns : ∀ {b : Addr} {ws : List PySem.Str}, J b = some (.lst (ws.map V.str)) → b ≠ a.R := fun {b ws} e1 e2 => by
    rw [e2, r] at e1
    have e1 := HO.lst.inj (Option.some.inj e1)
    cases ws with
    | nil => cases e1
    | cons y ys => cases e1
  intro b hb
  simp only [List.mem_cons, List.not_mem_nil, or_false] at hb
  rcases hb with rfl | rfl | rfl | rfl | rfl | rfl
  · intro e2
    rw [e2, r] at c
    cases c
  · exact ns l
  · exact ns n
  · intro e2
    rw [e2, r] at k1
    cases k1
    cases hk : x.kn with
    | nil =>
      rw [hk] at k2
      cases k2
    | cons k r =>
      rw [hk] at k2
      cases k2 with
      | cons k3 k4 => cases k3
  · intro e2
    rw [e2, r] at cn
    cases cn
  · exact ns m
theorem St8.b2 (q : St8 K J h d ds a x r) (s : B2 h a.R J G) (e : Hand G h d ds) (er : G a.R = some (.lst [.int r'])) : St8 K G h d ds a x r' := by
  have n1 := q.cx.hand_ne q.hd
  have n2 := q.neR
  have dk := fun es vs (n : noLs es = true) e => q.dpa s (es := es) (vs := vs) n e
  obtain ⟨_, c, l, n, ⟨xs, k1, k2⟩, cn, m, r, zl, zn, zk, zm⟩ := q
  exact ⟨e, s _ _ (n1 _ (by simp)) (n2 _ (by simp)) c, s _ _ (n1 _ (by simp)) (n2 _ (by simp)) l, s _ _ (n1 _ (by simp)) (n2 _ (by simp)) n, ⟨xs, s _ _ (n1 _ (by simp)) (n2 _ (by simp)) k1, dk _ _ (kns_noL _) k2⟩, s _ _ (n1 _ (by simp)) (n2 _ (by simp)) cn, s _ _ (n1 _ (by simp)) (n2 _ (by simp)) m, er, zl, zn, zk, zm⟩
theorem St8.Rh (q : St8 K J h d ds a x r) : a.R ≠ h := q.cx.hand_ne q.hd a.R (by simp)
theorem St8.Rd (q : St8 K J h d ds a x r) (n : d ≠ a.R) : Hand (upd J a.R (.lst [.int r'])) h d ds := q.hd.upd q.Rh n.symm
theorem St8.ofR (q : St8 K J h d ds a x r) (n : d ≠ a.R) (e : upd J a.R (.lst [.int r']) = G) : St8 K G h d ds a x r' := by
  subst e
  exact q.b2 (B2.ofR rfl) (q.Rd n) upd_same
end
def szD : Nat → Nat
  | 0 => 1
  | n + 1 => 1 + 3 * szD n
theorem szD_pos : ∀ n, 1 ≤ szD n
  | 0 => Nat.le_refl _
  | n + 1 => by
    show 1 ≤ 1 + 3 * szD n
    omega
/-- a block in the making -/
structure BlkSt (K : PySem.W.Frag) (H : Hp) (h d : Addr) (ds : List Int) (a : Ca) (x : Cd) (N : Nat) (Bk : Addr) (bud : Int) (J : Hp) (bu dn rr : Int) (xs : List V) (bs : List (BD (N + 1))) (i : Nat) : Prop where
  b : B2 h a.R H J
  st : St8 K J h d ds a x rr
  e : J Bk = some (.lst xs)
  dp : DpAll K J xs (bs.map (encD (N + 1)))
  ok : ∀ s, s ∈ bs → okD (N + 1) s
  at_ : ∀ a, a ∈ flatB (N + 1) bs → AtS x a.s
  len : bs.length ≤ i
  fl : (flatB (N + 1) bs).length ≤ i * szD N
  bu1 : 1 ≤ bu
  dn1 : 1 ≤ dn
  mul : dn * bu ≤ bud
section
variable {K : PySem.W.Frag} {H J G : Hp} {h d : Addr} {ds : List Int} {a : Ca} {x : Cd} {r0 : Int} {N : Nat} {Bk : Addr} {bud bu dn rr rr' : Int} {xs : List V} {bs : List (BD (N + 1))} {i : Nat}
theorem BlkSt.dn_le (q : BlkSt K H h d ds a x N Bk bud J bu dn rr xs bs i) : dn ≤ bud := by
  have h1 := Int.mul_le_mul_of_nonneg_left q.bu1 (show 0 ≤ dn by have := q.dn1; omega)
  have := q.mul
  rw [Int.mul_one] at h1
  omega
theorem BlkSt.bu_le (q : BlkSt K H h d ds a x N Bk bud J bu dn rr xs bs i) : bu ≤ bud := by
  have h1 := Int.mul_le_mul_of_nonneg_right q.dn1 (show 0 ≤ bu by have := q.bu1; omega)
  have := q.mul
  rw [Int.one_mul] at h1
  omega
theorem BlkSt.noLs (q : BlkSt K H h d ds a x N Bk bud J bu dn rr xs bs i) : SW.noLs (bs.map (encD (N + 1))) = true := noLs_mapof fun s hs => noL_D _ s (q.ok s hs)
theorem BlkSt.xl (q : BlkSt K H h d ds a x N Bk bud J bu dn rr xs bs i) : xs.length ≤ i := by
  rw [dpa_len q.dp, List.length_map]
  exact q.len
theorem BlkSt.mv (q : BlkSt K H h d ds a x N Bk bud J bu dn rr xs bs i) (s0 : St8 K H h d ds a x r0) (n : H Bk = none) (s : B2 h a.R J G) (st : St8 K G h d ds a x rr') : BlkSt K H h d ds a x N Bk bud G bu dn rr' xs bs i :=
  ⟨q.b.trans s, st, s _ _ (hand_ne s0.hd n) (ne_of_none s0.cx.r n).symm q.e, q.st.dpa s q.noLs q.dp, q.ok, q.at_, q.len, q.fl, q.bu1, q.dn1, q.mul⟩
theorem BlkSt.next (q : BlkSt K H h d ds a x N Bk bud J bu dn rr xs bs i) (s0 : St8 K H h d ds a x r0) (n : H Bk = none) {v : V} {s : BD (N + 1)} (dS : Dp K J v (encD (N + 1) s)) (kS : okD (N + 1) s) (aS : ∀ a, a ∈ flatD (N + 1) s → AtS x a.s) (lS : (flatD (N + 1) s).length ≤ szD N) {bd : Int} (b1 : 1 ≤ bd) (b2 : bd ≤ bu) :
    BlkSt K H h d ds a x N Bk bud (upd J Bk (.lst (xs ++ [v]))) (bu / bd) (dn * bd) rr (xs ++ [v]) (bs ++ [s]) (i + 1) := by
  have nh := hand_ne s0.hd n
  have nr := (ne_of_none s0.cx.r n).symm
  have bb : B2 h a.R H (upd J Bk (.lst (xs ++ [v]))) := q.b.new n
  have ok2 : ∀ t, t ∈ bs ++ [s] → okD (N + 1) t := fun t ht => by
    rcases List.mem_append.mp ht with ht | ht
    · exact q.ok t ht
    · rw [List.mem_singleton.mp ht]
      exact kS
  have nl : SW.noLs ((bs ++ [s]).map (encD (N + 1))) = true := noLs_mapof fun s hs => noL_D _ s (ok2 s hs)
  refine ⟨bb, s0.b2 bb (q.st.hd.upd nh (hand_ne2 s0.hd n)) ((upd_ne nr.symm).trans q.st.cx.r), upd_same, ?_, ok2, fun t ht => ?_, ?_, ?_, ?_, ?_, ?_⟩
  · refine dpa_but q.e (fun b o hb e => (upd_ne hb).trans e) _ _ nl ?_
    rw [List.map_append]
    exact dpa_snoc q.dp dS
  · rw [flatB_snoc] at ht
    rcases List.mem_append.mp ht with ht | ht
    · exact q.at_ t ht
    · exact aS t ht
  · rw [List.length_append]
    have := q.len
    exact Nat.add_le_add this (Nat.le_refl 1)
  · rw [flatB_snoc, List.length_append, Nat.succ_mul]
    have := q.fl
    omega
  · refine Int.le_ediv_of_mul_le (by omega) ?_
    rw [Int.one_mul]
    exact b2
  · have := Int.mul_pos (show 0 < dn by have := q.dn1; omega) (show 0 < bd by omega)
    omega
  · rw [Int.mul_assoc]
    have h1 : bd * (bu / bd) ≤ bu := Int.mul_ediv_self_le (by omega)
    have h2 := Int.mul_le_mul_of_nonneg_left h1 (show 0 ≤ dn by have := q.dn1; omega)
    have := q.mul
    omega
end
theorem sm_flat {N : Nat} (s : Sm) : flatD (N + 1) (show BD (N + 1) from (s.to : Sf (BD N))) = [⟨N, s.to⟩] := by
  show flatD (N + 1) (s.to : Sf (BD N)) = _
  rw [flatD_succ, s.subs]
  rfl
/-- a and b, with one way on -/
def tAndB (ta tb : TE) : TE := fun σ H Q => ta σ H fun x H1 => ∃ (c : Bool) (p : Prop), x = .bl c ∧ (c = true → tb σ H1 fun y H2 => ∃ c2 : Bool, y = .bl c2 ∧ H2 = H1 ∧ (c2 = true → p)) ∧ ∀ f : Bool, (f = true → c = true ∧ p) → Q (.bl f) H1
theorem pe_andB {X : Cx} {a b : Expr} {rest : List Expr} {pos : Pos} {ta tb : TE} (ha : PE X a ta) (hb : PE X (.BoolOp .And (b :: rest) pos) tb) : PE X (.BoolOp .And (a :: b :: rest) pos) (tAndB ta tb) := by
  refine ⟨fun pins s σ H Q I h => ?_⟩
  refine BoolOp_and (thn (ha.run pins s σ H _ I h) fun v s1 ⟨x, H1, I1, r1, q1⟩ => ?_)
  obtain ⟨c, p, rfl, h2, q1⟩ := q1
  cases r1
  refine wpAny_truthy_bool ?_
  cases c with
  | true =>
    refine thn (hb.run pins s1 σ H1 _ I1 (h2 rfl)) fun u s2 ⟨y, H2, I2, r2, q2⟩ => ?_
    obtain ⟨c2, rfl, rfl, q2⟩ := q2
    exact ⟨.bl c2, _, I2, r2, q1 c2 fun e => ⟨rfl, q2 e⟩⟩
  | false => exact ⟨.bl false, H1, I1, rfl, q1 false fun h => by cases h⟩
def spBlk8 (K : PySem.W.Frag) (N : Nat) : Sp := fun vs H Q _ => ∃ (h d : Addr) (ds : List Int) (a : Ca) (x : Cd) (r dep wh mny bud : Int), vs = [.ref h, .ref a.c, .int dep, .int wh, .int mny, .int bud] ∧ dep = N ∧ St8 K H h d ds a x r ∧ d ≠ a.R ∧ x.b = true ∧ x.ls.Nodup ∧ (∀ k, k ∈ x.kn → k.ps.length ≤ 10) ∧ 0 ≤ mny ∧ mny ≤ 5 ∧ 1 ≤ bud ∧ bud ≤ 32 ∧
  ∀ (t : Addr) (dn r' : Int) (v : V) (bs : List (BD (N + 1))) (H' : Hp), B2 h a.R H H' → St8 K H' h d ds a x r' → H' t = some (.lst [.int dn, v]) → Dp K H' v (blkE (N + 1) bs) → (∀ s, s ∈ bs → okD (N + 1) s) → (∀ a, a ∈ flatB (N + 1) bs → AtS x a.s) → (bs.length : Int) ≤ mny → (flatB (N + 1) bs).length ≤ mny.toNat * szD N → 1 ≤ dn → dn ≤ bud → Q (.ref t) H'
theorem fin_blk {K : PySem.W.Frag} {H J : Hp} {h d : Addr} {ds : List Int} {a : Ca} {x : Cd} {N : Nat} {Bk : Addr} {bud bu dn rr mny : Int} {xs : List V} {bs : List (BD (N + 1))} {i : Nat} {Q : V → Hp → Prop}
    (q : ∀ (t : Addr) (dn r' : Int) (v : V) (bs : List (BD (N + 1))) (H' : Hp), B2 h a.R H H' → St8 K H' h d ds a x r' → H' t = some (.lst [.int dn, v]) → Dp K H' v (blkE (N + 1) bs) → (∀ s, s ∈ bs → okD (N + 1) s) → (∀ a, a ∈ flatB (N + 1) bs → AtS x a.s) → (bs.length : Int) ≤ mny → (flatB (N + 1) bs).length ≤ mny.toNat * szD N → 1 ≤ dn → dn ≤ bud → Q (.ref t) H')
    (z : BlkSt K H h d ds a x N Bk bud J bu dn rr xs bs i) (hi : i ≤ mny.toNat) (m0 : 0 ≤ mny) {tt t : Addr} (nt : J tt = none) (n : (upd J tt (.tup xs)) t = none) : Q (.ref t) (upd (upd J tt (.tup xs)) t (.lst [.int dn, .ref tt])) := by
  generalize hG : upd J tt _ = G at n
  obtain ⟨s1, e1⟩ := new_of nt hG
  generalize hG2 : upd G t _ = G2
  obtain ⟨s2, e2⟩ := new_of n hG2
  have s := s1.trans s2
  refine q t dn rr (.ref tt) bs G2 (z.b.trans (B2.same s)) (z.st.same s) e2 (.tup (SqT.of (s2 _ _ e1)) (dpa_same s _ _ z.dp)) z.ok z.at_ ?_ ?_ z.dn1 z.dn_le
  · have := z.len
    omega
  · refine Nat.le_trans z.fl (Nat.mul_le_mul_right _ hi)
end SW

set_option maxHeartbeats 8000000
namespace SW
open PySem PySem.Spec PyProof.Rows L2
abbrev s_l_gen_block : Stmt := topS 46
theorem sc_l_gen_block : FnScope ["hand", "ctx", "depth", "whiles", "many", "budget", "block", "done", "k", "kind", "count", "condition", "statement", "breadth", "fits", "then", "other", "body", "falls", "inner", "counter", "keeps"] ["hand", "ctx", "depth", "whiles", "many", "budget"] (defScope s_l_gen_block) := ⟨rfl, rfl, rfl, by decide +kernel, rfl, by decide +kernel, by decide +kernel⟩

theorem in12 (k : Int) : inV (.int k) [.int 1, .int 2] = (decide ((1 : Int) = k) || (decide ((2 : Int) = k) || false)) := rfl
section
variable {P : Program} {w : World} {K : PySem.W.Frag} {mg : PySem.Str → Option Value} {base : Heap}
theorem sm_of {N : Nat} {x : Cd} {s : Sm} (h : AtM x s) : ∀ a, a ∈ flatD (N + 1) (show BD (N + 1) from (s.to : Sf (BD N))) → AtS x a.s := fun a ha => by
  rw [sm_flat] at ha
  rw [List.mem_singleton.mp ha]
  exact h.to
theorem sm_len {N : Nat} (s : Sm) : (flatD (N + 1) (show BD (N + 1) from (s.to : Sf (BD N)))).length ≤ szD N := by
  rw [sm_flat]
  exact szD_pos N
theorem if_flat {N : Nat} {x : Cd} {r : Int} {c : PyData} {a b : List (BD N)} (h0 : AtS x (Sf.iff r c a b : Sf (BD N))) (h1 : ∀ t, t ∈ flatB N a → AtS x t.s) (h2 : ∀ t, t ∈ flatB N b → AtS x t.s) : ∀ t, t ∈ flatD (N + 1) (show BD (N + 1) from (Sf.iff r c a b : Sf (BD N))) → AtS x t.s := fun t ht => by
  have e : flatD (N + 1) (show BD (N + 1) from (Sf.iff r c a b : Sf (BD N))) = ⟨N, Sf.iff r c a b⟩ :: (flatB N a ++ (flatB N b ++ [])) := flatD_succ N _
  rw [e] at ht
  rcases List.mem_cons.mp ht with rfl | ht
  · exact h0
  · rw [List.append_nil] at ht
    rcases List.mem_append.mp ht with ht | ht
    · exact h1 t ht
    · exact h2 t ht
theorem if_len {N : Nat} {r : Int} {c : PyData} {a b : List (BD N)} : (flatD (N + 1) (show BD (N + 1) from (Sf.iff r c a b : Sf (BD N)))).length = 1 + (flatB N a).length + (flatB N b).length := by
  have e : flatD (N + 1) (show BD (N + 1) from (Sf.iff r c a b : Sf (BD N))) = ⟨N, Sf.iff r c a b⟩ :: (flatB N a ++ (flatB N b ++ [])) := flatD_succ N _
  rw [e, List.append_nil, List.length_cons, List.length_append]
  omega
theorem wh_flat {N : Nat} {x : Cd} {r : Int} {c f : PyData} {ks : List PyData} {b : List (BD N)} (h0 : AtS x (Sf.whl r c ks f b : Sf (BD N))) (h2 : ∀ t, t ∈ flatB N b → AtS x t.s) : ∀ t, t ∈ flatD (N + 1) (show BD (N + 1) from (Sf.whl r c ks f b : Sf (BD N))) → AtS x t.s := fun t ht => by
  have e : flatD (N + 1) (show BD (N + 1) from (Sf.whl r c ks f b : Sf (BD N))) = ⟨N, Sf.whl r c ks f b⟩ :: (flatB N b ++ []) := flatD_succ N _
  rw [e] at ht
  rcases List.mem_cons.mp ht with rfl | ht
  · exact h0
  · rw [List.append_nil] at ht
    exact h2 t ht
theorem wh_len {N : Nat} {r : Int} {c f : PyData} {ks : List PyData} {b : List (BD N)} : (flatD (N + 1) (show BD (N + 1) from (Sf.whl r c ks f b : Sf (BD N)))).length = 1 + (flatB N b).length := by
  have e : flatD (N + 1) (show BD (N + 1) from (Sf.whl r c ks f b : Sf (BD N))) = ⟨N, Sf.whl r c ks f b⟩ :: (flatB N b ++ []) := flatD_succ N _
  rw [e, List.append_nil, List.length_cons]
  omega
theorem _root_.SW.St8.lst2 {J G : Hp} {h d : Addr} {ds : List Int} {a : Ca} {x : Cd} {r : Int} (q : St8 K J h d ds a x r) (s : B2 h a.R J G) {t : Addr} {n : Int} {v : V} (e : J t = some (.lst [.int n, v])) : G t = some (.lst [.int n, v]) := by
  obtain ⟨⟨⟨i, e1⟩, _, _⟩, c⟩ := q
  have e2 := c.r
  refine s _ _ (fun h => ?_) (fun h => ?_) e
  · rw [h, e1] at e
    cases e
  · rw [h, e2] at e
    cases e
theorem br_le {c dA dB B b : Int} (c1 : 1 ≤ c) (hA : dA ≤ B) (hB : dB ≤ B) (h : 2 * c * B ≤ b) : c * (dA + dB) ≤ b := by
  have h1 := Int.mul_le_mul_of_nonneg_left (show dA + dB ≤ 2 * B by omega) (show 0 ≤ c by omega)
  have e : c * (2 * B) = 2 * c * B := by rw [← Int.mul_assoc, Int.mul_comm c 2]
  omega
theorem br_pos {c d : Int} (c1 : 1 ≤ c) (h : 1 ≤ d) : 1 ≤ c * d := by
  have := Int.mul_pos (show 0 < c by omega) (show 0 < d by omega)
  omega
theorem Ops.inv {H : Hp} {xs : List V} (h : Ops K H xs) : ∃ ds, DpAll K H xs ds ∧ noLs ds = true := h
theorem half_le {c b : Int} (c1 : 1 ≤ c) (c3 : c ≤ 3) (h : 2 * c ≤ b) : 1 ≤ b / (2 * c) ∧ 2 * c * (b / (2 * c)) ≤ b ∧ b / (2 * c) ≤ b := by
  have h0 : b / (2 * c) * (2 * c) ≤ b := Int.ediv_mul_le b (by omega)
  have h1 : 1 ≤ b / (2 * c) := Int.le_ediv_of_mul_le (by omega) (by omega)
  rw [Int.mul_comm] at h0
  refine ⟨h1, h0, ?_⟩
  have : 1 * (b / (2 * c)) ≤ 2 * c * (b / (2 * c)) := Int.mul_le_mul_of_nonneg_right (by omega) (by omega)
  omega
theorem ok_l_block (T : TxB mg) (D_l_gen_block : Df K mg "_law_gen_block" s_l_gen_block ["hand", "ctx", "depth", "whiles", "many", "budget"]) (D_l_gen_simple : Df K mg "_law_gen_simple" s_l_gen_simple ["hand", "ctx"]) (D_l_gen_call : Df K mg "_law_gen_call" s_l_gen_call ["hand", "ctx"]) (D_l_gen_condition : Df K mg "_law_gen_condition" s_l_gen_condition ["hand", "ctx"]) (D_l_gen_cmp : Df K mg "_law_gen_cmp" s_l_gen_cmp ["hand", "ctx"]) (D_l_gen_term : Df K mg "_law_gen_term" s_l_gen_term ["hand", "ctx"]) (D_l_gen_index : Df K mg "_law_gen_index" s_l_gen_index ["hand", "ctx", "name"]) (D_l_gen_plain : Df K mg "_law_gen_plain" s_l_gen_plain ["hand", "ctx"]) (D_l_take : Df K mg "_law_take" s_l_take ["hand", "many"]) : ∀ N, FnOk P w K mg base CX0 (N + 7) D_l_gen_block.f D_l_gen_block.fd ["hand", "ctx", "depth", "whiles", "many", "budget"] (spBlk8 K N)
  | 0 => by
    have G_l_take := ok_l_take (P := P) (w := w) (K := K) (base := base) T D_l_take
    have G_l_gen_plain := ok_l_plain (P := P) (w := w) (K := K) (base := base) T D_l_gen_plain D_l_take
    have G_l_gen_simple := ok_l_simple (P := P) (w := w) (K := K) (base := base) T D_l_gen_simple D_l_gen_call D_l_gen_term D_l_gen_index D_l_gen_plain D_l_take
    have G_l_gen_condition := ok_l_condition (P := P) (w := w) (K := K) (base := base) T D_l_gen_condition D_l_gen_cmp D_l_gen_term D_l_gen_index D_l_gen_plain D_l_take
    have G_l_gen_block : FnOk P w K mg base CX0 6 D_l_gen_block.f D_l_gen_block.fd ["hand", "ctx", "depth", "whiles", "many", "budget"] (fun _ _ _ _ => False) := fn_never
    refine D_l_gen_block.F.ok sc_l_gen_block (fun vs H Q E h => ?_) (fun cdv A outer s H vs Q E hr h => ?_)
    · obtain ⟨h, d, ds, a, x, r, dep, wh, mny, bud, rfl, _⟩ := h
      rfl
    · obtain ⟨h, d, ds, a, x, r, dep, wh, mny, bud, rfl, hdep, st, hdR, hxb, hlnd, hps, hm0, hm5, hbu1, hbu2, q⟩ := h
      refine ⟨_, (pss_cons (ps_set (i := 6) sc_l_gen_block.nd rfl (.inl rfl) (pe_lst pa_nil))
    (pss_cons (ps_set (i := 7) sc_l_gen_block.nd rfl (.inl rfl) pe_int)
    (pss_cons (ps_for PassesOwn.never rfl (pi_range1 (by rfl) T.n_range (pa_cons (pv 4) pa_nil)) (pg_name (i := 8) sc_l_gen_block.nd rfl (.inl rfl))
    (pss_cons (ps_if (pt_cmpR op_le (pe_ix ix_list (pe_ix ix_list (pv 1) pe_int (fun _ _ => rfl)) pe_int (fun _ _ => rfl)) pe_int (nomark _))
    (pss_one ps_break)
    pss_nil)
    (pss_cons (ps_set (i := 9) sc_l_gen_block.nd rfl (.inl rfl) (pe_call G_l_take (hr.mono (by omega)) (by rfl) D_l_take.g D_l_take.F.kp D_l_take.b .nil pass0 (pa_cons (pv 0) (pa_cons pe_int pa_nil))))
    (pss_cons (ps_asg (pe_call G_l_gen_condition (hr.mono (by omega)) (by rfl) D_l_gen_condition.g D_l_gen_condition.F.kp D_l_gen_condition.b .nil pass0 (pa_cons (pv 0) (pa_cons (pv 1) pa_nil))) (pg_lst (by rfl) (pgs_cons (pg_name (i := 10) sc_l_gen_block.nd rfl (.inl rfl)) (pgs_cons (pg_name (i := 11) sc_l_gen_block.nd rfl (.inl rfl)) pgs_nil))))
    (pss_cons (ps_set (i := 12) sc_l_gen_block.nd rfl (.inl rfl) (pe_call G_l_gen_simple (hr.mono (by omega)) (by rfl) D_l_gen_simple.g D_l_gen_simple.F.kp D_l_gen_simple.b .nil pass0 (pa_cons (pv 0) (pa_cons (pv 1) pa_nil))))
    (pss_cons (ps_set (i := 13) sc_l_gen_block.nd rfl (.inl rfl) pe_int)
    (pss_cons (ps_asg (pe_op op_sub (pe_ix ix_list (pe_ix ix_list (pv 1) pe_int (fun _ _ => rfl)) pe_int (fun _ _ => rfl)) pe_int) (pg_sub (pe_ix ix_list (pv 1) pe_int (fun _ _ => rfl)) pe_int set_list))
    (pss_cons (ps_set (i := 14) sc_l_gen_block.nd rfl (.inl rfl) (pe_andB (pe_cmpR op_gt (pv 2) pe_int (nomark _)) (pe_andB (pe_cmpR op_le (pe_op op_mul pe_int (pv 10)) (pv 5) (nomark _)) (pe_one (pe_cmpR op_ge (pe_ix ix_list (pe_ix ix_list (pv 1) pe_int (fun _ _ => rfl)) pe_int (fun _ _ => rfl)) pe_int (nomark _))))))
    (pss_cons (ps_if (PW.pt (pw_and (pt_cmpR op_eq (pv 9) pe_int (nomark _)) (pw_and1 (pt_cmpR op_le (pv 10) (pv 5) (nomark _)))))
    (pss_cons (ps_set (i := 13) sc_l_gen_block.nd rfl (.inl rfl) (pv 10))
    (pss_one (ps_set (i := 12) sc_l_gen_block.nd rfl (.inl rfl) (pe_tup (pa_cons pe_str (pa_cons pe_int (pa_cons (pv 11) pa_nil)))))))
    pss_nil)
    (pss_cons (ps_if (PW.pt (pw_and (pt_cmpR op_in_seq (pv 9) (pe_lst (pa_cons pe_int (pa_cons pe_int pa_nil))) (by rfl)) (pw_and1 (pt_val (pv 14)))))
    (pss_cons (ps_asg (pe_op op_sub (pe_ix ix_list (pe_ix ix_list (pv 1) pe_int (fun _ _ => rfl)) pe_int (fun _ _ => rfl)) pe_int) (pg_sub (pe_ix ix_list (pv 1) pe_int (fun _ _ => rfl)) pe_int set_list))
    (pss_cons (ps_set (i := 15) sc_l_gen_block.nd rfl (.inl rfl) (pe_call G_l_gen_block (hr.mono (by omega)) (by rfl) D_l_gen_block.g D_l_gen_block.F.kp D_l_gen_block.b .nil pass0 (pa_cons (pv 0) (pa_cons (pv 1) (pa_cons (pe_op op_sub (pv 2) pe_int) (pa_cons (pv 3) (pa_cons (pe_call G_l_take (hr.mono (by omega)) (by rfl) D_l_take.g D_l_take.F.kp D_l_take.b .nil pass0 (pa_cons (pv 0) (pa_cons pe_int pa_nil))) (pa_cons (pe_op op_fdiv (pv 5) (pe_op op_mul pe_int (pv 10))) pa_nil))))))))
    (pss_cons (ps_set (i := 16) sc_l_gen_block.nd rfl (.inl rfl) (pe_call G_l_gen_block (hr.mono (by omega)) (by rfl) D_l_gen_block.g D_l_gen_block.F.kp D_l_gen_block.b .nil pass0 (pa_cons (pv 0) (pa_cons (pv 1) (pa_cons (pe_op op_sub (pv 2) pe_int) (pa_cons (pv 3) (pa_cons (pe_call G_l_take (hr.mono (by omega)) (by rfl) D_l_take.g D_l_take.F.kp D_l_take.b .nil pass0 (pa_cons (pv 0) (pa_cons pe_int pa_nil))) (pa_cons (pe_op op_fdiv (pv 5) (pe_op op_mul pe_int (pv 10))) pa_nil))))))))
    (pss_cons (ps_set (i := 13) sc_l_gen_block.nd rfl (.inl rfl) (pe_op op_mul (pv 10) (pe_op op_add (pe_ix ix_list (pv 15) pe_int (fun _ _ => rfl)) (pe_ix ix_list (pv 16) pe_int (fun _ _ => rfl)))))
    (pss_one (ps_set (i := 12) sc_l_gen_block.nd rfl (.inl rfl) (pe_tup (pa_cons pe_str (pa_cons pe_int (pa_cons (pv 11) (pa_cons (pe_ix ix_list (pv 15) pe_int (fun _ _ => rfl)) (pa_cons (pe_ix ix_list (pv 16) pe_int (fun _ _ => rfl)) pa_nil))))))))))))
    pss_nil)
    (pss_cons (ps_if (PW.pt (pw_and (pt_cmpR op_eq (pv 9) pe_int (nomark _)) (pw_and (pt_val (pv 14)) (pw_and1 (pt_cmpR op_gt (pv 3) pe_int (nomark _))))))
    (pss_cons (ps_asg (pe_op op_sub (pe_ix ix_list (pe_ix ix_list (pv 1) pe_int (fun _ _ => rfl)) pe_int (fun _ _ => rfl)) pe_int) (pg_sub (pe_ix ix_list (pv 1) pe_int (fun _ _ => rfl)) pe_int set_list))
    (pss_cons (ps_set (i := 17) sc_l_gen_block.nd rfl (.inl rfl) (pe_call G_l_gen_block (hr.mono (by omega)) (by rfl) D_l_gen_block.g D_l_gen_block.F.kp D_l_gen_block.b .nil pass0 (pa_cons (pv 0) (pa_cons (pv 1) (pa_cons (pe_op op_sub (pv 2) pe_int) (pa_cons (pe_op op_sub (pv 3) pe_int) (pa_cons (pe_op op_add pe_int (pe_call G_l_take (hr.mono (by omega)) (by rfl) D_l_take.g D_l_take.F.kp D_l_take.b .nil pass0 (pa_cons (pv 0) (pa_cons pe_int pa_nil)))) (pa_cons (pe_op op_fdiv (pv 5) (pe_op op_mul pe_int (pv 10))) pa_nil))))))))
    (pss_cons (ps_set (i := 13) sc_l_gen_block.nd rfl (.inl rfl) (pe_op op_mul (pv 10) (pe_op op_add (pe_ix ix_list (pv 17) pe_int (fun _ _ => rfl)) pe_int)))
    (pss_cons (ps_set (i := 18) sc_l_gen_block.nd rfl (.inl rfl) (pe_tup (pa_cons (pe_call G_l_gen_plain (hr.mono (by omega)) (by rfl) D_l_gen_plain.g D_l_gen_plain.F.kp D_l_gen_plain.b .nil pass0 (pa_cons (pv 0) (pa_cons (pv 1) pa_nil))) (pa_cons (pe_call G_l_gen_plain (hr.mono (by omega)) (by rfl) D_l_gen_plain.g D_l_gen_plain.F.kp D_l_gen_plain.b .nil pass0 (pa_cons (pv 0) (pa_cons (pv 1) pa_nil))) pa_nil))))
    (pss_cons (ps_set (i := 19) sc_l_gen_block.nd rfl (.inl rfl) (pe_ix ix_list (pv 17) pe_int (fun _ _ => rfl)))
    (Evl.pss_cut (ps_if (PW.pt (pw_and (pt_cmpR op_gt (pe_call G_l_take (hr.mono (by omega)) (by rfl) D_l_take.g D_l_take.F.kp D_l_take.b .nil pass0 (pa_cons (pv 0) (pa_cons pe_int pa_nil))) pe_int (nomark _)) (pw_and1 (pt_cmpR op_gt (pe_ix ix_list (pe_ix ix_list (pv 1) pe_int (fun _ _ => rfl)) pe_int (fun _ _ => rfl)) pe_int (nomark _)))))
    (pss_cons (ps_asg (pe_op op_sub (pe_ix ix_list (pe_ix ix_list (pv 1) pe_int (fun _ _ => rfl)) pe_int (fun _ _ => rfl)) pe_int) (pg_sub (pe_ix ix_list (pv 1) pe_int (fun _ _ => rfl)) pe_int set_list))
    (pss_cons (ps_set (i := 20) sc_l_gen_block.nd rfl (.inl rfl) (pe_ix ix_list (pe_ix ix_list (pv 1) pe_int (fun _ _ => rfl)) (pe_call G_l_take (hr.mono (by omega)) (by rfl) D_l_take.g D_l_take.F.kp D_l_take.b .nil pass0 (pa_cons (pv 0) (pa_cons pe_int pa_nil))) (fun _ _ => rfl)))
    (pss_cons (ps_set (i := 13) sc_l_gen_block.nd rfl (.inl rfl) (pe_op op_add (pe_ix ix_list (pv 17) pe_int (fun _ _ => rfl)) pe_int))
    (pss_cons (ps_set (i := 11) sc_l_gen_block.nd rfl (.inl rfl) (pe_tup (pa_cons pe_str (pa_cons pe_str (pa_cons (pe_tup (pa_cons pe_str (pa_cons (pv 20) (pa_cons pe_int pa_nil)))) (pa_cons (pe_call G_l_gen_plain (hr.mono (by omega)) (by rfl) D_l_gen_plain.g D_l_gen_plain.F.kp D_l_gen_plain.b .nil pass0 (pa_cons (pv 0) (pa_cons (pv 1) pa_nil))) pa_nil))))))
    (pss_one (ps_set (i := 19) sc_l_gen_block.nd rfl (.inl rfl) (pe_op op_catB (pv 19) (pe_tup (pa_cons (pe_tup (pa_cons pe_str (pa_cons pe_int (pa_cons (pv 20) (pa_cons (pe_tup (pa_cons pe_str (pa_cons (pv 20) (pa_cons pe_int pa_nil)))) pa_nil))))) pa_nil)))))))))
    pss_nil)
    (pss_cons (ps_set (i := 21) sc_l_gen_block.nd rfl (.inl rfl) (pe_op op_rep01 (pe_tup (pa_cons (pe_tup (pa_cons pe_str (pa_cons pe_str (pa_cons (pe_tup (pa_cons pe_str (pa_cons pe_int pa_nil))) (pa_cons (pe_tup (pa_cons pe_str (pa_cons pe_int pa_nil))) pa_nil))))) pa_nil)) (pe_callTy call_int1 (by rfl) T.n_int (by decide +kernel) (pa_cons (pe_andB (pe_cmpR op_eq (pe_call G_l_take (hr.mono (by omega)) (by rfl) D_l_take.g D_l_take.F.kp D_l_take.b .nil pass0 (pa_cons (pv 0) (pa_cons pe_int pa_nil))) pe_int (nomark _)) (pe_one (pe_cmpR op_gt (pe_ix ix_list (pe_ix ix_list (pv 1) pe_int (fun _ _ => rfl)) pe_int (fun _ _ => rfl)) pe_int (nomark _)))) pa_nil))))
    (pss_cons (ps_asg (pe_op op_sub (pe_ix ix_list (pe_ix ix_list (pv 1) pe_int (fun _ _ => rfl)) pe_int (fun _ _ => rfl)) (pe_callB call_len_seq (by rfl) T.n_len PySem.boot_len (pa_cons (pv 21) pa_nil))) (pg_sub (pe_ix ix_list (pv 1) pe_int (fun _ _ => rfl)) pe_int set_list))
    (pss_one (ps_set (i := 12) sc_l_gen_block.nd rfl (.inl rfl) (pe_tup (pa_cons pe_str (pa_cons pe_int (pa_cons (pv 11) (pa_cons (pv 21) (pa_cons (pv 18) (pa_cons (pv 19) pa_nil)))))))))))))))))
    pss_nil)
    (pss_cons (ps_set (i := 5) sc_l_gen_block.nd rfl (.inl rfl) (pe_op op_fdiv (pv 5) (pv 13)))
    (pss_cons (ps_set (i := 7) sc_l_gen_block.nd rfl (.inl rfl) (pe_op op_mul (pv 7) (pv 13)))
    (pss_one (ps_expr (pe_bm PySem.F.plainAttrs_list PySem.F.slot_list_append PySem.F.type_list_append mt_append (pv 6) (pa_cons (pv 12) pa_nil)))))))))))))))))
    (pss_one (ps_ret (pe_lst (pa_cons (pv 7) (pa_cons (pe_callTy call_tuple_of (by rfl) T.n_tuple (by decide +kernel) (pa_cons (pv 6) pa_nil)) pa_nil)))))))), ?_⟩
      have hvs : x.vs = x.c5 :: x.c6 :: x.ns := by
        unfold Cd.vs
        rw [if_pos hxb]
      refine ⟨Nat.zero_le _, fun Bk nB => ?_⟩
      generalize hG : upd H Bk _ = G
      obtain ⟨s1, e1⟩ := new_of nB hG
      refine ⟨_, rfl, mny, rfl, by omega, by omega, ?_⟩
      refine for_range (lo := 0) (n := mny.toNat) (fun i σ J => ∃ (bu dn rr : Int) (y8 y9 y10 y11 y12 y13 y14 y15 y16 y17 y18 y19 y20 y21 : Option V) (xs : List V) (bs : List (BD (0 + 1))), σ = [some (.ref h), some (.ref a.c), some (.int dep), some (.int wh), some (.int mny), some (.int bu), some (.ref Bk), some (.int dn), y8, y9, y10, y11, y12, y13, y14, y15, y16, y17, y18, y19, y20, y21] ∧ BlkSt K H h d ds a x 0 Bk bud J bu dn rr xs bs i) ⟨bud, 1, r, _, _, _, _, _, _, _, _, _, _, _, _, _, _, [], [], rfl, ⟨B2.same s1, st.same s1, e1, .nil, fun _ h => (List.not_mem_nil h).elim, fun _ h => (List.not_mem_nil h).elim, Nat.le_refl _, Nat.zero_le _, hbu1, by decide, by omega⟩⟩ (fun i σ J hi hP => ?_) (fun σ J hP => ?_)
      · obtain ⟨bu, dn, rr, y8, y9, y10, y11, y12, y13, y14, y15, y16, y17, y18, y19, y20, y21, xs, bs, rfl, z⟩ := hP
        refine ⟨_, rfl, a.c, _, _, _, rfl, rfl, SqL.of z.st.cx.c, atI_nat (j := 5) rfl, a.R, _, _, _, rfl, rfl, SqL.of z.st.cx.r, atI_nat (j := 0) rfl, _, _, rfl, rfl, _, rfl, ite2 (fun e => ?_) (fun e => ?_)⟩
        · refine ⟨_, rfl, _, rfl, Bk, _, rfl, .inl ⟨SqL.of z.e, fun tt nt => ?_⟩⟩
          exact ⟨by show 2 ≤ sizeLine; decide, fun t n => fin_blk q z (by omega) hm0 nt n⟩
        clear e
        refine ⟨_, rfl, h, d, ds, 7, rfl, by decide, z.st.hd, fun k J1 hk0 hk1 bk hdk _ => ?_⟩
        replace z := z.mv st nB (B2.but bk) (z.st.but bk hdk)
        refine ⟨_, rfl, _, rfl, h, d, ds, a, x, _, rfl, z.st, fun tc c vc co J2 c1 c3 bc stc oc kc ec => ⟨tc, _, rfl, SqL.of ec, rfl, _, _, rfl, _, _, rfl, rfl, ?_⟩⟩
        replace z := z.mv st nB (B2.but bc) stc
        refine ⟨_, rfl, _, rfl, h, d, ds, a, x, _, rfl, z.st, ⟨hxb, hlnd⟩, hps, fun vS s0 J3 bs0 sts dS o0 m0' => ?_⟩
        replace oc := z.st.od (B2.but bs0) oc
        replace z := z.mv st nB (B2.but bs0) sts
        refine ⟨_, rfl, a.c, _, _, _, rfl, rfl, SqL.of z.st.cx.c, atI_nat (j := 5) rfl, a.R, _, _, _, rfl, rfl, SqL.of z.st.cx.r, atI_nat (j := 0) rfl, _, _, rfl, rfl, _, rfl, a.c, _, _, _, rfl, rfl, SqL.of z.st.cx.c, atI_nat (j := 5) rfl, a.R, _, 0, 0, rfl, rfl, z.st.cx.r, rfl, ?_⟩
        generalize hGR0 : upd J3 a.R _ = J4
        replace oc := z.st.od (B2.ofR hGR0) oc
        replace dS := z.st.dp (B2.ofR hGR0) (Sm.noL o0) dS
        replace z := z.mv st nB (B2.ofR hGR0) (z.st.ofR hdR hGR0)
        have hbl := z.bu_le
        have hdl := z.dn_le
        have hb1 := z.bu1
        have hd1 := z.dn1
        refine ⟨_, rfl, _, _, rfl, rfl, ?_⟩
        refine ⟨decide (0 < dep), 2 * c ≤ bu, rfl, fun _ => ⟨_, rfl, _, _, rfl, rfl, .inl ⟨by decide, by decide⟩, _, rfl, _, _, rfl, rfl, decide (2 * c ≤ bu), True, rfl, fun _ => ⟨_, rfl, a.c, _, _, _, rfl, rfl, SqL.of z.st.cx.c, atI_nat (j := 5) rfl, a.R, _, _, _, rfl, rfl, SqL.of z.st.cx.r, atI_nat (j := 0) rfl, _, _, rfl, rfl, _, rfl, rfl, fun _ => trivial⟩, fun f hf => ⟨f, rfl, rfl, fun e => of_decide_eq_true (hf e).1⟩⟩, fun f hf => ?_⟩
        have hf : f = true → 0 < dep ∧ 2 * c ≤ bu := fun e => ⟨of_decide_eq_true (hf e).1, (hf e).2⟩
        have hk : k = 0 ∨ (k = 1 ∨ k = 2) ∨ k = 3 ∨ 3 < k := by omega
        rcases hk with hk | hk | hk | hk
        · have hk3 : ¬ k = 3 := by omega
          have hk12 : (decide ((1 : Int) = k) || (decide ((2 : Int) = k) || false)) = false := by rw [decide_eq_false (by omega), decide_eq_false (by omega)]; rfl
          refine ⟨_, rfl, rfl, _, rfl, ?_⟩
          rw [int_dec, decide_eq_true hk]
          refine iteT ⟨_, rfl, _, rfl, _, _, rfl, rfl, _, rfl, ite2 (fun c5 => ?_) (fun c5 => ?_)⟩
          · have c5 := of_decide_eq_true c5
            refine ⟨_, rfl, ?_⟩
            refine ⟨_, rfl, by show 3 ≤ sizeLine; decide, fun tCH nCH => ?_⟩
            generalize hGCH : upd J4 tCH _ = J5
            obtain ⟨sCH, eCH⟩ := new_of nCH hGCH
            replace oc := z.st.od (B2.same sCH) oc
            replace dS := z.st.dp (B2.same sCH) (Sm.noL o0) dS
            replace z := z.mv st nB (B2.same sCH) (z.st.same sCH)
            have dc := oc.dp
            have nc := oc.nl
            have ck : AtM x (Sm.oth "check" 0 [encC 4 co]) := .inr (.inr (.inl ⟨rfl, co, rfl, kc⟩))
            have dS : Dp K J5 (.ref tCH) (encD (0 + 1) (show BD (0 + 1) from ((Sm.oth "check" 0 [encC 4 co]).to : Sf (BD 0)))) := .tup (SqT.of eCH) (.cons (.str _) (.cons (.int _) (.cons dc .nil)))
            have kS : (Sm.oth "check" 0 [encC 4 co]).ok := ⟨by decide +kernel, by show (noL (encC 4 co) && true) = true; rw [nc]; rfl⟩
            refine ⟨_, rfl, by show 2 ≤ sizeLine; decide, fun tL5 nL5 => ?_⟩
            generalize hGL5 : upd J5 tL5 _ = J6
            obtain ⟨sL5, eL5⟩ := new_of nL5 hGL5
            replace dS := z.st.dp (B2.same sL5) (noL_D (0 + 1) (show BD (0 + 1) from ((Sm.oth "check" 0 [encC 4 co]).to : Sf (BD 0))) (Sm.ok_to (B := BD 0) (p := okD 0) kS)) dS
            replace z := z.mv st nB (B2.same sL5) (z.st.same sL5)
            refine ⟨tL5, _, rfl, .inl (SqL.of eL5), rfl, rfl, _, rfl, ?_⟩
            show if inV (.int k) [.int 1, .int 2] = true then _ else _
            rw [in12, hk12]
            refine iteF ?_
            refine iteF ?_
            refine ⟨_, rfl, rfl, _, rfl, ?_⟩
            rw [int_dec, decide_eq_false hk3]
            refine iteF ?_
            refine iteF ?_
            refine ⟨_, rfl, _, rfl, _, _, rfl, rfl, ⟨by omega, by omega⟩, ?_⟩
            refine ⟨_, rfl, _, rfl, _, _, rfl, rfl, .inl ⟨by omega, by omega⟩, ?_⟩
            refine ⟨_, rfl, .inl ⟨rfl, _, SqL.of z.e⟩, _, rfl, Bk, _, _, rfl, rfl, z.e, small_sz5 (by have := z.xl; omega), ?_⟩
            have zz := z.next st nB dS (Sm.ok_to kS) (sm_of ck) (sm_len _) c1 c5
            exact ⟨_, _, _, _, _, _, _, _, _, _, _, _, _, _, _, _, _, _, _, rfl, zz⟩
          · refine ⟨_, rfl, by show 2 ≤ sizeLine; decide, fun tL6 nL6 => ?_⟩
            generalize hGL6 : upd J4 tL6 _ = J7
            obtain ⟨sL6, eL6⟩ := new_of nL6 hGL6
            replace oc := z.st.od (B2.same sL6) oc
            replace dS := z.st.dp (B2.same sL6) (Sm.noL o0) dS
            replace z := z.mv st nB (B2.same sL6) (z.st.same sL6)
            refine ⟨tL6, _, rfl, .inl (SqL.of eL6), rfl, rfl, _, rfl, ?_⟩
            show if inV (.int k) [.int 1, .int 2] = true then _ else _
            rw [in12, hk12]
            refine iteF ?_
            refine iteF ?_
            refine ⟨_, rfl, rfl, _, rfl, ?_⟩
            rw [int_dec, decide_eq_false hk3]
            refine iteF ?_
            refine iteF ?_
            refine ⟨_, rfl, _, rfl, _, _, rfl, rfl, ⟨by omega, by omega⟩, ?_⟩
            refine ⟨_, rfl, _, rfl, _, _, rfl, rfl, .inl ⟨by omega, by omega⟩, ?_⟩
            refine ⟨_, rfl, .inl ⟨rfl, _, SqL.of z.e⟩, _, rfl, Bk, _, _, rfl, rfl, z.e, small_sz5 (by have := z.xl; omega), ?_⟩
            have zz := z.next st nB (show Dp K _ vS (encD (0 + 1) (show BD (0 + 1) from (s0.to : Sf (BD 0)))) by rw [show encD (0 + 1) (show BD (0 + 1) from (s0.to : Sf (BD 0))) = s0.enc from Sm.enc_to s0]; exact dS) (Sm.ok_to o0) (sm_of m0') (sm_len s0) (by decide) z.bu1
            exact ⟨_, _, _, _, _, _, _, _, _, _, _, _, _, _, _, _, _, _, _, rfl, zz⟩
        · have k0 : ¬ k = 0 := by omega
          have hk3 : ¬ k = 3 := by omega
          have hk12 : (decide ((1 : Int) = k) || (decide ((2 : Int) = k) || false)) = true := by rcases hk with rfl | rfl <;> rfl
          refine ⟨_, rfl, rfl, _, rfl, ?_⟩
          rw [int_dec, decide_eq_false k0]
          refine iteF ?_
          refine iteF ?_
          refine ⟨_, rfl, by show 2 ≤ sizeLine; decide, fun tL8 nL8 => ?_⟩
          generalize hGL8 : upd J4 tL8 _ = J9
          obtain ⟨sL8, eL8⟩ := new_of nL8 hGL8
          replace oc := z.st.od (B2.same sL8) oc
          replace dS := z.st.dp (B2.same sL8) (Sm.noL o0) dS
          replace z := z.mv st nB (B2.same sL8) (z.st.same sL8)
          refine ⟨tL8, _, rfl, .inl (SqL.of eL8), rfl, rfl, _, rfl, ?_⟩
          show if inV (.int k) [.int 1, .int 2] = true then _ else _
          rw [in12, hk12]
          refine iteT ⟨_, rfl, f, rfl, ?_⟩
          cases f with
          | false =>
            refine iteF ?_
            refine ⟨_, rfl, rfl, _, rfl, ?_⟩
            rw [int_dec, decide_eq_false hk3]
            refine iteF ?_
            refine iteF ?_
            refine ⟨_, rfl, _, rfl, _, _, rfl, rfl, ⟨by omega, by omega⟩, ?_⟩
            refine ⟨_, rfl, _, rfl, _, _, rfl, rfl, .inl ⟨by omega, by omega⟩, ?_⟩
            refine ⟨_, rfl, .inl ⟨rfl, _, SqL.of z.e⟩, _, rfl, Bk, _, _, rfl, rfl, z.e, small_sz5 (by have := z.xl; omega), ?_⟩
            have zz := z.next st nB (show Dp K _ vS (encD (0 + 1) (show BD (0 + 1) from (s0.to : Sf (BD 0)))) by rw [show encD (0 + 1) (show BD (0 + 1) from (s0.to : Sf (BD 0))) = s0.enc from Sm.enc_to s0]; exact dS) (Sm.ok_to o0) (sm_of m0') (sm_len s0) (by decide) z.bu1
            exact ⟨_, _, _, _, _, _, _, _, _, _, _, _, _, _, _, _, _, _, _, rfl, zz⟩
          | true =>
            obtain ⟨hp1, hp2⟩ := hf rfl
            exact absurd hp1 (by omega)
        · have k0 : ¬ k = 0 := by omega
          have hk12 : (decide ((1 : Int) = k) || (decide ((2 : Int) = k) || false)) = false := by rw [decide_eq_false (by omega), decide_eq_false (by omega)]; rfl
          refine ⟨_, rfl, rfl, _, rfl, ?_⟩
          rw [int_dec, decide_eq_false k0]
          refine iteF ?_
          refine iteF ?_
          refine ⟨_, rfl, by show 2 ≤ sizeLine; decide, fun tL9 nL9 => ?_⟩
          generalize hGL9 : upd J4 tL9 _ = J10
          obtain ⟨sL9, eL9⟩ := new_of nL9 hGL9
          replace oc := z.st.od (B2.same sL9) oc
          replace dS := z.st.dp (B2.same sL9) (Sm.noL o0) dS
          replace z := z.mv st nB (B2.same sL9) (z.st.same sL9)
          refine ⟨tL9, _, rfl, .inl (SqL.of eL9), rfl, rfl, _, rfl, ?_⟩
          show if inV (.int k) [.int 1, .int 2] = true then _ else _
          rw [in12, hk12]
          refine iteF ?_
          refine iteF ?_
          refine ⟨_, rfl, rfl, _, rfl, ?_⟩
          rw [int_dec, decide_eq_true hk]
          refine iteT ⟨_, rfl, f, rfl, ?_⟩
          cases f with
          | false =>
            refine iteF ?_
            refine iteF ?_
            refine ⟨_, rfl, _, rfl, _, _, rfl, rfl, ⟨by omega, by omega⟩, ?_⟩
            refine ⟨_, rfl, _, rfl, _, _, rfl, rfl, .inl ⟨by omega, by omega⟩, ?_⟩
            refine ⟨_, rfl, .inl ⟨rfl, _, SqL.of z.e⟩, _, rfl, Bk, _, _, rfl, rfl, z.e, small_sz5 (by have := z.xl; omega), ?_⟩
            have zz := z.next st nB (show Dp K _ vS (encD (0 + 1) (show BD (0 + 1) from (s0.to : Sf (BD 0)))) by rw [show encD (0 + 1) (show BD (0 + 1) from (s0.to : Sf (BD 0))) = s0.enc from Sm.enc_to s0]; exact dS) (Sm.ok_to o0) (sm_of m0') (sm_len s0) (by decide) z.bu1
            exact ⟨_, _, _, _, _, _, _, _, _, _, _, _, _, _, _, _, _, _, _, rfl, zz⟩
          | true =>
            obtain ⟨hp1, hp2⟩ := hf rfl
            refine iteT ⟨_, rfl, _, _, rfl, rfl, _, rfl, ite2 (fun e => ?_) (fun e => ?_)⟩
            · exact absurd hp1 (by omega)
            · refine ⟨_, rfl, _, rfl, _, _, rfl, rfl, ⟨by omega, by omega⟩, ?_⟩
              refine ⟨_, rfl, _, rfl, _, _, rfl, rfl, .inl ⟨by omega, by omega⟩, ?_⟩
              refine ⟨_, rfl, .inl ⟨rfl, _, SqL.of z.e⟩, _, rfl, Bk, _, _, rfl, rfl, z.e, small_sz5 (by have := z.xl; omega), ?_⟩
              have zz := z.next st nB (show Dp K _ vS (encD (0 + 1) (show BD (0 + 1) from (s0.to : Sf (BD 0)))) by rw [show encD (0 + 1) (show BD (0 + 1) from (s0.to : Sf (BD 0))) = s0.enc from Sm.enc_to s0]; exact dS) (Sm.ok_to o0) (sm_of m0') (sm_len s0) (by decide) z.bu1
              exact ⟨_, _, _, _, _, _, _, _, _, _, _, _, _, _, _, _, _, _, _, rfl, zz⟩
        · have hk3 : ¬ k = 3 := by omega
          have hk12 : (decide ((1 : Int) = k) || (decide ((2 : Int) = k) || false)) = false := by rw [decide_eq_false (by omega), decide_eq_false (by omega)]; rfl
          have k0 : ¬ k = 0 := by omega
          refine ⟨_, rfl, rfl, _, rfl, ?_⟩
          rw [int_dec, decide_eq_false k0]
          refine iteF ?_
          refine iteF ?_
          refine ⟨_, rfl, by show 2 ≤ sizeLine; decide, fun tL7 nL7 => ?_⟩
          generalize hGL7 : upd J4 tL7 _ = J8
          obtain ⟨sL7, eL7⟩ := new_of nL7 hGL7
          replace oc := z.st.od (B2.same sL7) oc
          replace dS := z.st.dp (B2.same sL7) (Sm.noL o0) dS
          replace z := z.mv st nB (B2.same sL7) (z.st.same sL7)
          refine ⟨tL7, _, rfl, .inl (SqL.of eL7), rfl, rfl, _, rfl, ?_⟩
          show if inV (.int k) [.int 1, .int 2] = true then _ else _
          rw [in12, hk12]
          refine iteF ?_
          refine iteF ?_
          refine ⟨_, rfl, rfl, _, rfl, ?_⟩
          rw [int_dec, decide_eq_false hk3]
          refine iteF ?_
          refine iteF ?_
          refine ⟨_, rfl, _, rfl, _, _, rfl, rfl, ⟨by omega, by omega⟩, ?_⟩
          refine ⟨_, rfl, _, rfl, _, _, rfl, rfl, .inl ⟨by omega, by omega⟩, ?_⟩
          refine ⟨_, rfl, .inl ⟨rfl, _, SqL.of z.e⟩, _, rfl, Bk, _, _, rfl, rfl, z.e, small_sz5 (by have := z.xl; omega), ?_⟩
          have zz := z.next st nB (show Dp K _ vS (encD (0 + 1) (show BD (0 + 1) from (s0.to : Sf (BD 0)))) by rw [show encD (0 + 1) (show BD (0 + 1) from (s0.to : Sf (BD 0))) = s0.enc from Sm.enc_to s0]; exact dS) (Sm.ok_to o0) (sm_of m0') (sm_len s0) (by decide) z.bu1
          exact ⟨_, _, _, _, _, _, _, _, _, _, _, _, _, _, _, _, _, _, _, rfl, zz⟩
      · obtain ⟨bu, dn, rr, y8, y9, y10, y11, y12, y13, y14, y15, y16, y17, y18, y19, y20, y21, xs, bs, rfl, z⟩ := hP
        refine ⟨_, rfl, _, rfl, Bk, _, rfl, .inl ⟨SqL.of z.e, fun tt nt => ?_⟩⟩
        exact ⟨by show 2 ≤ sizeLine; decide, fun t n => fin_blk q z (Nat.le_refl _) hm0 nt n⟩
  | m + 1 => by
    have G_l_take := ok_l_take (P := P) (w := w) (K := K) (base := base) T D_l_take
    have G_l_gen_plain := ok_l_plain (P := P) (w := w) (K := K) (base := base) T D_l_gen_plain D_l_take
    have G_l_gen_simple := ok_l_simple (P := P) (w := w) (K := K) (base := base) T D_l_gen_simple D_l_gen_call D_l_gen_term D_l_gen_index D_l_gen_plain D_l_take
    have G_l_gen_condition := ok_l_condition (P := P) (w := w) (K := K) (base := base) T D_l_gen_condition D_l_gen_cmp D_l_gen_term D_l_gen_index D_l_gen_plain D_l_take
    have G_l_gen_block := ok_l_block T D_l_gen_block D_l_gen_simple D_l_gen_call D_l_gen_condition D_l_gen_cmp D_l_gen_term D_l_gen_index D_l_gen_plain D_l_take m
    refine D_l_gen_block.F.ok sc_l_gen_block (fun vs H Q E h => ?_) (fun cdv A outer s H vs Q E hr h => ?_)
    · obtain ⟨h, d, ds, a, x, r, dep, wh, mny, bud, rfl, _⟩ := h
      rfl
    · obtain ⟨h, d, ds, a, x, r, dep, wh, mny, bud, rfl, hdep, st, hdR, hxb, hlnd, hps, hm0, hm5, hbu1, hbu2, q⟩ := h
      refine ⟨_, (pss_cons (ps_set (i := 6) sc_l_gen_block.nd rfl (.inl rfl) (pe_lst pa_nil))
    (pss_cons (ps_set (i := 7) sc_l_gen_block.nd rfl (.inl rfl) pe_int)
    (pss_cons (ps_for PassesOwn.never rfl (pi_range1 (by rfl) T.n_range (pa_cons (pv 4) pa_nil)) (pg_name (i := 8) sc_l_gen_block.nd rfl (.inl rfl))
    (pss_cons (ps_if (pt_cmpR op_le (pe_ix ix_list (pe_ix ix_list (pv 1) pe_int (fun _ _ => rfl)) pe_int (fun _ _ => rfl)) pe_int (nomark _))
    (pss_one ps_break)
    pss_nil)
    (pss_cons (ps_set (i := 9) sc_l_gen_block.nd rfl (.inl rfl) (pe_call G_l_take (hr.mono (by omega)) (by rfl) D_l_take.g D_l_take.F.kp D_l_take.b .nil pass0 (pa_cons (pv 0) (pa_cons pe_int pa_nil))))
    (pss_cons (ps_asg (pe_call G_l_gen_condition (hr.mono (by omega)) (by rfl) D_l_gen_condition.g D_l_gen_condition.F.kp D_l_gen_condition.b .nil pass0 (pa_cons (pv 0) (pa_cons (pv 1) pa_nil))) (pg_lst (by rfl) (pgs_cons (pg_name (i := 10) sc_l_gen_block.nd rfl (.inl rfl)) (pgs_cons (pg_name (i := 11) sc_l_gen_block.nd rfl (.inl rfl)) pgs_nil))))
    (pss_cons (ps_set (i := 12) sc_l_gen_block.nd rfl (.inl rfl) (pe_call G_l_gen_simple (hr.mono (by omega)) (by rfl) D_l_gen_simple.g D_l_gen_simple.F.kp D_l_gen_simple.b .nil pass0 (pa_cons (pv 0) (pa_cons (pv 1) pa_nil))))
    (pss_cons (ps_set (i := 13) sc_l_gen_block.nd rfl (.inl rfl) pe_int)
    (pss_cons (ps_asg (pe_op op_sub (pe_ix ix_list (pe_ix ix_list (pv 1) pe_int (fun _ _ => rfl)) pe_int (fun _ _ => rfl)) pe_int) (pg_sub (pe_ix ix_list (pv 1) pe_int (fun _ _ => rfl)) pe_int set_list))
    (pss_cons (ps_set (i := 14) sc_l_gen_block.nd rfl (.inl rfl) (pe_andB (pe_cmpR op_gt (pv 2) pe_int (nomark _)) (pe_andB (pe_cmpR op_le (pe_op op_mul pe_int (pv 10)) (pv 5) (nomark _)) (pe_one (pe_cmpR op_ge (pe_ix ix_list (pe_ix ix_list (pv 1) pe_int (fun _ _ => rfl)) pe_int (fun _ _ => rfl)) pe_int (nomark _))))))
    (pss_cons (ps_if (PW.pt (pw_and (pt_cmpR op_eq (pv 9) pe_int (nomark _)) (pw_and1 (pt_cmpR op_le (pv 10) (pv 5) (nomark _)))))
    (pss_cons (ps_set (i := 13) sc_l_gen_block.nd rfl (.inl rfl) (pv 10))
    (pss_one (ps_set (i := 12) sc_l_gen_block.nd rfl (.inl rfl) (pe_tup (pa_cons pe_str (pa_cons pe_int (pa_cons (pv 11) pa_nil)))))))
    pss_nil)
    (pss_cons (ps_if (PW.pt (pw_and (pt_cmpR op_in_seq (pv 9) (pe_lst (pa_cons pe_int (pa_cons pe_int pa_nil))) (by rfl)) (pw_and1 (pt_val (pv 14)))))
    (pss_cons (ps_asg (pe_op op_sub (pe_ix ix_list (pe_ix ix_list (pv 1) pe_int (fun _ _ => rfl)) pe_int (fun _ _ => rfl)) pe_int) (pg_sub (pe_ix ix_list (pv 1) pe_int (fun _ _ => rfl)) pe_int set_list))
    (pss_cons (ps_set (i := 15) sc_l_gen_block.nd rfl (.inl rfl) (pe_call G_l_gen_block (hr.mono (by omega)) (by rfl) D_l_gen_block.g D_l_gen_block.F.kp D_l_gen_block.b .nil pass0 (pa_cons (pv 0) (pa_cons (pv 1) (pa_cons (pe_op op_sub (pv 2) pe_int) (pa_cons (pv 3) (pa_cons (pe_call G_l_take (hr.mono (by omega)) (by rfl) D_l_take.g D_l_take.F.kp D_l_take.b .nil pass0 (pa_cons (pv 0) (pa_cons pe_int pa_nil))) (pa_cons (pe_op op_fdiv (pv 5) (pe_op op_mul pe_int (pv 10))) pa_nil))))))))
    (pss_cons (ps_set (i := 16) sc_l_gen_block.nd rfl (.inl rfl) (pe_call G_l_gen_block (hr.mono (by omega)) (by rfl) D_l_gen_block.g D_l_gen_block.F.kp D_l_gen_block.b .nil pass0 (pa_cons (pv 0) (pa_cons (pv 1) (pa_cons (pe_op op_sub (pv 2) pe_int) (pa_cons (pv 3) (pa_cons (pe_call G_l_take (hr.mono (by omega)) (by rfl) D_l_take.g D_l_take.F.kp D_l_take.b .nil pass0 (pa_cons (pv 0) (pa_cons pe_int pa_nil))) (pa_cons (pe_op op_fdiv (pv 5) (pe_op op_mul pe_int (pv 10))) pa_nil))))))))
    (pss_cons (ps_set (i := 13) sc_l_gen_block.nd rfl (.inl rfl) (pe_op op_mul (pv 10) (pe_op op_add (pe_ix ix_list (pv 15) pe_int (fun _ _ => rfl)) (pe_ix ix_list (pv 16) pe_int (fun _ _ => rfl)))))
    (pss_one (ps_set (i := 12) sc_l_gen_block.nd rfl (.inl rfl) (pe_tup (pa_cons pe_str (pa_cons pe_int (pa_cons (pv 11) (pa_cons (pe_ix ix_list (pv 15) pe_int (fun _ _ => rfl)) (pa_cons (pe_ix ix_list (pv 16) pe_int (fun _ _ => rfl)) pa_nil))))))))))))
    pss_nil)
    (pss_cons (ps_if (PW.pt (pw_and (pt_cmpR op_eq (pv 9) pe_int (nomark _)) (pw_and (pt_val (pv 14)) (pw_and1 (pt_cmpR op_gt (pv 3) pe_int (nomark _))))))
    (pss_cons (ps_asg (pe_op op_sub (pe_ix ix_list (pe_ix ix_list (pv 1) pe_int (fun _ _ => rfl)) pe_int (fun _ _ => rfl)) pe_int) (pg_sub (pe_ix ix_list (pv 1) pe_int (fun _ _ => rfl)) pe_int set_list))
    (pss_cons (ps_set (i := 17) sc_l_gen_block.nd rfl (.inl rfl) (pe_call G_l_gen_block (hr.mono (by omega)) (by rfl) D_l_gen_block.g D_l_gen_block.F.kp D_l_gen_block.b .nil pass0 (pa_cons (pv 0) (pa_cons (pv 1) (pa_cons (pe_op op_sub (pv 2) pe_int) (pa_cons (pe_op op_sub (pv 3) pe_int) (pa_cons (pe_op op_add pe_int (pe_call G_l_take (hr.mono (by omega)) (by rfl) D_l_take.g D_l_take.F.kp D_l_take.b .nil pass0 (pa_cons (pv 0) (pa_cons pe_int pa_nil)))) (pa_cons (pe_op op_fdiv (pv 5) (pe_op op_mul pe_int (pv 10))) pa_nil))))))))
    (pss_cons (ps_set (i := 13) sc_l_gen_block.nd rfl (.inl rfl) (pe_op op_mul (pv 10) (pe_op op_add (pe_ix ix_list (pv 17) pe_int (fun _ _ => rfl)) pe_int)))
    (pss_cons (ps_set (i := 18) sc_l_gen_block.nd rfl (.inl rfl) (pe_tup (pa_cons (pe_call G_l_gen_plain (hr.mono (by omega)) (by rfl) D_l_gen_plain.g D_l_gen_plain.F.kp D_l_gen_plain.b .nil pass0 (pa_cons (pv 0) (pa_cons (pv 1) pa_nil))) (pa_cons (pe_call G_l_gen_plain (hr.mono (by omega)) (by rfl) D_l_gen_plain.g D_l_gen_plain.F.kp D_l_gen_plain.b .nil pass0 (pa_cons (pv 0) (pa_cons (pv 1) pa_nil))) pa_nil))))
    (pss_cons (ps_set (i := 19) sc_l_gen_block.nd rfl (.inl rfl) (pe_ix ix_list (pv 17) pe_int (fun _ _ => rfl)))
    (Evl.pss_cut (ps_if (PW.pt (pw_and (pt_cmpR op_gt (pe_call G_l_take (hr.mono (by omega)) (by rfl) D_l_take.g D_l_take.F.kp D_l_take.b .nil pass0 (pa_cons (pv 0) (pa_cons pe_int pa_nil))) pe_int (nomark _)) (pw_and1 (pt_cmpR op_gt (pe_ix ix_list (pe_ix ix_list (pv 1) pe_int (fun _ _ => rfl)) pe_int (fun _ _ => rfl)) pe_int (nomark _)))))
    (pss_cons (ps_asg (pe_op op_sub (pe_ix ix_list (pe_ix ix_list (pv 1) pe_int (fun _ _ => rfl)) pe_int (fun _ _ => rfl)) pe_int) (pg_sub (pe_ix ix_list (pv 1) pe_int (fun _ _ => rfl)) pe_int set_list))
    (pss_cons (ps_set (i := 20) sc_l_gen_block.nd rfl (.inl rfl) (pe_ix ix_list (pe_ix ix_list (pv 1) pe_int (fun _ _ => rfl)) (pe_call G_l_take (hr.mono (by omega)) (by rfl) D_l_take.g D_l_take.F.kp D_l_take.b .nil pass0 (pa_cons (pv 0) (pa_cons pe_int pa_nil))) (fun _ _ => rfl)))
    (pss_cons (ps_set (i := 13) sc_l_gen_block.nd rfl (.inl rfl) (pe_op op_add (pe_ix ix_list (pv 17) pe_int (fun _ _ => rfl)) pe_int))
    (pss_cons (ps_set (i := 11) sc_l_gen_block.nd rfl (.inl rfl) (pe_tup (pa_cons pe_str (pa_cons pe_str (pa_cons (pe_tup (pa_cons pe_str (pa_cons (pv 20) (pa_cons pe_int pa_nil)))) (pa_cons (pe_call G_l_gen_plain (hr.mono (by omega)) (by rfl) D_l_gen_plain.g D_l_gen_plain.F.kp D_l_gen_plain.b .nil pass0 (pa_cons (pv 0) (pa_cons (pv 1) pa_nil))) pa_nil))))))
    (pss_one (ps_set (i := 19) sc_l_gen_block.nd rfl (.inl rfl) (pe_op op_catB (pv 19) (pe_tup (pa_cons (pe_tup (pa_cons pe_str (pa_cons pe_int (pa_cons (pv 20) (pa_cons (pe_tup (pa_cons pe_str (pa_cons (pv 20) (pa_cons pe_int pa_nil)))) pa_nil))))) pa_nil)))))))))
    pss_nil)
    (pss_cons (ps_set (i := 21) sc_l_gen_block.nd rfl (.inl rfl) (pe_op op_rep01 (pe_tup (pa_cons (pe_tup (pa_cons pe_str (pa_cons pe_str (pa_cons (pe_tup (pa_cons pe_str (pa_cons pe_int pa_nil))) (pa_cons (pe_tup (pa_cons pe_str (pa_cons pe_int pa_nil))) pa_nil))))) pa_nil)) (pe_callTy call_int1 (by rfl) T.n_int (by decide +kernel) (pa_cons (pe_andB (pe_cmpR op_eq (pe_call G_l_take (hr.mono (by omega)) (by rfl) D_l_take.g D_l_take.F.kp D_l_take.b .nil pass0 (pa_cons (pv 0) (pa_cons pe_int pa_nil))) pe_int (nomark _)) (pe_one (pe_cmpR op_gt (pe_ix ix_list (pe_ix ix_list (pv 1) pe_int (fun _ _ => rfl)) pe_int (fun _ _ => rfl)) pe_int (nomark _)))) pa_nil))))
    (pss_cons (ps_asg (pe_op op_sub (pe_ix ix_list (pe_ix ix_list (pv 1) pe_int (fun _ _ => rfl)) pe_int (fun _ _ => rfl)) (pe_callB call_len_seq (by rfl) T.n_len PySem.boot_len (pa_cons (pv 21) pa_nil))) (pg_sub (pe_ix ix_list (pv 1) pe_int (fun _ _ => rfl)) pe_int set_list))
    (pss_one (ps_set (i := 12) sc_l_gen_block.nd rfl (.inl rfl) (pe_tup (pa_cons pe_str (pa_cons pe_int (pa_cons (pv 11) (pa_cons (pv 21) (pa_cons (pv 18) (pa_cons (pv 19) pa_nil)))))))))))))))))
    pss_nil)
    (pss_cons (ps_set (i := 5) sc_l_gen_block.nd rfl (.inl rfl) (pe_op op_fdiv (pv 5) (pv 13)))
    (pss_cons (ps_set (i := 7) sc_l_gen_block.nd rfl (.inl rfl) (pe_op op_mul (pv 7) (pv 13)))
    (pss_one (ps_expr (pe_bm PySem.F.plainAttrs_list PySem.F.slot_list_append PySem.F.type_list_append mt_append (pv 6) (pa_cons (pv 12) pa_nil)))))))))))))))))
    (pss_one (ps_ret (pe_lst (pa_cons (pv 7) (pa_cons (pe_callTy call_tuple_of (by rfl) T.n_tuple (by decide +kernel) (pa_cons (pv 6) pa_nil)) pa_nil)))))))), ?_⟩
      have hvs : x.vs = x.c5 :: x.c6 :: x.ns := by
        unfold Cd.vs
        rw [if_pos hxb]
      refine ⟨Nat.zero_le _, fun Bk nB => ?_⟩
      generalize hG : upd H Bk _ = G
      obtain ⟨s1, e1⟩ := new_of nB hG
      refine ⟨_, rfl, mny, rfl, by omega, by omega, ?_⟩
      refine for_range (lo := 0) (n := mny.toNat) (fun i σ J => ∃ (bu dn rr : Int) (y8 y9 y10 y11 y12 y13 y14 y15 y16 y17 y18 y19 y20 y21 : Option V) (xs : List V) (bs : List (BD ((m + 1) + 1))), σ = [some (.ref h), some (.ref a.c), some (.int dep), some (.int wh), some (.int mny), some (.int bu), some (.ref Bk), some (.int dn), y8, y9, y10, y11, y12, y13, y14, y15, y16, y17, y18, y19, y20, y21] ∧ BlkSt K H h d ds a x (m + 1) Bk bud J bu dn rr xs bs i) ⟨bud, 1, r, _, _, _, _, _, _, _, _, _, _, _, _, _, _, [], [], rfl, ⟨B2.same s1, st.same s1, e1, .nil, fun _ h => (List.not_mem_nil h).elim, fun _ h => (List.not_mem_nil h).elim, Nat.le_refl _, Nat.zero_le _, hbu1, by decide, by omega⟩⟩ (fun i σ J hi hP => ?_) (fun σ J hP => ?_)
      · obtain ⟨bu, dn, rr, y8, y9, y10, y11, y12, y13, y14, y15, y16, y17, y18, y19, y20, y21, xs, bs, rfl, z⟩ := hP
        refine ⟨_, rfl, a.c, _, _, _, rfl, rfl, SqL.of z.st.cx.c, atI_nat (j := 5) rfl, a.R, _, _, _, rfl, rfl, SqL.of z.st.cx.r, atI_nat (j := 0) rfl, _, _, rfl, rfl, _, rfl, ite2 (fun e => ?_) (fun e => ?_)⟩
        · refine ⟨_, rfl, _, rfl, Bk, _, rfl, .inl ⟨SqL.of z.e, fun tt nt => ?_⟩⟩
          exact ⟨by show 2 ≤ sizeLine; decide, fun t n => fin_blk q z (by omega) hm0 nt n⟩
        clear e
        refine ⟨_, rfl, h, d, ds, 7, rfl, by decide, z.st.hd, fun k J1 hk0 hk1 bk hdk _ => ?_⟩
        replace z := z.mv st nB (B2.but bk) (z.st.but bk hdk)
        refine ⟨_, rfl, _, rfl, h, d, ds, a, x, _, rfl, z.st, fun tc c vc co J2 c1 c3 bc stc oc kc ec => ⟨tc, _, rfl, SqL.of ec, rfl, _, _, rfl, _, _, rfl, rfl, ?_⟩⟩
        replace z := z.mv st nB (B2.but bc) stc
        refine ⟨_, rfl, _, rfl, h, d, ds, a, x, _, rfl, z.st, ⟨hxb, hlnd⟩, hps, fun vS s0 J3 bs0 sts dS o0 m0' => ?_⟩
        replace oc := z.st.od (B2.but bs0) oc
        replace z := z.mv st nB (B2.but bs0) sts
        refine ⟨_, rfl, a.c, _, _, _, rfl, rfl, SqL.of z.st.cx.c, atI_nat (j := 5) rfl, a.R, _, _, _, rfl, rfl, SqL.of z.st.cx.r, atI_nat (j := 0) rfl, _, _, rfl, rfl, _, rfl, a.c, _, _, _, rfl, rfl, SqL.of z.st.cx.c, atI_nat (j := 5) rfl, a.R, _, 0, 0, rfl, rfl, z.st.cx.r, rfl, ?_⟩
        generalize hGR0 : upd J3 a.R _ = J4
        replace oc := z.st.od (B2.ofR hGR0) oc
        replace dS := z.st.dp (B2.ofR hGR0) (Sm.noL o0) dS
        replace z := z.mv st nB (B2.ofR hGR0) (z.st.ofR hdR hGR0)
        have hbl := z.bu_le
        have hdl := z.dn_le
        have hb1 := z.bu1
        have hd1 := z.dn1
        refine ⟨_, rfl, _, _, rfl, rfl, ?_⟩
        refine ⟨decide (0 < dep), 2 * c ≤ bu, rfl, fun _ => ⟨_, rfl, _, _, rfl, rfl, .inl ⟨by decide, by decide⟩, _, rfl, _, _, rfl, rfl, decide (2 * c ≤ bu), True, rfl, fun _ => ⟨_, rfl, a.c, _, _, _, rfl, rfl, SqL.of z.st.cx.c, atI_nat (j := 5) rfl, a.R, _, _, _, rfl, rfl, SqL.of z.st.cx.r, atI_nat (j := 0) rfl, _, _, rfl, rfl, _, rfl, rfl, fun _ => trivial⟩, fun f hf => ⟨f, rfl, rfl, fun e => of_decide_eq_true (hf e).1⟩⟩, fun f hf => ?_⟩
        have hf : f = true → 0 < dep ∧ 2 * c ≤ bu := fun e => ⟨of_decide_eq_true (hf e).1, (hf e).2⟩
        have hk : k = 0 ∨ (k = 1 ∨ k = 2) ∨ k = 3 ∨ 3 < k := by omega
        rcases hk with hk | hk | hk | hk
        · have hk3 : ¬ k = 3 := by omega
          have hk12 : (decide ((1 : Int) = k) || (decide ((2 : Int) = k) || false)) = false := by rw [decide_eq_false (by omega), decide_eq_false (by omega)]; rfl
          refine ⟨_, rfl, rfl, _, rfl, ?_⟩
          rw [int_dec, decide_eq_true hk]
          refine iteT ⟨_, rfl, _, rfl, _, _, rfl, rfl, _, rfl, ite2 (fun c5 => ?_) (fun c5 => ?_)⟩
          · have c5 := of_decide_eq_true c5
            refine ⟨_, rfl, ?_⟩
            refine ⟨_, rfl, by show 3 ≤ sizeLine; decide, fun tCH nCH => ?_⟩
            generalize hGCH : upd J4 tCH _ = J5
            obtain ⟨sCH, eCH⟩ := new_of nCH hGCH
            replace oc := z.st.od (B2.same sCH) oc
            replace dS := z.st.dp (B2.same sCH) (Sm.noL o0) dS
            replace z := z.mv st nB (B2.same sCH) (z.st.same sCH)
            have dc := oc.dp
            have nc := oc.nl
            have ck : AtM x (Sm.oth "check" 0 [encC 4 co]) := .inr (.inr (.inl ⟨rfl, co, rfl, kc⟩))
            have dS : Dp K J5 (.ref tCH) (encD ((m + 1) + 1) (show BD ((m + 1) + 1) from ((Sm.oth "check" 0 [encC 4 co]).to : Sf (BD (m + 1))))) := .tup (SqT.of eCH) (.cons (.str _) (.cons (.int _) (.cons dc .nil)))
            have kS : (Sm.oth "check" 0 [encC 4 co]).ok := ⟨by decide +kernel, by show (noL (encC 4 co) && true) = true; rw [nc]; rfl⟩
            refine ⟨_, rfl, by show 2 ≤ sizeLine; decide, fun tL5 nL5 => ?_⟩
            generalize hGL5 : upd J5 tL5 _ = J6
            obtain ⟨sL5, eL5⟩ := new_of nL5 hGL5
            replace dS := z.st.dp (B2.same sL5) (noL_D ((m + 1) + 1) (show BD ((m + 1) + 1) from ((Sm.oth "check" 0 [encC 4 co]).to : Sf (BD (m + 1)))) (Sm.ok_to (B := BD (m + 1)) (p := okD (m + 1)) kS)) dS
            replace z := z.mv st nB (B2.same sL5) (z.st.same sL5)
            refine ⟨tL5, _, rfl, .inl (SqL.of eL5), rfl, rfl, _, rfl, ?_⟩
            show if inV (.int k) [.int 1, .int 2] = true then _ else _
            rw [in12, hk12]
            refine iteF ?_
            refine iteF ?_
            refine ⟨_, rfl, rfl, _, rfl, ?_⟩
            rw [int_dec, decide_eq_false hk3]
            refine iteF ?_
            refine iteF ?_
            refine ⟨_, rfl, _, rfl, _, _, rfl, rfl, ⟨by omega, by omega⟩, ?_⟩
            refine ⟨_, rfl, _, rfl, _, _, rfl, rfl, .inl ⟨by omega, by omega⟩, ?_⟩
            refine ⟨_, rfl, .inl ⟨rfl, _, SqL.of z.e⟩, _, rfl, Bk, _, _, rfl, rfl, z.e, small_sz5 (by have := z.xl; omega), ?_⟩
            have zz := z.next st nB dS (Sm.ok_to kS) (sm_of ck) (sm_len _) c1 c5
            exact ⟨_, _, _, _, _, _, _, _, _, _, _, _, _, _, _, _, _, _, _, rfl, zz⟩
          · refine ⟨_, rfl, by show 2 ≤ sizeLine; decide, fun tL6 nL6 => ?_⟩
            generalize hGL6 : upd J4 tL6 _ = J7
            obtain ⟨sL6, eL6⟩ := new_of nL6 hGL6
            replace oc := z.st.od (B2.same sL6) oc
            replace dS := z.st.dp (B2.same sL6) (Sm.noL o0) dS
            replace z := z.mv st nB (B2.same sL6) (z.st.same sL6)
            refine ⟨tL6, _, rfl, .inl (SqL.of eL6), rfl, rfl, _, rfl, ?_⟩
            show if inV (.int k) [.int 1, .int 2] = true then _ else _
            rw [in12, hk12]
            refine iteF ?_
            refine iteF ?_
            refine ⟨_, rfl, rfl, _, rfl, ?_⟩
            rw [int_dec, decide_eq_false hk3]
            refine iteF ?_
            refine iteF ?_
            refine ⟨_, rfl, _, rfl, _, _, rfl, rfl, ⟨by omega, by omega⟩, ?_⟩
            refine ⟨_, rfl, _, rfl, _, _, rfl, rfl, .inl ⟨by omega, by omega⟩, ?_⟩
            refine ⟨_, rfl, .inl ⟨rfl, _, SqL.of z.e⟩, _, rfl, Bk, _, _, rfl, rfl, z.e, small_sz5 (by have := z.xl; omega), ?_⟩
            have zz := z.next st nB (show Dp K _ vS (encD ((m + 1) + 1) (show BD ((m + 1) + 1) from (s0.to : Sf (BD (m + 1))))) by rw [show encD ((m + 1) + 1) (show BD ((m + 1) + 1) from (s0.to : Sf (BD (m + 1)))) = s0.enc from Sm.enc_to s0]; exact dS) (Sm.ok_to o0) (sm_of m0') (sm_len s0) (by decide) z.bu1
            exact ⟨_, _, _, _, _, _, _, _, _, _, _, _, _, _, _, _, _, _, _, rfl, zz⟩
        · have k0 : ¬ k = 0 := by omega
          have hk3 : ¬ k = 3 := by omega
          have hk12 : (decide ((1 : Int) = k) || (decide ((2 : Int) = k) || false)) = true := by rcases hk with rfl | rfl <;> rfl
          refine ⟨_, rfl, rfl, _, rfl, ?_⟩
          rw [int_dec, decide_eq_false k0]
          refine iteF ?_
          refine iteF ?_
          refine ⟨_, rfl, by show 2 ≤ sizeLine; decide, fun tL8 nL8 => ?_⟩
          generalize hGL8 : upd J4 tL8 _ = J9
          obtain ⟨sL8, eL8⟩ := new_of nL8 hGL8
          replace oc := z.st.od (B2.same sL8) oc
          replace dS := z.st.dp (B2.same sL8) (Sm.noL o0) dS
          replace z := z.mv st nB (B2.same sL8) (z.st.same sL8)
          refine ⟨tL8, _, rfl, .inl (SqL.of eL8), rfl, rfl, _, rfl, ?_⟩
          show if inV (.int k) [.int 1, .int 2] = true then _ else _
          rw [in12, hk12]
          refine iteT ⟨_, rfl, f, rfl, ?_⟩
          cases f with
          | false =>
            refine iteF ?_
            refine ⟨_, rfl, rfl, _, rfl, ?_⟩
            rw [int_dec, decide_eq_false hk3]
            refine iteF ?_
            refine iteF ?_
            refine ⟨_, rfl, _, rfl, _, _, rfl, rfl, ⟨by omega, by omega⟩, ?_⟩
            refine ⟨_, rfl, _, rfl, _, _, rfl, rfl, .inl ⟨by omega, by omega⟩, ?_⟩
            refine ⟨_, rfl, .inl ⟨rfl, _, SqL.of z.e⟩, _, rfl, Bk, _, _, rfl, rfl, z.e, small_sz5 (by have := z.xl; omega), ?_⟩
            have zz := z.next st nB (show Dp K _ vS (encD ((m + 1) + 1) (show BD ((m + 1) + 1) from (s0.to : Sf (BD (m + 1))))) by rw [show encD ((m + 1) + 1) (show BD ((m + 1) + 1) from (s0.to : Sf (BD (m + 1)))) = s0.enc from Sm.enc_to s0]; exact dS) (Sm.ok_to o0) (sm_of m0') (sm_len s0) (by decide) z.bu1
            exact ⟨_, _, _, _, _, _, _, _, _, _, _, _, _, _, _, _, _, _, _, rfl, zz⟩
          | true =>
            obtain ⟨hp1, hp2⟩ := hf rfl
            obtain ⟨hh1, hh2, hh3⟩ := half_le c1 c3 hp2
            refine iteT ?_
            refine ⟨_, rfl, a.c, _, _, _, rfl, rfl, SqL.of z.st.cx.c, atI_nat (j := 5) rfl, a.R, _, _, _, rfl, rfl, SqL.of z.st.cx.r, atI_nat (j := 0) rfl, _, _, rfl, rfl, _, rfl, a.c, _, _, _, rfl, rfl, SqL.of z.st.cx.c, atI_nat (j := 5) rfl, a.R, _, 0, 0, rfl, rfl, z.st.cx.r, rfl, ?_⟩
            generalize hGR1 : upd J9 a.R _ = J10
            replace oc := z.st.od (B2.ofR hGR1) oc
            replace z := z.mv st nB (B2.ofR hGR1) (z.st.ofR hdR hGR1)
            refine ⟨_, rfl, _, rfl, _, rfl, _, _, rfl, rfl, _, rfl, _, rfl, h, d, ds, 3, rfl, by decide, z.st.hd, fun rA J11 q0A q1A bA hdA _ => ?_⟩
            replace oc := z.st.od (B2.but bA) oc
            replace z := z.mv st nB (B2.but bA) (z.st.but bA hdA)
            refine ⟨_, rfl, _, rfl, _, _, rfl, rfl, .inl ⟨by decide, by decide⟩, _, _, rfl, rfl, ⟨by omega, by omega⟩, h, d, ds, a, x, _, dep - 1, wh, rA, bu / (2 * c), rfl, by omega, z.st, hdR, hxb, hlnd, hps, by omega, by omega, hh1, by omega, fun tbA dnA rrA vbA bbA J12 bxA stxA exA dbA okA atA lnA flA d1A d2A => ?_⟩
            replace oc := z.st.od (bxA) oc
            replace z := z.mv st nB (bxA) stxA
            have flxA : (flatB _ bbA).length ≤ 2 * szD m := Nat.le_trans flA (Nat.mul_le_mul_right _ (by omega))
            refine ⟨_, rfl, _, rfl, _, rfl, _, _, rfl, rfl, _, rfl, _, rfl, h, d, ds, 2, rfl, by decide, z.st.hd, fun rB J13 q0B q1B bB hdB _ => ?_⟩
            replace oc := z.st.od (B2.but bB) oc
            replace dbA := z.st.dp (B2.but bB) (noL_blk okA) dbA
            replace exA := z.st.lst2 (B2.but bB) exA
            replace z := z.mv st nB (B2.but bB) (z.st.but bB hdB)
            refine ⟨_, rfl, _, rfl, _, _, rfl, rfl, .inl ⟨by decide, by decide⟩, _, _, rfl, rfl, ⟨by omega, by omega⟩, h, d, ds, a, x, _, dep - 1, wh, rB, bu / (2 * c), rfl, by omega, z.st, hdR, hxb, hlnd, hps, by omega, by omega, hh1, by omega, fun tbB dnB rrB vbB bbB J14 bxB stxB exB dbB okB atB lnB flB d1B d2B => ?_⟩
            replace oc := z.st.od (bxB) oc
            replace dbA := z.st.dp (bxB) (noL_blk okA) dbA
            replace exA := z.st.lst2 (bxB) exA
            replace z := z.mv st nB (bxB) stxB
            have flxB : (flatB _ bbB).length ≤ 1 * szD m := Nat.le_trans flB (Nat.mul_le_mul_right _ (by omega))
            have p1 := br_pos c1 (show 1 ≤ dnA + dnB by omega)
            have p2 := br_le c1 d2A d2B hh2
            refine ⟨_, rfl, _, rfl, tbA, _, _, _, rfl, rfl, SqL.of exA, atI_nat (j := 0) rfl, _, rfl, tbB, _, _, _, rfl, rfl, SqL.of exB, atI_nat (j := 0) rfl, _, _, rfl, rfl, _, _, rfl, rfl, .inl ⟨by omega, by omega⟩, ?_⟩
            refine ⟨_, rfl, _, rfl, tbA, _, _, _, rfl, rfl, SqL.of exA, atI_nat (j := 1) rfl, _, rfl, tbB, _, _, _, rfl, rfl, SqL.of exB, atI_nat (j := 1) rfl, by show 5 ≤ sizeLine; decide, fun tIF nIF => ?_⟩
            generalize hGIF : upd J14 tIF _ = J15
            obtain ⟨sIF, eIF⟩ := new_of nIF hGIF
            replace oc := z.st.od (B2.same sIF) oc
            replace dbA := z.st.dp (B2.same sIF) (noL_blk okA) dbA
            replace dbB := z.st.dp (B2.same sIF) (noL_blk okB) dbB
            replace exA := z.st.lst2 (B2.same sIF) exA
            replace exB := z.st.lst2 (B2.same sIF) exB
            replace z := z.mv st nB (B2.same sIF) (z.st.same sIF)
            have dc := oc.dp
            have nc := oc.nl
            generalize hcd : encC 4 co = cd at dc nc
            have dS : Dp K J15 (.ref tIF) (encD ((m + 1) + 1) (show BD ((m + 1) + 1) from (Sf.iff 0 cd bbA bbB : Sf (BD (m + 1))))) := .tup (SqT.of eIF) (.cons (.str _) (.cons (.int _) (.cons dc (.cons dbA (.cons dbB .nil)))))
            refine ⟨_, rfl, rfl, _, rfl, ?_⟩
            rw [int_dec, decide_eq_false hk3]
            refine iteF ?_
            refine iteF ?_
            have lS : (flatD ((m + 1) + 1) (show BD ((m + 1) + 1) from (Sf.iff 0 cd bbA bbB : Sf (BD (m + 1))))).length ≤ szD (m + 1) := by
              rw [if_len]
              show _ ≤ 1 + 3 * szD m
              omega
            refine ⟨_, rfl, _, rfl, _, _, rfl, rfl, ⟨by omega, by omega⟩, ?_⟩
            refine ⟨_, rfl, _, rfl, _, _, rfl, rfl, .inl ⟨by omega, by omega⟩, ?_⟩
            refine ⟨_, rfl, .inl ⟨rfl, _, SqL.of z.e⟩, _, rfl, Bk, _, _, rfl, rfl, z.e, small_sz5 (by have := z.xl; omega), ?_⟩
            have zz := z.next st nB dS ⟨nc, okA, okB⟩ (if_flat (show AtS x (Sf.iff 0 cd bbA bbB : Sf (BD (m + 1))) from ⟨co, hcd.symm, kc⟩) atA atB) lS p1 p2
            exact ⟨_, _, _, _, _, _, _, _, _, _, _, _, _, _, _, _, _, _, _, rfl, zz⟩
        · have k0 : ¬ k = 0 := by omega
          have hk12 : (decide ((1 : Int) = k) || (decide ((2 : Int) = k) || false)) = false := by rw [decide_eq_false (by omega), decide_eq_false (by omega)]; rfl
          refine ⟨_, rfl, rfl, _, rfl, ?_⟩
          rw [int_dec, decide_eq_false k0]
          refine iteF ?_
          refine iteF ?_
          refine ⟨_, rfl, by show 2 ≤ sizeLine; decide, fun tL15 nL15 => ?_⟩
          generalize hGL15 : upd J4 tL15 _ = J16
          obtain ⟨sL15, eL15⟩ := new_of nL15 hGL15
          replace oc := z.st.od (B2.same sL15) oc
          replace dS := z.st.dp (B2.same sL15) (Sm.noL o0) dS
          replace z := z.mv st nB (B2.same sL15) (z.st.same sL15)
          refine ⟨tL15, _, rfl, .inl (SqL.of eL15), rfl, rfl, _, rfl, ?_⟩
          show if inV (.int k) [.int 1, .int 2] = true then _ else _
          rw [in12, hk12]
          refine iteF ?_
          refine iteF ?_
          refine ⟨_, rfl, rfl, _, rfl, ?_⟩
          rw [int_dec, decide_eq_true hk]
          refine iteT ⟨_, rfl, f, rfl, ?_⟩
          cases f with
          | false =>
            refine iteF ?_
            refine iteF ?_
            refine ⟨_, rfl, _, rfl, _, _, rfl, rfl, ⟨by omega, by omega⟩, ?_⟩
            refine ⟨_, rfl, _, rfl, _, _, rfl, rfl, .inl ⟨by omega, by omega⟩, ?_⟩
            refine ⟨_, rfl, .inl ⟨rfl, _, SqL.of z.e⟩, _, rfl, Bk, _, _, rfl, rfl, z.e, small_sz5 (by have := z.xl; omega), ?_⟩
            have zz := z.next st nB (show Dp K _ vS (encD ((m + 1) + 1) (show BD ((m + 1) + 1) from (s0.to : Sf (BD (m + 1))))) by rw [show encD ((m + 1) + 1) (show BD ((m + 1) + 1) from (s0.to : Sf (BD (m + 1)))) = s0.enc from Sm.enc_to s0]; exact dS) (Sm.ok_to o0) (sm_of m0') (sm_len s0) (by decide) z.bu1
            exact ⟨_, _, _, _, _, _, _, _, _, _, _, _, _, _, _, _, _, _, _, rfl, zz⟩
          | true =>
            obtain ⟨hp1, hp2⟩ := hf rfl
            refine iteT ⟨_, rfl, _, _, rfl, rfl, _, rfl, ite2 (fun e => ?_) (fun e => ?_)⟩
            · clear e
              obtain ⟨hh1, hh2, hh3⟩ := half_le c1 c3 hp2
              refine ⟨_, rfl, a.c, _, _, _, rfl, rfl, SqL.of z.st.cx.c, atI_nat (j := 5) rfl, a.R, _, _, _, rfl, rfl, SqL.of z.st.cx.r, atI_nat (j := 0) rfl, _, _, rfl, rfl, _, rfl, a.c, _, _, _, rfl, rfl, SqL.of z.st.cx.c, atI_nat (j := 5) rfl, a.R, _, 0, 0, rfl, rfl, z.st.cx.r, rfl, ?_⟩
              generalize hGR1 : upd J16 a.R _ = J17
              replace oc := z.st.od (B2.ofR hGR1) oc
              replace z := z.mv st nB (B2.ofR hGR1) (z.st.ofR hdR hGR1)
              refine ⟨_, rfl, _, rfl, _, rfl, _, _, rfl, rfl, _, rfl, _, _, rfl, rfl, _, rfl, h, d, ds, 2, rfl, by decide, z.st.hd, fun rA J18 q0A q1A bA hdA _ => ?_⟩
              replace oc := z.st.od (B2.but bA) oc
              replace z := z.mv st nB (B2.but bA) (z.st.but bA hdA)
              refine ⟨_, _, rfl, rfl, _, rfl, _, rfl, _, _, rfl, rfl, .inl ⟨by decide, by decide⟩, _, _, rfl, rfl, ⟨by omega, by omega⟩, h, d, ds, a, x, _, dep - 1, (wh - 1), (1 + rA), bu / (2 * c), rfl, by omega, z.st, hdR, hxb, hlnd, hps, by omega, by omega, hh1, by omega, fun tbA dnA rrA vbA bbA J19 bxA stxA exA dbA okA atA lnA flA d1A d2A => ?_⟩
              replace oc := z.st.od (bxA) oc
              replace z := z.mv st nB (bxA) stxA
              have flxA : (flatB _ bbA).length ≤ 2 * szD m := Nat.le_trans flA (Nat.mul_le_mul_right _ (by omega))
              have p1 := br_pos c1 (show 1 ≤ dnA + 1 by omega)
              have p2 := br_le c1 d2A hh1 hh2
              have p3 : dnA + 1 ≤ bu := by
                have := br_le (c := 1) (b := bu) (by decide) d2A hh1 (by have := Int.mul_le_mul_of_nonneg_right (show 2 * 1 ≤ 2 * c by omega) (show 0 ≤ bu / (2 * c) by omega); omega)
                omega
              refine ⟨_, rfl, _, rfl, tbA, _, _, _, rfl, rfl, SqL.of exA, atI_nat (j := 0) rfl, _, _, rfl, rfl, _, _, rfl, rfl, .inl ⟨by omega, by omega⟩, ?_⟩
              refine ⟨_, rfl, _, rfl, h, d, ds, a, x, _, rfl, z.st, fun vF1 tpF1 J20 bF1 stF1 oF1 kkF1 => ?_⟩
              replace oc := z.st.od (B2.but bF1) oc
              replace dbA := z.st.dp (B2.but bF1) (noL_blk okA) dbA
              replace exA := z.st.lst2 (B2.but bF1) exA
              replace z := z.mv st nB (B2.but bF1) stF1
              have oF1 : Od K J20 vF1 tpF1.enc := ⟨oF1, noL_pl _⟩
              refine ⟨_, rfl, _, rfl, h, d, ds, a, x, _, rfl, z.st, fun vF2 tpF2 J21 bF2 stF2 oF2 kkF2 => ?_⟩
              replace oc := z.st.od (B2.but bF2) oc
              replace oF1 := z.st.od (B2.but bF2) oF1
              replace dbA := z.st.dp (B2.but bF2) (noL_blk okA) dbA
              replace exA := z.st.lst2 (B2.but bF2) exA
              replace z := z.mv st nB (B2.but bF2) stF2
              have oF2 : Od K J21 vF2 tpF2.enc := ⟨oF2, noL_pl _⟩
              refine ⟨by show 2 ≤ sizeLine; decide, fun tFA nFA => ?_⟩
              generalize hGFA : upd J21 tFA _ = J22
              obtain ⟨sFA, eFA⟩ := new_of nFA hGFA
              replace oc := z.st.od (B2.same sFA) oc
              replace oF1 := z.st.od (B2.same sFA) oF1
              replace oF2 := z.st.od (B2.same sFA) oF2
              replace dbA := z.st.dp (B2.same sFA) (noL_blk okA) dbA
              replace exA := z.st.lst2 (B2.same sFA) exA
              replace z := z.mv st nB (B2.same sFA) (z.st.same sFA)
              have oFA : Od K J22 (.ref tFA) (.tuple [tpF1.enc, tpF2.enc]) := .tup eFA (.cons oF1 (.cons oF2 .nil))
              refine ⟨_, rfl, tbA, _, _, _, rfl, rfl, SqL.of exA, atI_nat (j := 1) rfl, ?_⟩
              refine ⟨fun σ' J' => ∃ (y20 : Option V) (bd rr9 : Int) (vc' vI : V) (co' : CoD 4) (BB : List (BD (m + 1))), σ' = [some (.ref h), some (.ref a.c), some (.int dep), some (.int wh), some (.int mny), some (.int bu), some (.ref Bk), some (.int dn), some (.int (0 + (i : Nat))), some (.int k), some (.int c), some vc', some vS, some (.int bd), some (.bl true), y15, y16, some (.ref tbA), some (.ref tFA), some vI, y20, y21] ∧ BlkSt K H h d ds a x (m + 1) Bk bud J' bu dn rr9 xs bs i ∧ Od K J' vc' (encC 4 co') ∧ okC x.vs x.ls 4 co' ∧ Od K J' (.ref tFA) (.tuple [tpF1.enc, tpF2.enc]) ∧ Dp K J' vI (blkE (m + 1) BB) ∧ (∀ s, s ∈ BB → okD (m + 1) s) ∧ (∀ t, t ∈ flatB (m + 1) BB → AtS x t.s) ∧ (flatB (m + 1) BB).length ≤ 2 * szD m + 1 ∧ 1 ≤ bd ∧ bd ≤ bu, ?_, fun σ' J' hM => ?_⟩
              · refine ⟨_, rfl, h, d, ds, 3, rfl, by decide, z.st.hd, fun rC1 J23 q0C1 q1C1 bC1 hdC1 _ => ?_⟩
                replace oc := z.st.od (B2.but bC1) oc
                replace oFA := z.st.od (B2.but bC1) oFA
                replace dbA := z.st.dp (B2.but bC1) (noL_blk okA) dbA
                replace exA := z.st.lst2 (B2.but bC1) exA
                replace z := z.mv st nB (B2.but bC1) (z.st.but bC1 hdC1)
                refine ⟨_, _, rfl, rfl, _, rfl, ite2 (fun e => ⟨_, rfl, a.c, _, _, _, rfl, rfl, SqL.of z.st.cx.c, atI_nat (j := 5) rfl, a.R, _, _, _, rfl, rfl, SqL.of z.st.cx.r, atI_nat (j := 0) rfl, _, _, rfl, rfl, _, rfl, ite2 (fun e2 => ?_) (fun e2 => ?_)⟩) (fun e => ?_)⟩
                · refine ⟨_, rfl, a.c, _, _, _, rfl, rfl, SqL.of z.st.cx.c, atI_nat (j := 5) rfl, a.R, _, _, _, rfl, rfl, SqL.of z.st.cx.r, atI_nat (j := 0) rfl, _, _, rfl, rfl, _, rfl, a.c, _, _, _, rfl, rfl, SqL.of z.st.cx.c, atI_nat (j := 5) rfl, a.R, _, 0, 0, rfl, rfl, z.st.cx.r, rfl, ?_⟩
                  generalize hGR2 : upd J23 a.R _ = J24
                  replace oc := z.st.od (B2.ofR hGR2) oc
                  replace oFA := z.st.od (B2.ofR hGR2) oFA
                  replace dbA := z.st.dp (B2.ofR hGR2) (noL_blk okA) dbA
                  replace exA := z.st.lst2 (B2.ofR hGR2) exA
                  replace z := z.mv st nB (B2.ofR hGR2) (z.st.ofR hdR hGR2)
                  refine ⟨_, rfl, a.c, _, _, _, rfl, rfl, SqL.of z.st.cx.c, atI_nat (j := 3) rfl, _, rfl, h, d, ds, 2, rfl, by decide, z.st.hd, fun rC2 J25 q0C2 q1C2 bC2 hdC2 _ => ?_⟩
                  replace oc := z.st.od (B2.but bC2) oc
                  replace oFA := z.st.od (B2.but bC2) oFA
                  replace dbA := z.st.dp (B2.but bC2) (noL_blk okA) dbA
                  replace exA := z.st.lst2 (B2.but bC2) exA
                  replace z := z.mv st nB (B2.but bC2) (z.st.but bC2 hdC2)
                  obtain ⟨v, hv, e⟩ := atI_in (xs := [.str x.c5, .str x.c6]) (i := rC2) q0C2 (by show _ < (2 : Int); omega)
                  obtain ⟨yy, rfl, hyy⟩ : ∃ yy, v = .str yy ∧ yy ∈ x.vs := by
                    simp only [List.mem_cons, List.not_mem_nil, or_false] at hv
                    rcases hv with rfl | rfl <;> exact ⟨_, rfl, by rw [hvs]; simp⟩
                  refine ⟨a.Cn, _, _, _, rfl, rfl, SqL.of z.st.cx.cn, e, ?_⟩
                  refine ⟨_, rfl, tbA, _, _, _, rfl, rfl, SqL.of exA, atI_nat (j := 0) rfl, _, _, rfl, rfl, ?_⟩
                  refine ⟨_, rfl, by show 3 ≤ sizeLine; decide, fun tV1 nV1 => ?_⟩
                  generalize hGV1 : upd J25 tV1 _ = J26
                  obtain ⟨sV1, eV1⟩ := new_of nV1 hGV1
                  replace oc := z.st.od (B2.same sV1) oc
                  replace oFA := z.st.od (B2.same sV1) oFA
                  replace dbA := z.st.dp (B2.same sV1) (noL_blk okA) dbA
                  replace exA := z.st.lst2 (B2.same sV1) exA
                  replace z := z.mv st nB (B2.same sV1) (z.st.same sV1)
                  have oV1 : Od K J26 (.ref tV1) (Pl.var yy 0).enc := .tup eV1 (.cons (.str _) (.cons (.str _) (.cons (.int _) .nil)))
                  refine ⟨_, rfl, _, rfl, h, d, ds, a, x, _, rfl, z.st, fun vP3 tpP3 J27 bP3 stP3 oP3 kkP3 => ?_⟩
                  replace oc := z.st.od (B2.but bP3) oc
                  replace oFA := z.st.od (B2.but bP3) oFA
                  replace oV1 := z.st.od (B2.but bP3) oV1
                  replace dbA := z.st.dp (B2.but bP3) (noL_blk okA) dbA
                  replace exA := z.st.lst2 (B2.but bP3) exA
                  replace z := z.mv st nB (B2.but bP3) stP3
                  have oP3 : Od K J27 vP3 tpP3.enc := ⟨oP3, noL_pl _⟩
                  refine ⟨by show 4 ≤ sizeLine; decide, fun tCM nCM => ?_⟩
                  generalize hGCM : upd J27 tCM _ = J28
                  obtain ⟨sCM, eCM⟩ := new_of nCM hGCM
                  replace oc := z.st.od (B2.same sCM) oc
                  replace oFA := z.st.od (B2.same sCM) oFA
                  replace oV1 := z.st.od (B2.same sCM) oV1
                  replace oP3 := z.st.od (B2.same sCM) oP3
                  replace dbA := z.st.dp (B2.same sCM) (noL_blk okA) dbA
                  replace exA := z.st.lst2 (B2.same sCM) exA
                  replace z := z.mv st nB (B2.same sCM) (z.st.same sCM)
                  have oc : Od K J28 (.ref tCM) (encC 4 (.inl ⟨"<", .pl (.var yy 0), .pl tpP3⟩ : CoD 4)) := .tup eCM (.cons (.str _) (.cons (.str _) (.cons oV1 (.cons oP3 .nil))))
                  refine ⟨_, rfl, _, rfl, _, rfl, by show 3 ≤ sizeLine; decide, fun tV2 nV2 => ?_⟩
                  generalize hGV2 : upd J28 tV2 _ = J29
                  obtain ⟨sV2, eV2⟩ := new_of nV2 hGV2
                  replace oc := z.st.od (B2.same sV2) oc
                  replace oFA := z.st.od (B2.same sV2) oFA
                  replace dbA := z.st.dp (B2.same sV2) (noL_blk okA) dbA
                  replace exA := z.st.lst2 (B2.same sV2) exA
                  replace z := z.mv st nB (B2.same sV2) (z.st.same sV2)
                  have dV2 : Dp K J29 (.ref tV2) (.tuple [.str "var", .str yy, .int 1]) := .tup (SqT.of eV2) (.cons (.str _) (.cons (.str _) (.cons (.int _) .nil)))
                  refine ⟨by show 4 ≤ sizeLine; decide, fun tST nST => ?_⟩
                  generalize hGST : upd J29 tST _ = J30
                  obtain ⟨sST, eST⟩ := new_of nST hGST
                  replace oc := z.st.od (B2.same sST) oc
                  replace oFA := z.st.od (B2.same sST) oFA
                  replace dbA := z.st.dp (B2.same sST) (noL_blk okA) dbA
                  replace dV2 := z.st.dp (B2.same sST) rfl dV2
                  replace exA := z.st.lst2 (B2.same sST) exA
                  replace z := z.mv st nB (B2.same sST) (z.st.same sST)
                  have dST : Dp K J30 (.ref tST) (.tuple [.str "set", .int 0, .str yy, (.tuple [.str "var", .str yy, .int 1])]) := .tup (SqT.of eST) (.cons (.str _) (.cons (.int _) (.cons (.str _) (.cons dV2 .nil))))
                  refine ⟨by show 1 ≤ sizeLine; decide, fun tIN nIN => ?_⟩
                  generalize hGIN : upd J30 tIN _ = J31
                  obtain ⟨sIN, eIN⟩ := new_of nIN hGIN
                  replace oc := z.st.od (B2.same sIN) oc
                  replace oFA := z.st.od (B2.same sIN) oFA
                  replace dbA := z.st.dp (B2.same sIN) (noL_blk okA) dbA
                  replace dST := z.st.dp (B2.same sIN) rfl dST
                  replace exA := z.st.lst2 (B2.same sIN) exA
                  replace z := z.mv st nB (B2.same sIN) (z.st.same sIN)
                  obtain ⟨tI, yI, rfl, hI, dI⟩ := dp_tup_inv dbA
                  have hIl : yI.length ≤ 3 := by
                    rw [dpa_len dI, List.length_map]
                    omega
                  refine ⟨tI, tIN, yI, _, rfl, rfl, hI, SqT.of eIN, sz5 (by show yI.length + 1 ≤ 100000; omega), fun pI J32 sI hsI => ?_⟩
                  have dbA : Dp K J31 (.ref tI) (blkE (m + 1) bbA) := .tup hI dI
                  replace oc := z.st.od (B2.same sI) oc
                  replace oFA := z.st.od (B2.same sI) oFA
                  replace dbA := z.st.dp (B2.same sI) (noL_blk okA) dbA
                  replace dST := z.st.dp (B2.same sI) rfl dST
                  replace exA := z.st.lst2 (B2.same sI) exA
                  replace z := z.mv st nB (B2.same sI) (z.st.same sI)
                  have dI2 : Dp K J32 (.ref pI) (blkE (m + 1) (bbA ++ [(show BD (m + 1) from (Sf.oth "set" 0 [.str yy, (.tuple [.str "var", .str yy, .int 1])] : Sf (BD m)))])) := by
                    refine .tup hsI ?_
                    rw [List.map_append]
                    exact dpa_snoc (dpa_same sI _ _ dI) dST
                  have okI : ∀ s, s ∈ bbA ++ [(show BD (m + 1) from (Sf.oth "set" 0 [.str yy, (.tuple [.str "var", .str yy, .int 1])] : Sf (BD m)))] → okD (m + 1) s := fun s hs => by
                    rcases List.mem_append.mp hs with hs | hs
                    · exact okA s hs
                    · rw [List.mem_singleton.mp hs]
                      exact ⟨by decide +kernel, rfl⟩
                  have atI9 : ∀ t, t ∈ flatB (m + 1) (bbA ++ [(show BD (m + 1) from (Sf.oth "set" 0 [.str yy, (.tuple [.str "var", .str yy, .int 1])] : Sf (BD m)))]) → AtS x t.s := fun t ht => by
                    have e8 : flatB (m + 1) (bbA ++ [(show BD (m + 1) from (Sf.oth "set" 0 [.str yy, (.tuple [.str "var", .str yy, .int 1])] : Sf (BD m)))]) = flatB (m + 1) bbA ++ [⟨m, Sf.oth "set" 0 [.str yy, (.tuple [.str "var", .str yy, .int 1])]⟩] := flatB_snoc _ _ _
                    rw [e8] at ht
                    rcases List.mem_append.mp ht with ht | ht
                    · exact atA t ht
                    · rw [List.mem_singleton.mp ht]
                      exact .inl ⟨rfl, yy, .pl (.var yy 1), rfl, hyy, hyy⟩
                  have lnI : (flatB (m + 1) (bbA ++ [(show BD (m + 1) from (Sf.oth "set" 0 [.str yy, (.tuple [.str "var", .str yy, .int 1])] : Sf (BD m)))])).length ≤ 2 * szD m + 1 := by
                    have e8 : flatB (m + 1) (bbA ++ [(show BD (m + 1) from (Sf.oth "set" 0 [.str yy, (.tuple [.str "var", .str yy, .int 1])] : Sf (BD m)))]) = flatB (m + 1) bbA ++ [⟨m, Sf.oth "set" 0 [.str yy, (.tuple [.str "var", .str yy, .int 1])]⟩] := flatB_snoc _ _ _
                    rw [e8, List.length_append]
                    exact Nat.add_le_add flxA (Nat.le_refl 1)
                  clear dbA dST
                  have p4 : 1 ≤ dnA + 1 := by omega
                  exact ⟨_, _, _, _, _, _, _, rfl, z, oc, ⟨hyy, Pl.up kkP3⟩, oFA, dI2, okI, atI9, lnI, p4, p3⟩
                · exact ⟨_, _, _, _, _, _, _, rfl, z, oc, kc, oFA, dbA, okA, atA, by omega, p1, p2⟩
                · refine iteF ?_
                  exact ⟨_, _, _, _, _, _, _, rfl, z, oc, kc, oFA, dbA, okA, atA, by omega, p1, p2⟩
              · obtain ⟨y20, bd, rr9, vc', vI, co', BB, rfl, z, oc, kc, oFA, dI, okI, atI9, lnI, p1, p2⟩ := hM
                refine ⟨by show 2 ≤ sizeLine; decide, fun tK1 nK1 => ?_⟩
                generalize hGK1 : upd J' tK1 _ = J33
                obtain ⟨sK1, eK1⟩ := new_of nK1 hGK1
                replace oc := z.st.od (B2.same sK1) oc
                replace oFA := z.st.od (B2.same sK1) oFA
                replace dI := z.st.dp (B2.same sK1) (noL_blk okI) dI
                replace z := z.mv st nB (B2.same sK1) (z.st.same sK1)
                have oK1 : Op K J33 (.ref tK1) := .tup eK1 (.cons (.str _) (.cons (.int _) .nil))
                refine ⟨by show 2 ≤ sizeLine; decide, fun tK2 nK2 => ?_⟩
                generalize hGK2 : upd J33 tK2 _ = J34
                obtain ⟨sK2, eK2⟩ := new_of nK2 hGK2
                replace oc := z.st.od (B2.same sK2) oc
                replace oFA := z.st.od (B2.same sK2) oFA
                replace oK1 := z.st.op (B2.same sK2) oK1
                replace dI := z.st.dp (B2.same sK2) (noL_blk okI) dI
                replace z := z.mv st nB (B2.same sK2) (z.st.same sK2)
                have oK2 : Op K J34 (.ref tK2) := .tup eK2 (.cons (.str _) (.cons (.int _) .nil))
                refine ⟨by show 4 ≤ sizeLine; decide, fun tK3 nK3 => ?_⟩
                generalize hGK3 : upd J34 tK3 _ = J35
                obtain ⟨sK3, eK3⟩ := new_of nK3 hGK3
                replace oc := z.st.od (B2.same sK3) oc
                replace oFA := z.st.od (B2.same sK3) oFA
                replace oK1 := z.st.op (B2.same sK3) oK1
                replace oK2 := z.st.op (B2.same sK3) oK2
                replace dI := z.st.dp (B2.same sK3) (noL_blk okI) dI
                replace z := z.mv st nB (B2.same sK3) (z.st.same sK3)
                have oK3 : Op K J35 (.ref tK3) := .tup eK3 (.cons (.str _) (.cons (.str _) (.cons oK1 (.cons oK2 .nil))))
                refine ⟨by show 1 ≤ sizeLine; decide, fun tK4 nK4 => ?_⟩
                generalize hGK4 : upd J35 tK4 _ = J36
                obtain ⟨sK4, eK4⟩ := new_of nK4 hGK4
                replace oc := z.st.od (B2.same sK4) oc
                replace oFA := z.st.od (B2.same sK4) oFA
                replace oK3 := z.st.op (B2.same sK4) oK3
                replace dI := z.st.dp (B2.same sK4) (noL_blk okI) dI
                replace z := z.mv st nB (B2.same sK4) (z.st.same sK4)
                have hK4 : SqT K J36 tK4 [.ref tK3] := SqT.of eK4
                refine ⟨_, rfl, h, d, ds, 4, rfl, by decide, z.st.hd, fun rK5 J37 q0K5 q1K5 bK5 hdK5 _ => ?_⟩
                replace oc := z.st.od (B2.but bK5) oc
                replace oFA := z.st.od (B2.but bK5) oFA
                replace oK3 := z.st.op (B2.but bK5) oK3
                replace dI := z.st.dp (B2.but bK5) (noL_blk okI) dI
                replace hK4 := z.st.sqt (B2.but bK5) hK4
                replace z := z.mv st nB (B2.but bK5) (z.st.but bK5 hdK5)
                refine ⟨rfl, _, True, rfl, fun _ => ⟨_, rfl, a.c, _, _, _, rfl, rfl, SqL.of z.st.cx.c, atI_nat (j := 5) rfl, a.R, _, _, _, rfl, rfl, SqL.of z.st.cx.r, atI_nat (j := 0) rfl, _, _, rfl, rfl, _, rfl, rfl, fun _ => trivial⟩, fun g _ => ?_⟩
                refine .inr ⟨g, rfl, tK4, _, _, rfl, rfl, hK4, by simp, by cases g <;> simp, fun pk yk J38 sk hk9 hyk => ?_⟩
                replace oc := z.st.od (B2.same sk) oc
                replace oFA := z.st.od (B2.same sk) oFA
                replace oK3 := z.st.op (B2.same sk) oK3
                replace dI := z.st.dp (B2.same sk) (noL_blk okI) dI
                replace z := z.mv st nB (B2.same sk) (z.st.same sk)
                have oKs : Ops K J38 yk := by
                  rcases hyk with rfl | rfl
                  · exact .nil
                  · exact .cons oK3 .nil
                have hyl : yk.length ≤ 1 := by
                  rcases hyk with rfl | rfl
                  · exact Nat.zero_le _
                  · exact Nat.le_refl _
                have oKK : Op K J38 (.ref pk) := .sqt hk9 oKs
                obtain ⟨kds, dK, nK⟩ := oKs.inv
                have dKK : Dp K J38 (.ref pk) (.tuple kds) := .tup hk9 dK
                refine ⟨_, rfl, a.c, _, _, _, rfl, rfl, SqL.of z.st.cx.c, atI_nat (j := 5) rfl, a.R, _, _, _, rfl, rfl, SqL.of z.st.cx.r, atI_nat (j := 0) rfl, _, rfl, pk, _, rfl, .inr hk9, _, _, rfl, rfl, _, rfl, a.c, _, _, _, rfl, rfl, SqL.of z.st.cx.c, atI_nat (j := 5) rfl, a.R, _, 0, 0, rfl, rfl, z.st.cx.r, rfl, ?_⟩
                generalize hGR9 : upd J38 a.R _ = J39
                replace oc := z.st.od (B2.ofR hGR9) oc
                replace oFA := z.st.od (B2.ofR hGR9) oFA
                replace dI := z.st.dp (B2.ofR hGR9) (noL_blk okI) dI
                replace dKK := z.st.dp (B2.ofR hGR9) (show noL (.tuple kds) = true by unfold noL; exact nK) dKK
                replace z := z.mv st nB (B2.ofR hGR9) (z.st.ofR hdR hGR9)
                refine ⟨_, rfl, _, rfl, _, rfl, _, rfl, by show 6 ≤ sizeLine; decide, fun tW nW => ?_⟩
                generalize hGW : upd J39 tW _ = J40
                obtain ⟨sW, eW⟩ := new_of nW hGW
                replace oc := z.st.od (B2.same sW) oc
                replace oFA := z.st.od (B2.same sW) oFA
                replace dI := z.st.dp (B2.same sW) (noL_blk okI) dI
                replace dKK := z.st.dp (B2.same sW) (show noL (.tuple kds) = true by unfold noL; exact nK) dKK
                replace z := z.mv st nB (B2.same sW) (z.st.same sW)
                have dc := oc.dp
                have nc := oc.nl
                have df := oFA.dp
                have nf := oFA.nl
                generalize hcd : encC 4 co' = cd at dc nc
                generalize hfd : PyData.tuple [tpF1.enc, tpF2.enc] = fd at df nf
                have dS : Dp K J40 (.ref tW) (encD ((m + 1) + 1) (show BD ((m + 1) + 1) from (Sf.whl 0 cd kds fd BB : Sf (BD (m + 1))))) := .tup (SqT.of eW) (.cons (.str _) (.cons (.int _) (.cons dc (.cons dKK (.cons df (.cons dI .nil))))))
                have lS : (flatD ((m + 1) + 1) (show BD ((m + 1) + 1) from (Sf.whl 0 cd kds fd BB : Sf (BD (m + 1))))).length ≤ szD (m + 1) := by
                  rw [wh_len]
                  show _ ≤ 1 + 3 * szD m
                  have := szD_pos m
                  have := lnI
                  omega
                refine ⟨_, rfl, _, rfl, _, _, rfl, rfl, ⟨by omega, by omega⟩, ?_⟩
                refine ⟨_, rfl, _, rfl, _, _, rfl, rfl, .inl ⟨by omega, by omega⟩, ?_⟩
                refine ⟨_, rfl, .inl ⟨rfl, _, SqL.of z.e⟩, _, rfl, Bk, _, _, rfl, rfl, z.e, small_sz5 (by have := z.xl; omega), ?_⟩
                have zz := z.next st nB dS ⟨nc, nK, nf, okI⟩ (wh_flat (show AtS x (Sf.whl 0 cd kds fd BB : Sf (BD (m + 1))) from ⟨⟨co', hcd.symm, kc⟩, tpF1, tpF2, hfd.symm, Pl.up kkF1, Pl.up kkF2⟩) atI9) lS p1 p2
                exact ⟨_, _, _, _, _, _, _, _, _, _, _, _, _, _, _, _, _, _, _, rfl, zz⟩
            · refine ⟨_, rfl, _, rfl, _, _, rfl, rfl, ⟨by omega, by omega⟩, ?_⟩
              refine ⟨_, rfl, _, rfl, _, _, rfl, rfl, .inl ⟨by omega, by omega⟩, ?_⟩
              refine ⟨_, rfl, .inl ⟨rfl, _, SqL.of z.e⟩, _, rfl, Bk, _, _, rfl, rfl, z.e, small_sz5 (by have := z.xl; omega), ?_⟩
              have zz := z.next st nB (show Dp K _ vS (encD ((m + 1) + 1) (show BD ((m + 1) + 1) from (s0.to : Sf (BD (m + 1))))) by rw [show encD ((m + 1) + 1) (show BD ((m + 1) + 1) from (s0.to : Sf (BD (m + 1)))) = s0.enc from Sm.enc_to s0]; exact dS) (Sm.ok_to o0) (sm_of m0') (sm_len s0) (by decide) z.bu1
              exact ⟨_, _, _, _, _, _, _, _, _, _, _, _, _, _, _, _, _, _, _, rfl, zz⟩
        · have hk3 : ¬ k = 3 := by omega
          have hk12 : (decide ((1 : Int) = k) || (decide ((2 : Int) = k) || false)) = false := by rw [decide_eq_false (by omega), decide_eq_false (by omega)]; rfl
          have k0 : ¬ k = 0 := by omega
          refine ⟨_, rfl, rfl, _, rfl, ?_⟩
          rw [int_dec, decide_eq_false k0]
          refine iteF ?_
          refine iteF ?_
          refine ⟨_, rfl, by show 2 ≤ sizeLine; decide, fun tL7 nL7 => ?_⟩
          generalize hGL7 : upd J4 tL7 _ = J8
          obtain ⟨sL7, eL7⟩ := new_of nL7 hGL7
          replace oc := z.st.od (B2.same sL7) oc
          replace dS := z.st.dp (B2.same sL7) (Sm.noL o0) dS
          replace z := z.mv st nB (B2.same sL7) (z.st.same sL7)
          refine ⟨tL7, _, rfl, .inl (SqL.of eL7), rfl, rfl, _, rfl, ?_⟩
          show if inV (.int k) [.int 1, .int 2] = true then _ else _
          rw [in12, hk12]
          refine iteF ?_
          refine iteF ?_
          refine ⟨_, rfl, rfl, _, rfl, ?_⟩
          rw [int_dec, decide_eq_false hk3]
          refine iteF ?_
          refine iteF ?_
          refine ⟨_, rfl, _, rfl, _, _, rfl, rfl, ⟨by omega, by omega⟩, ?_⟩
          refine ⟨_, rfl, _, rfl, _, _, rfl, rfl, .inl ⟨by omega, by omega⟩, ?_⟩
          refine ⟨_, rfl, .inl ⟨rfl, _, SqL.of z.e⟩, _, rfl, Bk, _, _, rfl, rfl, z.e, small_sz5 (by have := z.xl; omega), ?_⟩
          have zz := z.next st nB (show Dp K _ vS (encD ((m + 1) + 1) (show BD ((m + 1) + 1) from (s0.to : Sf (BD (m + 1))))) by rw [show encD ((m + 1) + 1) (show BD ((m + 1) + 1) from (s0.to : Sf (BD (m + 1)))) = s0.enc from Sm.enc_to s0]; exact dS) (Sm.ok_to o0) (sm_of m0') (sm_len s0) (by decide) z.bu1
          exact ⟨_, _, _, _, _, _, _, _, _, _, _, _, _, _, _, _, _, _, _, rfl, zz⟩
      · obtain ⟨bu, dn, rr, y8, y9, y10, y11, y12, y13, y14, y15, y16, y17, y18, y19, y20, y21, xs, bs, rfl, z⟩ := hP
        refine ⟨_, rfl, _, rfl, Bk, _, rfl, .inl ⟨SqL.of z.e, fun tt nt => ?_⟩⟩
        exact ⟨by show 2 ≤ sizeLine; decide, fun t n => fin_blk q z (Nat.le_refl _) hm0 nt n⟩
end
end SW

namespace SW
open PySem PySem.Spec PyProof.Rows L2
abbrev s_l_rows : Stmt := topS 35
theorem sc_l_rows : FnScope ["block", "row", "found", "statement", "first", "then", "other", "body"] ["block", "row"] (defScope s_l_rows) := ⟨rfl, rfl, rfl, by decide +kernel, rfl, by decide +kernel, by decide +kernel⟩

def rSlC (K : PySem.W.Frag) : V → Option Int → Option Int → Hp → VK → Prop := fun x lo hi H Q => ∃ a xs, x = .ref a ∧ SqT K H a xs ∧ (xs.length ≤ sizeLine → ∀ p H', Same H H' → SqT K H' p (cutV xs lo hi) → Q (.ref p) H')
theorem sl_tupC {X : Cx} : SlR X (rSlC X.K) := by
  intro pins s σ H x v vl vu lo hi sl Q I rx hs pl pu h
  obtain ⟨a, xs, h1, h2, q⟩ := h
  obtain ⟨its, r, ht, hz⟩ := I.tuple h2
  exact sl_tupB pins s σ H x v vl vu lo hi sl Q I rx hs pl pu ⟨a, xs, h1, h2, q hz⟩
/-- a statement without its rows -/
def nrS {B : Type} (g : B → B) : Sf B → Sf B
  | .lst k _ x ds => .lst k 0 x ds
  | .cal _ y f as => .cal 0 y f as
  | .oth k _ ds => .oth k 0 ds
  | .iff _ c a b => .iff 0 c (a.map g) (b.map g)
  | .whl _ c ks f b => .whl 0 c ks f (b.map g)
def nrD : (n : Nat) → BD n → BD n
  | 0, s => nomatch s
  | n + 1, s => nrS (nrD n) s
def nrB (n : Nat) (b : List (BD n)) : List (BD n) := b.map (nrD n)
theorem nrB_snoc (n : Nat) (b : List (BD n)) (s : BD n) : nrB n (b ++ [s]) = nrB n b ++ [nrD n s] := by
  unfold nrB
  rw [List.map_append]
  rfl
theorem cutR2 (a b : V) (r : List V) : cutV (a :: b :: r) (some 2) none = r := by
  unfold cutV
  rw [HT.sIx_none]
  have e : HT.sIx (a :: b :: r).length 0 (some 2) = 2 := by
    show (if (2 : Int) < 0 then ((2 : Int) + ((a :: b :: r).length : Int)).toNat else min (2 : Int).toNat (a :: b :: r).length) = 2
    rw [if_neg (by decide), List.length_cons, List.length_cons]
    show min 2 _ = 2
    omega
  rw [e]
  show r.take ((r.length + 1 + 1) - 2) = r
  rw [show r.length + 1 + 1 - 2 = r.length by omega, List.take_length]
theorem cut3 (a b c d e : V) : cutV [a, b, c, d, e] none (some 3) = [a, b, c] := rfl
theorem cut5 (a b c d e f : V) : cutV [a, b, c, d, e, f] none (some 5) = [a, b, c, d, e] := rfl
theorem len_flat : ∀ (n : Nat) (b : List (BD n)), b.length ≤ (flatB n b).length
  | 0, b => by
    cases b with
    | nil => exact Nat.le_refl _
    | cons s r => exact nomatch s
  | n + 1, b => by
    induction b with
    | nil => exact Nat.le_refl _
    | cons s r ih =>
      have e : flatB (n + 1) (s :: r) = flatD (n + 1) s ++ flatB (n + 1) r := rfl
      rw [e, List.length_append, List.length_cons, show flatD (n + 1) s = ⟨n, s⟩ :: ((Sf.subs (B := BD n) s).map (flatB n)).flatten from flatD_succ n s, List.length_cons]
      omega
section
variable {P : Program} {w : World} {K : PySem.W.Frag} {mg : PySem.Str → Option Value} {base : Heap}
def spRows (K : PySem.W.Frag) (n : Nat) : Sp := fun vs H Q _ => ∃ (v : V) (r : Int) (b : List (BD n)), vs = [v, .int r] ∧ Dp K H v (blkE n b) ∧ (∀ s, s ∈ b → okD n s) ∧ b.length ≤ 900 ∧ (flatB n b).length ≤ 900 ∧ ∀ (t : Addr) (v' : V) (r' : Int) (b' : List (BD n)) (H' : Hp), Same H H' → H' t = some (.tup [v', .int r']) → Dp K H' v' (blkE n b') → (∀ s, s ∈ b' → okD n s) → b'.length = b.length → nrB n b' = nrB n b → Q (.ref t) H'
theorem ok_l_rows (T : TxB mg) (D_l_rows : Df K mg "_law_rows" s_l_rows ["block", "row"]) : ∀ n, FnOk P w K mg base CX0 (n + 1) D_l_rows.f D_l_rows.fd ["block", "row"] (spRows K n)
  | 0 => by
    have G_l_rows : FnOk P w K mg base CX0 0 D_l_rows.f D_l_rows.fd ["block", "row"] (fun _ _ _ _ => False) := fn_never
    refine D_l_rows.F.ok sc_l_rows (fun vs H Q E h => ?_) (fun cdv A outer s H vs Q E hr h => ?_)
    · obtain ⟨v, r, b, rfl, _⟩ := h
      rfl
    · obtain ⟨v, r, b, rfl, hd, hok, hl, hf, q⟩ := h
      refine ⟨_, (pss_cons (ps_set (i := 2) sc_l_rows.nd rfl (.inl rfl) (pe_lst pa_nil))
    (pss_cons (ps_for PassesOwn.never rfl (pi_tup (pv 0)) (pg_name (i := 3) sc_l_rows.nd rfl (.inl rfl))
    (pss_cons (ps_set (i := 4) sc_l_rows.nd rfl (.inl rfl) (pv 1))
    (pss_cons (ps_set (i := 1) sc_l_rows.nd rfl (.inl rfl) (pe_op op_add (pv 1) pe_int))
    (pss_cons (ps_if (pt_cmpR op_eq (pe_ix ix_tup (pv 3) pe_int (fun _ _ => rfl)) pe_str (nomark _))
    (pss_cons (ps_asg (pe_call G_l_rows (hr.mono (by omega)) (by rfl) D_l_rows.g D_l_rows.F.kp D_l_rows.b .nil pass0 (pa_cons (pe_ix ix_tup (pv 3) pe_int (fun _ _ => rfl)) (pa_cons (pv 1) pa_nil))) (pg_tup (by rfl) (pgs_cons (pg_name (i := 5) sc_l_rows.nd rfl (.inl rfl)) (pgs_cons (pg_name (i := 1) sc_l_rows.nd rfl (.inl rfl)) pgs_nil))))
    (pss_cons (ps_asg (pe_call G_l_rows (hr.mono (by omega)) (by rfl) D_l_rows.g D_l_rows.F.kp D_l_rows.b .nil pass0 (pa_cons (pe_ix ix_tup (pv 3) pe_int (fun _ _ => rfl)) (pa_cons (pe_op op_add (pv 1) (pe_callTy call_int1 (by rfl) T.n_int (by decide +kernel) (pa_cons (pe_cmpR op_gt (pe_callB call_len_seq (by rfl) T.n_len PySem.boot_len (pa_cons (pe_ix ix_tup (pv 3) pe_int (fun _ _ => rfl)) pa_nil)) pe_int (nomark _)) pa_nil))) pa_nil))) (pg_tup (by rfl) (pgs_cons (pg_name (i := 6) sc_l_rows.nd rfl (.inl rfl)) (pgs_cons (pg_name (i := 1) sc_l_rows.nd rfl (.inl rfl)) pgs_nil))))
    (pss_cons (ps_set (i := 3) sc_l_rows.nd rfl (.inl rfl) (pe_op op_catB (pe_slice sl_tupC (pv 3) po_none (po_some pe_int)) (pe_tup (pa_cons (pv 5) (pa_cons (pv 6) pa_nil)))))
    (pss_one (ps_set (i := 1) sc_l_rows.nd rfl (.inl rfl) (pe_op op_add (pv 1) pe_int))))))
    (pss_one (ps_if (pt_cmpR op_eq (pe_ix ix_tup (pv 3) pe_int (fun _ _ => rfl)) pe_str (nomark _))
    (pss_cons (ps_asg (pe_call G_l_rows (hr.mono (by omega)) (by rfl) D_l_rows.g D_l_rows.F.kp D_l_rows.b .nil pass0 (pa_cons (pe_ix ix_tup (pv 3) pe_int (fun _ _ => rfl)) (pa_cons (pe_op op_add (pe_op op_add (pv 1) (pe_callB call_len_seq (by rfl) T.n_len PySem.boot_len (pa_cons (pe_ix ix_tup (pv 3) pe_int (fun _ _ => rfl)) pa_nil))) pe_int) pa_nil))) (pg_tup (by rfl) (pgs_cons (pg_name (i := 7) sc_l_rows.nd rfl (.inl rfl)) (pgs_cons (pg_name (i := 1) sc_l_rows.nd rfl (.inl rfl)) pgs_nil))))
    (pss_cons (ps_set (i := 3) sc_l_rows.nd rfl (.inl rfl) (pe_op op_catB (pe_slice sl_tupC (pv 3) po_none (po_some pe_int)) (pe_tup (pa_cons (pv 7) pa_nil))))
    (pss_one (ps_set (i := 1) sc_l_rows.nd rfl (.inl rfl) (pe_op op_add (pv 1) pe_int)))))
    pss_nil)))
    (pss_one (ps_expr (pe_bm PySem.F.plainAttrs_list PySem.F.slot_list_append PySem.F.type_list_append mt_append (pv 2) (pa_cons (pe_op op_catB (pe_tup (pa_cons (pe_ix ix_tup (pv 3) pe_int (fun _ _ => rfl)) (pa_cons (pv 4) pa_nil))) (pe_slice sl_tupC (pv 3) (po_some pe_int) po_none)) pa_nil))))))))
    (pss_one (ps_ret (pe_tup (pa_cons (pe_callTy call_tuple_of (by rfl) T.n_tuple (by decide +kernel) (pa_cons (pv 2) pa_nil)) (pa_cons (pv 1) pa_nil))))))), ?_⟩
      obtain rfl : b = [] := by
        cases b with
        | nil => rfl
        | cons s r => exact nomatch s
      obtain ⟨t, us, rfl, ht, ha⟩ := dp_tup_inv hd
      cases ha
      refine ⟨Nat.zero_le _, fun F nF => ?_⟩
      generalize hG : upd H F _ = G
      obtain ⟨s1, e1⟩ := new_of nF hG
      refine ⟨_, rfl, t, rfl, ⟨_, sqt_same s1 ht⟩, ?_⟩
      refine for_tup (K := K) (a := t) (xs := []) (fun _ σ J => J = G ∧ ∃ y3 y4 y5 y6 y7 : Option V, σ = [some (.ref t), some (.int r), some (.ref F), y3, y4, y5, y6, y7]) ⟨rfl, _, _, _, _, _, rfl⟩ (fun _ _ J _ hP => by
        obtain ⟨rfl, _⟩ := hP
        exact sqt_same s1 ht) (fun i x σ J hx _ => by cases hx) (fun σ J hP => ?_)
      obtain ⟨rfl, y3, y4, y5, y6, y7, rfl⟩ := hP
      refine ⟨_, rfl, F, _, rfl, .inl ⟨SqL.of e1, fun tt nt => ?_⟩⟩
      generalize hG2 : upd J tt _ = G2
      obtain ⟨s2, e2⟩ := new_of nt hG2
      refine ⟨_, rfl, by show 2 ≤ sizeLine; decide, fun t9 n9 => ?_⟩
      generalize hG3 : upd G2 t9 _ = G3
      obtain ⟨s3, e3⟩ := new_of n9 hG3
      exact q t9 _ r [] G3 (s1.trans (s2.trans s3)) e3 (.tup (SqT.of (s3 _ _ e2)) .nil) (fun _ h => (List.not_mem_nil h).elim) rfl rfl
  | n + 1 => by
    have G_l_rows := ok_l_rows T D_l_rows n
    refine D_l_rows.F.ok sc_l_rows (fun vs H Q E h => ?_) (fun cdv A outer s H vs Q E hr h => ?_)
    · obtain ⟨v, r, b, rfl, _⟩ := h
      rfl
    · obtain ⟨v, r, b, rfl, hd, hok, hl, hf, q⟩ := h
      refine ⟨_, (pss_cons (ps_set (i := 2) sc_l_rows.nd rfl (.inl rfl) (pe_lst pa_nil))
    (pss_cons (ps_for PassesOwn.never rfl (pi_tup (pv 0)) (pg_name (i := 3) sc_l_rows.nd rfl (.inl rfl))
    (pss_cons (ps_set (i := 4) sc_l_rows.nd rfl (.inl rfl) (pv 1))
    (pss_cons (ps_set (i := 1) sc_l_rows.nd rfl (.inl rfl) (pe_op op_add (pv 1) pe_int))
    (pss_cons (ps_if (pt_cmpR op_eq (pe_ix ix_tup (pv 3) pe_int (fun _ _ => rfl)) pe_str (nomark _))
    (pss_cons (ps_asg (pe_call G_l_rows (hr.mono (by omega)) (by rfl) D_l_rows.g D_l_rows.F.kp D_l_rows.b .nil pass0 (pa_cons (pe_ix ix_tup (pv 3) pe_int (fun _ _ => rfl)) (pa_cons (pv 1) pa_nil))) (pg_tup (by rfl) (pgs_cons (pg_name (i := 5) sc_l_rows.nd rfl (.inl rfl)) (pgs_cons (pg_name (i := 1) sc_l_rows.nd rfl (.inl rfl)) pgs_nil))))
    (pss_cons (ps_asg (pe_call G_l_rows (hr.mono (by omega)) (by rfl) D_l_rows.g D_l_rows.F.kp D_l_rows.b .nil pass0 (pa_cons (pe_ix ix_tup (pv 3) pe_int (fun _ _ => rfl)) (pa_cons (pe_op op_add (pv 1) (pe_callTy call_int1 (by rfl) T.n_int (by decide +kernel) (pa_cons (pe_cmpR op_gt (pe_callB call_len_seq (by rfl) T.n_len PySem.boot_len (pa_cons (pe_ix ix_tup (pv 3) pe_int (fun _ _ => rfl)) pa_nil)) pe_int (nomark _)) pa_nil))) pa_nil))) (pg_tup (by rfl) (pgs_cons (pg_name (i := 6) sc_l_rows.nd rfl (.inl rfl)) (pgs_cons (pg_name (i := 1) sc_l_rows.nd rfl (.inl rfl)) pgs_nil))))
    (pss_cons (ps_set (i := 3) sc_l_rows.nd rfl (.inl rfl) (pe_op op_catB (pe_slice sl_tupC (pv 3) po_none (po_some pe_int)) (pe_tup (pa_cons (pv 5) (pa_cons (pv 6) pa_nil)))))
    (pss_one (ps_set (i := 1) sc_l_rows.nd rfl (.inl rfl) (pe_op op_add (pv 1) pe_int))))))
    (pss_one (ps_if (pt_cmpR op_eq (pe_ix ix_tup (pv 3) pe_int (fun _ _ => rfl)) pe_str (nomark _))
    (pss_cons (ps_asg (pe_call G_l_rows (hr.mono (by omega)) (by rfl) D_l_rows.g D_l_rows.F.kp D_l_rows.b .nil pass0 (pa_cons (pe_ix ix_tup (pv 3) pe_int (fun _ _ => rfl)) (pa_cons (pe_op op_add (pe_op op_add (pv 1) (pe_callB call_len_seq (by rfl) T.n_len PySem.boot_len (pa_cons (pe_ix ix_tup (pv 3) pe_int (fun _ _ => rfl)) pa_nil))) pe_int) pa_nil))) (pg_tup (by rfl) (pgs_cons (pg_name (i := 7) sc_l_rows.nd rfl (.inl rfl)) (pgs_cons (pg_name (i := 1) sc_l_rows.nd rfl (.inl rfl)) pgs_nil))))
    (pss_cons (ps_set (i := 3) sc_l_rows.nd rfl (.inl rfl) (pe_op op_catB (pe_slice sl_tupC (pv 3) po_none (po_some pe_int)) (pe_tup (pa_cons (pv 7) pa_nil))))
    (pss_one (ps_set (i := 1) sc_l_rows.nd rfl (.inl rfl) (pe_op op_add (pv 1) pe_int)))))
    pss_nil)))
    (pss_one (ps_expr (pe_bm PySem.F.plainAttrs_list PySem.F.slot_list_append PySem.F.type_list_append mt_append (pv 2) (pa_cons (pe_op op_catB (pe_tup (pa_cons (pe_ix ix_tup (pv 3) pe_int (fun _ _ => rfl)) (pa_cons (pv 4) pa_nil))) (pe_slice sl_tupC (pv 3) (po_some pe_int) po_none)) pa_nil))))))))
    (pss_one (ps_ret (pe_tup (pa_cons (pe_callTy call_tuple_of (by rfl) T.n_tuple (by decide +kernel) (pa_cons (pv 2) pa_nil)) (pa_cons (pv 1) pa_nil))))))), ?_⟩
      obtain ⟨t0, us, rfl, ht0, ha0⟩ := dp_tup_inv hd
      have hul : us.length = b.length := by rw [dpa_len ha0, List.length_map]
      refine ⟨Nat.zero_le _, fun F nF => ?_⟩
      generalize hG : upd H F _ = G
      obtain ⟨s1, e1⟩ := new_of nF hG
      refine ⟨_, rfl, t0, rfl, ⟨_, sqt_same s1 ht0⟩, ?_⟩
      refine for_tup (K := K) (a := t0) (xs := us) (fun i σ J => Same H J ∧ ∃ (r : Int) (y3 y4 y5 y6 y7 : Option V) (xs : List V) (b' : List (BD (n + 1))), σ = [some (.ref t0), some (.int r), some (.ref F), y3, y4, y5, y6, y7] ∧ J F = some (.lst xs) ∧ DpAll K J xs (b'.map (encD (n + 1))) ∧ (∀ s, s ∈ b' → okD (n + 1) s) ∧ b'.length = i ∧ nrB (n + 1) b' = nrB (n + 1) (b.take i)) ⟨s1, r, _, _, _, _, _, [], [], rfl, e1, .nil, fun _ h => (List.not_mem_nil h).elim, rfl, rfl⟩ (fun i σ J _ hP => sqt_same hP.1 ht0) (fun i x σ J hx hP => ?_) (fun σ J hP => ?_)
      · obtain ⟨sJ, r, y3, y4, y5, y6, y7, xs, b', rfl, eF, dF, okb, lb, fb⟩ := hP
        have hi : i < b.length := by
          rw [← hul]
          exact (List.getElem?_eq_some_iff.mp hx).1
        obtain ⟨v', g1, dv⟩ := dp_mem ha0 hi
        rw [hx] at g1
        cases g1
        have hok1 := hok _ (List.getElem_mem hi)
        have hfk : nrB (n + 1) (b.take (i + 1)) = nrB (n + 1) (b.take i) ++ [nrD (n + 1) b[i]] := by
          rw [List.take_succ_eq_append_getElem hi, nrB_snoc]
        have hfl := flatD_le (m := n + 1) (List.getElem_mem hi)
        have hxl : xs.length = i := by rw [dpa_len dF, List.length_map, lb]
        have dvJ := dv.same sJ
        clear dv
        generalize b[i] = st at dvJ hok1 hfk hfl
        obtain ⟨st, rfl⟩ : ∃ s' : Sf (BD n), s' = st := ⟨st, rfl⟩
        obtain ⟨t, ws, rfl, ht, ha⟩ := sf_inv (B := BD n) (s := st) dvJ
        have hok1 : Sf.ok (okD n) st := hok1
        have hsub : ∀ b2, b2 ∈ st.subs → (flatB n b2).length ≤ 900 := fun b2 hb2 => by
          have h1 := flatN_le hb2
          rw [show flatD (n + 1) st = ⟨n, st⟩ :: ((Sf.subs (B := BD n) st).map (flatB n)).flatten from flatD_succ n st, List.length_cons] at hfl
          omega
        have hsub2 : ∀ b2, b2 ∈ st.subs → b2.length ≤ 900 := fun b2 hb2 => Nat.le_trans (len_flat n b2) (hsub b2 hb2)
        have hsok := ok_subs (n := n) (s := st) hok1
        -- the statement stored
        have fin : ∀ {J2 : Hp} {tt : Addr} {st2 : BD (n + 1)} {r2 : Int} {y3 y4 y5 y6 y7 : Option V}, Same H J2 → J2 F = some (.lst xs) → DpAll K J2 xs (b'.map (encD (n + 1))) → Dp K J2 (.ref tt) (encD (n + 1) st2) → okD (n + 1) st2 → nrD (n + 1) st2 = nrD (n + 1) st → Same H (upd J2 F (.lst (xs ++ [.ref tt]))) ∧ ∃ (r : Int) (y3' y4' y5' y6' y7' : Option V) (xs' : List V) (b' : List (BD (n + 1))), [some (.ref t0), some (.int r2), some (.ref F), y3, y4, y5, y6, y7] = [some (.ref t0), some (.int r), some (.ref F), y3', y4', y5', y6', y7'] ∧ (upd J2 F (.lst (xs ++ [.ref tt]))) F = some (.lst xs') ∧ DpAll K (upd J2 F (.lst (xs ++ [.ref tt]))) xs' (b'.map (encD (n + 1))) ∧ (∀ s, s ∈ b' → okD (n + 1) s) ∧ b'.length = i + 1 ∧ nrB (n + 1) b' = nrB (n + 1) (b.take (i + 1)) := fun {J2 tt st2 r2 y3 y4 y5 y6 y7} s2 e2 d2 dt o2 f2 => by
          have ok2 : ∀ s, s ∈ b' ++ [st2] → okD (n + 1) s := fun s hs => by
            rcases List.mem_append.mp hs with hs | hs
            · exact okb s hs
            · rw [List.mem_singleton.mp hs]
              exact o2
          refine ⟨same_mut s2 nF, r2, _, _, _, _, _, xs ++ [.ref tt], b' ++ [st2], rfl, upd_same, ?_, ok2, by rw [List.length_append, lb]; rfl, ?_⟩
          · refine dpa_but e2 (fun b o hb e => (upd_ne hb).trans e) _ _ (noLs_mapof fun s hs => noL_D _ s (ok2 s hs)) ?_
            rw [List.map_append]
            exact dpa_snoc d2 dt
          · have e : nrB (n + 1) (b' ++ [st2]) = nrB (n + 1) b' ++ [nrD (n + 1) st2] := nrB_snoc _ _ _
            rw [e, hfk, fb, f2]
        refine ⟨_, rfl, ?_⟩
        refine ⟨_, rfl, _, _, rfl, rfl, ?_⟩
        refine ⟨_, rfl, t, _, _, _, rfl, rfl, ht, atI_nat (j := 0) rfl, rfl, _, rfl, ?_⟩
        rw [str_dec]
        rcases kind_if hok1 with ⟨r0, c, a, b2, rfl⟩ | ⟨h1, h2⟩
        · obtain ⟨v1, v2, v3, v4, rfl, d1, d2, d3, d4⟩ := dpa4 ha
          obtain ⟨tb, yb, rfl, htb, dyb⟩ := dp_tup_inv d4
          have ma : a ∈ (Sf.iff r0 c a b2).subs := List.mem_cons_self
          have mb : b2 ∈ (Sf.iff r0 c a b2).subs := List.mem_cons_of_mem _ List.mem_cons_self
          refine iteT ⟨_, rfl, t, _, _, _, rfl, rfl, ht, atI_nat (j := 3) rfl, _, rfl, v3, _, a, rfl, d3, hsok a ma, hsub2 a ma, hsub a ma, fun t1 w1 r1 a' J1 s1 e1 f1 ok1 l1 g1 => ⟨t1, _, rfl, SqT.of e1, rfl, _, _, rfl, _, _, rfl, rfl, ?_⟩⟩
          refine ⟨_, rfl, t, _, _, _, rfl, rfl, sqt_same s1 ht, atI_nat (j := 4) rfl, _, rfl, _, rfl, t, _, _, _, rfl, rfl, sqt_same s1 ht, atI_nat (j := 4) rfl, tb, _, rfl, .inr (sqt_same s1 htb), _, _, rfl, rfl, .inr ⟨_, rfl, _, _, rfl, rfl, .ref tb, _, b2, rfl, d4.same s1, hsok b2 mb, hsub2 b2 mb, hsub b2 mb, fun t2 w2 r2 b3 J2 s2 e2 f2 ok2 l2 g2 => ⟨t2, _, rfl, SqT.of e2, rfl, _, _, rfl, _, _, rfl, rfl, ?_⟩⟩⟩
          have s12 := s1.trans s2
          refine ⟨_, rfl, _, rfl, t, _, rfl, sqt_same s12 ht, fun _ p3 J3 s3 h3 => ?_⟩
          rw [show cutV [V.str (Sf.iff r0 c a b2).kind, v1, v2, v3, V.ref tb] none (some 3) = [V.str "if", v1, v2] from rfl] at h3
          refine ⟨_, rfl, _, rfl, by show 2 ≤ sizeLine; decide, fun t4 n4 => ?_⟩
          generalize hG4 : upd J3 t4 _ = J4
          obtain ⟨s4, e4⟩ := new_of n4 hG4
          refine ⟨p3, t4, _, _, rfl, rfl, sqt_same s4 h3, SqT.of e4, by show 5 ≤ sizeLine; decide, fun p5 J5 s5 h5 => ?_⟩
          replace h5 : SqT K J5 p5 [V.str "if", v1, v2, w1, w2] := h5
          have s25 := s3.trans (s4.trans s5)
          have s15 := s12.trans s25
          refine ⟨_, rfl, _, _, rfl, rfl, ?_⟩
          refine ⟨_, rfl, .inl ⟨rfl, _, SqL.of (s15 _ _ eF)⟩, _, rfl, p5, _, _, _, rfl, rfl, h5, atI_nat (j := 0) rfl, _, rfl, by show 2 ≤ sizeLine; decide, fun tH nH => ?_⟩
          generalize hGH : upd J5 tH _ = JH
          obtain ⟨sH, eH⟩ := new_of nH hGH
          refine ⟨_, rfl, _, rfl, p5, _, rfl, sqt_same sH h5, fun zC pC JC sC hC => ?_⟩
          rw [cutR2] at hC
          refine ⟨tH, pC, _, _, rfl, rfl, SqT.of (sC _ _ eH), hC, (by simp only [List.length_cons, List.length_nil, List.length_append] at zC ⊢; omega), fun pD JD sD hD => ?_⟩
          have sHD := sH.trans (sC.trans sD)
          refine ⟨F, _, _, rfl, rfl, sHD _ _ (s15 _ _ eF), small_sz5 (by omega), ?_⟩
          exact fin ((sJ.trans s15).trans sHD) (sHD _ _ (s15 _ _ eF)) (dpa_same (s15.trans sHD) _ _ dF) (st2 := (show BD (n + 1) from (Sf.iff r c a' b3 : Sf (BD n)))) (.tup hD (.cons (.str _) (.cons (.int _) (.cons (d2.same (s15.trans sHD)) (.cons (f1.same (s2.trans (s25.trans sHD))) (.cons (f2.same (s25.trans sHD)) .nil)))))) ⟨hok1.1, ok1, ok2⟩ (by show Sf.iff 0 c (nrB n a') (nrB n b3) = Sf.iff 0 c (nrB n a) (nrB n b2); rw [g1, g2])
        · rw [decide_eq_false h1]
          refine iteF ⟨_, rfl, t, _, _, _, rfl, rfl, ht, atI_nat (j := 0) rfl, rfl, _, rfl, ?_⟩
          rw [str_dec]
          rcases h2 with ⟨r0, c, ks, f, b2, rfl⟩ | ⟨h2, h3⟩
          · obtain ⟨v1, v2, v3, v4, v5, rfl, d1, d2, d3, d4, d5⟩ := dpa5 ha
            obtain ⟨tk, yk, rfl, htk, dyk⟩ := dp_tup_inv d3
            have mb : b2 ∈ (Sf.whl r0 c ks f b2).subs := List.mem_cons_self
            refine iteT ⟨_, rfl, t, _, _, _, rfl, rfl, ht, atI_nat (j := 5) rfl, _, rfl, _, rfl, t, _, _, _, rfl, rfl, ht, atI_nat (j := 3) rfl, tk, _, rfl, .inr htk, _, _, rfl, rfl, _, _, rfl, rfl, v5, _, b2, rfl, d5, hsok b2 mb, hsub2 b2 mb, hsub b2 mb, fun t1 w1 r1 a' J1 s1 e1 f1 ok1 l1 g1 => ⟨t1, _, rfl, SqT.of e1, rfl, _, _, rfl, _, _, rfl, rfl, ?_⟩⟩
            refine ⟨_, rfl, _, rfl, t, _, rfl, sqt_same s1 ht, fun _ p3 J3 s3 h3 => ?_⟩
            rw [show cutV [V.str (Sf.whl r0 c ks f b2).kind, v1, v2, V.ref tk, v4, v5] none (some 5) = [V.str "while", v1, v2, V.ref tk, v4] from rfl] at h3
            refine ⟨_, rfl, by show 1 ≤ sizeLine; decide, fun t4 n4 => ?_⟩
            generalize hG4 : upd J3 t4 _ = J4
            obtain ⟨s4, e4⟩ := new_of n4 hG4
            refine ⟨p3, t4, _, _, rfl, rfl, sqt_same s4 h3, SqT.of e4, by show 6 ≤ sizeLine; decide, fun p5 J5 s5 h5 => ?_⟩
            replace h5 : SqT K J5 p5 [V.str "while", v1, v2, V.ref tk, v4, w1] := h5
            have s25 := s3.trans (s4.trans s5)
            have s15 := s1.trans s25
            refine ⟨_, rfl, _, _, rfl, rfl, ?_⟩
            refine ⟨_, rfl, .inl ⟨rfl, _, SqL.of (s15 _ _ eF)⟩, _, rfl, p5, _, _, _, rfl, rfl, h5, atI_nat (j := 0) rfl, _, rfl, by show 2 ≤ sizeLine; decide, fun tH nH => ?_⟩
            generalize hGH : upd J5 tH _ = JH
            obtain ⟨sH, eH⟩ := new_of nH hGH
            refine ⟨_, rfl, _, rfl, p5, _, rfl, sqt_same sH h5, fun zC pC JC sC hC => ?_⟩
            rw [cutR2] at hC
            refine ⟨tH, pC, _, _, rfl, rfl, SqT.of (sC _ _ eH), hC, (by simp only [List.length_cons, List.length_nil, List.length_append] at zC ⊢; omega), fun pD JD sD hD => ?_⟩
            have sHD := sH.trans (sC.trans sD)
            refine ⟨F, _, _, rfl, rfl, sHD _ _ (s15 _ _ eF), small_sz5 (by omega), ?_⟩
            exact fin ((sJ.trans s15).trans sHD) (sHD _ _ (s15 _ _ eF)) (dpa_same (s15.trans sHD) _ _ dF) (st2 := (show BD (n + 1) from (Sf.whl r c ks f a' : Sf (BD n)))) (.tup hD (.cons (.str _) (.cons (.int _) (.cons (d2.same (s15.trans sHD)) (.cons (d3.same (s15.trans sHD)) (.cons (d4.same (s15.trans sHD)) (.cons (f1.same (s25.trans sHD)) .nil))))))) ⟨hok1.1, hok1.2.1, hok1.2.2.1, ok1⟩ (by show Sf.whl 0 c ks f (nrB n a') = Sf.whl 0 c ks f (nrB n b2); rw [g1])
          · rw [decide_eq_false h2]
            refine iteF ?_
            obtain ⟨wr, wo, rfl, hst⟩ : ∃ wr wo, ws = wr :: wo ∧ ∃ st2 : Sf (BD n), (∀ {J2 : Hp}, Same J J2 → DpAll K J2 (.str st.kind :: .int r :: wo) (.str st2.kind :: st2.rest (encD n))) ∧ Sf.ok (okD n) st2 ∧ nrD (n + 1) st2 = nrD (n + 1) st := by
              cases st with
              | lst k r0 y ds =>
                cases ha with
                | cons m1 m2 => exact ⟨_, _, rfl, .lst k r y ds, fun s => .cons (.str _) (.cons (.int _) (dpa_same s _ _ m2)), hok1, rfl⟩
              | cal r0 y f as =>
                cases ha with
                | cons m1 m2 => exact ⟨_, _, rfl, .cal r y f as, fun s => .cons (.str _) (.cons (.int _) (dpa_same s _ _ m2)), hok1, rfl⟩
              | oth k r0 ds =>
                cases ha with
                | cons m1 m2 => exact ⟨_, _, rfl, .oth k r ds, fun s => .cons (.str _) (.cons (.int _) (dpa_same s _ _ m2)), hok1, rfl⟩
              | iff r0 c a b2 => cases h3
              | whl r0 c ks f b2 => cases h3
            obtain ⟨st2, hd2, ok2, fl2⟩ := hst
            refine ⟨_, rfl, .inl ⟨rfl, _, SqL.of eF⟩, _, rfl, t, _, _, _, rfl, rfl, ht, atI_nat (j := 0) rfl, _, rfl, by show 2 ≤ sizeLine; decide, fun tH nH => ?_⟩
            generalize hGH : upd J tH _ = JH
            obtain ⟨sH, eH⟩ := new_of nH hGH
            refine ⟨_, rfl, _, rfl, t, _, rfl, sqt_same sH ht, fun zC pC JC sC hC => ?_⟩
            rw [cutR2] at hC
            refine ⟨tH, pC, _, _, rfl, rfl, SqT.of (sC _ _ eH), hC, (by simp only [List.length_cons, List.length_nil, List.length_append] at zC ⊢; omega), fun pD JD sD hD => ?_⟩
            have sHD := sH.trans (sC.trans sD)
            refine ⟨F, _, _, rfl, rfl, sHD _ _ eF, small_sz5 (by omega), ?_⟩
            exact fin (sJ.trans sHD) (sHD _ _ eF) (dpa_same sHD _ _ dF) (st2 := (show BD (n + 1) from st2)) (.tup hD (hd2 sHD)) ok2 fl2
      · obtain ⟨sJ, r, y3, y4, y5, y6, y7, xs, b', rfl, eF, dF, okb, lb, fb⟩ := hP
        rw [List.take_of_length_le (by omega)] at fb
        refine ⟨_, rfl, F, _, rfl, .inl ⟨SqL.of eF, fun tt nt => ?_⟩⟩
        generalize hG2 : upd J tt _ = G2
        obtain ⟨s2, e2⟩ := new_of nt hG2
        refine ⟨_, rfl, by show 2 ≤ sizeLine; decide, fun t9 n9 => ?_⟩
        generalize hG3 : upd G2 t9 _ = G3
        obtain ⟨s3, e3⟩ := new_of n9 hG3
        exact q t9 _ r b' G3 (sJ.trans (s2.trans s3)) e3 (.tup (SqT.of (s3 _ _ e2)) (dpa_same (s2.trans s3) _ _ dF)) okb (by rw [lb]; exact hul) fb
end
end SW

namespace SW
open PySem PySem.Spec PyProof.Rows L2
abbrev s_l_made : Stmt := topS 37
theorem sc_l_made : FnScope ["one"] ["one"] (defScope s_l_made) := ⟨rfl, rfl, rfl, by decide +kernel, rfl, by decide +kernel, by decide +kernel⟩

abbrev s_l_program : Stmt := topS 38
theorem sc_l_program : FnScope ["parts", "one"] ["parts"] (defScope s_l_program) := ⟨rfl, rfl, rfl, by decide +kernel, rfl, by decide +kernel, by decide +kernel⟩

abbrev s_l_parts : Stmt := topS 36
theorem sc_l_parts : FnScope ["procs", "made", "row", "name", "parameters", "needs", "gives", "moves", "falls", "lets", "body", "first", "told", "let", "block"] ["procs"] (defScope s_l_parts) := ⟨rfl, rfl, rfl, by decide +kernel, rfl, by decide +kernel, by decide +kernel⟩

/-! ### procedures -/
def encL (z : Int × PySem.Str × Tm) : PyData := .tuple [.int z.1, .str z.2.1, z.2.2.enc]
def ltE (lt : List (Int × PySem.Str × Tm)) : PyData := .tuple (lt.map encL)
theorem encL_noL (z : Int × PySem.Str × Tm) : noL (encL z) = true := by
  show (true && (true && (noL z.2.2.enc && true))) = true
  rw [noL_tm]
  rfl
theorem ltE_noL (lt : List (Int × PySem.Str × Tm)) : noL (ltE lt) = true := by
  unfold ltE noL
  exact noLs_mapof fun z _ => encL_noL z
structure Pc where
  p : Addr
  nm : PySem.Str
  ps : List (PySem.Str × Bool)
  mv : List PySem.Str
  lt : List (Int × PySem.Str × Tm)
  body : List (BD 5)
structure Pc.ok (c : Pc) : Prop where
  ps : c.ps.length ≤ 100
  mv : c.mv.length ≤ 10
  lt : c.lt.length ≤ 10
  body : ∀ s, s ∈ c.body → okD 5 s
  flat : (flatB 5 c.body).length ≤ 900
structure PcAt (K : PySem.W.Frag) (CP : Addr) (H : Hp) (c : Pc) : Prop where
  ex : ∃ (dx : Addr) (v0 v2 v3 v4 v5 v6 v7 v8 : V), H c.p = some (.ins CP dx (prF v0 (.str c.nm) v2 v3 v4 v5 v6 v7 v8)) ∧ Dp K H v2 (psE c.ps) ∧ Dp K H v5 (.tuple (c.mv.map .str)) ∧ Dp K H v7 (ltE c.lt) ∧ Dp K H v8 (blkE 5 c.body)
theorem PcAt.same {K : PySem.W.Frag} {CP : Addr} {H H' : Hp} {c : Pc} (h : PcAt K CP H c) (s : Same H H') : PcAt K CP H' c := by
  obtain ⟨dx, v0, v2, v3, v4, v5, v6, v7, v8, h1, h2, h3, h4, h5⟩ := h.ex
  exact ⟨dx, v0, v2, v3, v4, v5, v6, v7, v8, s _ _ h1, h2.same s, h3.same s, h4.same s, h5.same s⟩
structure PgAt (K : PySem.W.Frag) (CP CG : Addr) (H : Hp) (pg : Addr) (cs : List Pc) : Prop where
  ex : ∃ (dx t : Addr), H pg = some (.ins CG dx [("procedures", .ref t)]) ∧ SqT K H t (cs.map fun c => .ref c.p)
  at_ : ∀ c, c ∈ cs → PcAt K CP H c
structure PtAt (K : PySem.W.Frag) (H : Hp) (v : V) (c : Pc) : Prop where
  ex : ∃ (t : Addr) (v0 v2 v3 v4 v5 v6 v7 v8 : V), v = .ref t ∧ SqT K H t [v0, .str c.nm, v2, v3, v4, v5, v6, v7, v8] ∧ Dp K H v2 (psE c.ps) ∧ Dp K H v5 (.tuple (c.mv.map .str)) ∧ Dp K H v7 (ltE c.lt) ∧ Dp K H v8 (blkE 5 c.body)
theorem PtAt.same {K : PySem.W.Frag} {H H' : Hp} {v : V} {c : Pc} (h : PtAt K H v c) (s : Same H H') : PtAt K H' v c := by
  obtain ⟨t, v0, v2, v3, v4, v5, v6, v7, v8, e, h1, h2, h3, h4, h5⟩ := h.ex
  exact ⟨t, v0, v2, v3, v4, v5, v6, v7, v8, e, sqt_same s h1, h2.same s, h3.same s, h4.same s, h5.same s⟩
structure PtsAt (K : PySem.W.Frag) (H : Hp) (xs : List V) (cs : List Pc) : Prop where
  len : xs.length = cs.length
  at_ : ∀ (i : Nat) (v : V) (c : Pc), xs[i]? = some v → cs[i]? = some c → PtAt K H v c
theorem PtsAt.same {K : PySem.W.Frag} {H H' : Hp} {xs : List V} {cs : List Pc} (h : PtsAt K H xs cs) (s : Same H H') : PtsAt K H' xs cs := ⟨h.len, fun i v c h1 h2 => (h.at_ i v c h1 h2).same s⟩
theorem fn_upto8 {P : Program} {w : World} {K : PySem.W.Frag} {mg : PySem.Str → Option Value} {base : Heap} {k N : Nat} {f : Addr} {fd : FuncData} {ps : List PySem.Str} {sp : Nat → Sp} (F : ∀ n, n < N → FnOk P w K mg base CX0 k f fd ps (sp n)) : FnOk P w K mg base CX0 k f fd ps (fun vs H Q E => ∃ n, n < N ∧ sp n vs H Q E) :=
  ⟨fun vs H Q E ⟨n, hn, q⟩ => (F n hn).len vs H Q E q, fun A outer s H args us vs Q E hr he hb hv ⟨n, hn, hs⟩ => (F n hn).run A outer s H args us vs Q E hr he hb hv hs⟩
structure CkI (K : PySem.W.Frag) (C : Addr) (q : PySem.Str) (s : Stmt) (ps : List PySem.Str) where
  f : Addr
  fd : FuncData
  F : Fun K "__init__" q s f fd
  b : Binds K fd ps []
  M : Mk K C f
abbrev prP : List PySem.Str := ["self", "row", "name", "parameters", "needs", "gives", "moves", "falls", "lets", "body"]
section
variable {P : Program} {w : World} {K : PySem.W.Frag} {mg : PySem.Str → Option Value} {base : Heap} {CP CG pp gg : Addr}
def spProgram (CG : Addr) (K : PySem.W.Frag) : Sp := fun vs H Q _ => ∃ (p dx b : Addr) (xs : List V), vs = [.ref p, .ref b] ∧ H p = some (.ins CG dx []) ∧ SqT K H b xs ∧ ∀ H', (∀ b o, b ≠ p → H b = some o → H' b = some o) → H' p = some (.ins CG dx [("procedures", .ref b)]) → Q .non H'
theorem ok_Program {f : Addr} {fd : FuncData} (F : Fun K "__init__" "Program.__init__" s_Program f fd) (T : TxQ K mg CP CG pp gg) : FnOk P w K mg base CX0 1 f fd ["self", "procedures"] (spProgram CG K) := by
  refine F.ok sc_Program (fun vs H Q E h => ?_) (fun cdv A outer s H vs Q E hr h => ?_)
  · obtain ⟨p, dx, b, xs, rfl, _⟩ := h
    rfl
  · obtain ⟨p, dx, b, xs, rfl, hp, hb, q⟩ := h
    refine ⟨_, pss_one (ps_fld (pv 0) (pe_callTy call_tuple_of (by rfl) T.n_tuple (by decide +kernel) (pa_cons (pv 1) pa_nil)) rfl), ?_⟩
    refine ⟨_, rfl, b, xs, rfl, .inr ⟨hb, ?_⟩⟩
    refine ⟨_, rfl, p, CG, dx, _, rfl, hp, T.cl, T.b0, (by show 0 < 1000; decide), ?_⟩
    exact q _ (fun b y hb e => (upd_ne hb).trans e) upd_same
def spMade (K : PySem.W.Frag) (CP : Addr) : Sp := fun vs H Q _ => ∃ (t : Addr) (v0 v1 v2 v3 v4 v5 v6 v7 v8 : V), vs = [.ref t] ∧ SqT K H t [v0, v1, v2, v3, v4, v5, v6, v7, v8] ∧ ∀ (p dx : Addr) (H' : Hp), Same H H' → H p = none → H' p = some (.ins CP dx (prF v0 v1 v2 v3 v4 v5 v6 v7 v8)) → Q (.ref p) H'
theorem ok_l_made (T : TxQ K mg CP CG pp gg) (c_P : CkI K CP "Procedure.__init__" s_Procedure prP) (D_l_made : Df K mg "_law_made" s_l_made ["one"]) : FnOk P w K mg base CX0 3 D_l_made.f D_l_made.fd ["one"] (spMade K CP) := by
  have G_Procedure := ok_Procedure (P := P) (w := w) (base := base) c_P.F T
  have M_Procedure := c_P.M
  have b_Procedure := c_P.b
  refine D_l_made.F.ok sc_l_made (fun vs H Q E h => ?_) (fun cdv A outer s H vs Q E hr h => ?_)
  · obtain ⟨t, v0, v1, v2, v3, v4, v5, v6, v7, v8, rfl, _⟩ := h
    rfl
  · obtain ⟨t, v0, v1, v2, v3, v4, v5, v6, v7, v8, rfl, ht, q⟩ := h
    refine ⟨_, (pss_one (ps_ret (pe_make M_Procedure G_Procedure (hr.mono (by decide)) rfl T.mg_Procedure b_Procedure .nil pass0 (pa_cons (pe_ix ix_tup (pv 0) pe_int (fun _ _ => rfl)) (pa_cons (pe_ix ix_tup (pv 0) pe_int (fun _ _ => rfl)) (pa_cons (pe_ix ix_tup (pv 0) pe_int (fun _ _ => rfl)) (pa_cons (pe_ix ix_tup (pv 0) pe_int (fun _ _ => rfl)) (pa_cons (pe_ix ix_tup (pv 0) pe_int (fun _ _ => rfl)) (pa_cons (pe_ix ix_tup (pv 0) pe_int (fun _ _ => rfl)) (pa_cons (pe_ix ix_tup (pv 0) pe_int (fun _ _ => rfl)) (pa_cons (pe_ix ix_tup (pv 0) pe_int (fun _ _ => rfl)) (pa_cons (pe_ix ix_tup (pv 0) pe_int (fun _ _ => rfl)) pa_nil)))))))))))), ?_⟩
    refine ⟨_, rfl, t, _, _, _, rfl, rfl, ht, atI_nat (j := 0) rfl, _, rfl, t, _, _, _, rfl, rfl, ht, atI_nat (j := 1) rfl, _, rfl, t, _, _, _, rfl, rfl, ht, atI_nat (j := 2) rfl, _, rfl, t, _, _, _, rfl, rfl, ht, atI_nat (j := 3) rfl, _, rfl, t, _, _, _, rfl, rfl, ht, atI_nat (j := 4) rfl, _, rfl, t, _, _, _, rfl, rfl, ht, atI_nat (j := 5) rfl, _, rfl, t, _, _, _, rfl, rfl, ht, atI_nat (j := 6) rfl, _, rfl, t, _, _, _, rfl, rfl, ht, atI_nat (j := 7) rfl, _, rfl, t, _, _, _, rfl, rfl, ht, atI_nat (j := 8) rfl, ?_⟩
    intro x dx nx ndx nex
    refine ⟨x, dx, v0, v1, v2, v3, v4, v5, v6, v7, v8, rfl, upd_same, fun H' h1 h2 => ⟨rfl, q x dx H' (fun b o e => h1 b o (ne_of_none e nx) ?_) nx h2⟩⟩
    rw [upd_ne (ne_of_none e nx), upd_ne (ne_of_none e ndx)]
    exact e
theorem psE_nl (ps : List (PySem.Str × Bool)) : noL (psE ps) = true := by
  unfold psE noL
  exact noLs_mapof fun a _ => rfl
def trip (c : Pc) : Pc := { c with p := 0 }
theorem trip_of {cs cs0 : List Pc} (h : cs.map trip = cs0.map trip) {c : Pc} (hc : c ∈ cs) : ∃ c0, c0 ∈ cs0 ∧ c0.body = c.body := by
  have h1 : trip c ∈ cs0.map trip := by
    rw [← h]
    exact List.mem_map.mpr ⟨c, hc, rfl⟩
  obtain ⟨c0, h2, h3⟩ := List.mem_map.mp h1
  exact ⟨c0, h2, @congrArg Pc _ (trip c0) (trip c) Pc.body h3⟩
def spProg (K : PySem.W.Frag) (CP CG : Addr) : Sp := fun vs H Q _ => ∃ (L : Addr) (xs : List V) (cs0 : List Pc), vs = [.ref L] ∧ H L = some (.lst xs) ∧ PtsAt K H xs cs0 ∧ (∀ c, c ∈ cs0 → c.ok) ∧ xs.length ≤ 100 ∧ ∀ (pg : Addr) (cs : List Pc) (H' : Hp), Same H H' → PgAt K CP CG H' pg cs → cs.map trip = cs0.map trip → Q (.ref pg) H'
theorem ok_l_program (T : TxQ K mg CP CG pp gg) (c_P : CkI K CP "Procedure.__init__" s_Procedure prP) (c_G : CkI K CG "Program.__init__" s_Program ["self", "procedures"]) (D_l_program : Df K mg "_law_program" s_l_program ["parts"]) (D_l_made : Df K mg "_law_made" s_l_made ["one"]) : FnOk P w K mg base CX0 4 D_l_program.f D_l_program.fd ["parts"] (spProg K CP CG) := by
  have G_l_made := ok_l_made (P := P) (w := w) (base := base) T c_P D_l_made
  have G_Program := ok_Program (P := P) (w := w) (base := base) c_G.F T
  have M_Program := c_G.M
  have b_Program := c_G.b
  refine D_l_program.F.ok sc_l_program (fun vs H Q E h => ?_) (fun cdv A outer s H vs Q E hr h => ?_)
  · obtain ⟨L, xs, cs0, rfl, _⟩ := h
    rfl
  · obtain ⟨L, xs, cs0, rfl, hL, hp, hok, hl, q⟩ := h
    refine ⟨_, (pss_one (ps_ret (pe_make M_Program G_Program (hr.mono (by decide)) rfl T.mg_Program b_Program .nil pass0 (pa_cons (pe_callTy call_tuple_of (by rfl) T.n_tuple (by decide +kernel) (pa_cons (pe_lc (own := [("one", 1)]) (g := gName 1) (by rfl) sc_l_program.nd (pi_list (pv 0)) (blkOk_by (own := [("one", 1)]) (N := ["parts", "one"]) (sc := defScope s_l_program) (by decide +kernel)) (fun _ _ _ _ _ => pg_name (i := 1) sc_l_program.nd rfl (Or.inl rfl)) (fun _ _ _ _ _ => pts_nil) (fun _ _ _ _ _ => (pe_call G_l_made (hr.mono (by decide)) (by rfl) D_l_made.g D_l_made.F.kp D_l_made.b .nil pass0 (pa_cons (pv 1) pa_nil)))) pa_nil)) pa_nil)))), ?_⟩
    have hlen := hp.len
    refine ⟨_, rfl, L, rfl, ⟨_, SqL.of hL⟩, fun D nD => ?_⟩
    refine lc_list (K := K) (a := L) (xs := xs) (fun i G => Same H G ∧ ∃ (cs : List Pc), G D = some (.lst (cs.map fun c => .ref c.p)) ∧ cs.map trip = (cs0.take i).map trip ∧ ∀ c, c ∈ cs → PcAt K CP G c) ⟨same_new nD, [], upd_same, rfl, fun _ h => (List.not_mem_nil h).elim⟩ (fun i G _ hP => SqL.of (hP.1 _ _ hL)) (fun i v G hv hP => ?_) (fun G hP => ?_)
    · obtain ⟨sG, cs, eD, ec, hc⟩ := hP
      have hi : i < cs0.length := by
        rw [← hlen]
        exact (List.getElem?_eq_some_iff.mp hv).1
      obtain ⟨t, v0, v2, v3, v4, v5, v6, v7, v8, rfl, ht, d2, d5, d7, d8⟩ := ((hp.same sG).at_ i v _ hv (List.getElem?_eq_getElem hi)).ex
      have hcl : cs.length = i := by
        have := congrArg List.length ec
        rw [List.length_map, List.length_map, List.length_take] at this
        omega
      refine ⟨rfl, _, rfl, t, v0, _, v2, v3, v4, v5, v6, v7, v8, rfl, ht, fun p dx G2 s2 np e2 => ?_⟩
      refine ⟨_, s2 _ _ eD, small_sz5 (by rw [List.length_map]; omega), ?_⟩
      have s3 : Same H (upd G2 D (.lst ((cs.map fun c => .ref c.p) ++ [.ref p]))) := same_mut (sG.trans s2) nD
      have mv : ∀ c : Pc, (∀ s, s ∈ c.body → okD 5 s) → PcAt K CP G2 c → PcAt K CP (upd G2 D (.lst ((cs.map fun c => .ref c.p) ++ [.ref p]))) c := fun c hb0 hc => by
        obtain ⟨dx', u0, u2, u3, u4, u5, u6, u7, u8, h1, h2, h5, h7, h3⟩ := hc.ex
        have kp : ∀ b o, b ≠ D → G2 b = some o → (upd G2 D (.lst ((cs.map fun c => .ref c.p) ++ [.ref p]))) b = some o := fun b o hb e => (upd_ne hb).trans e
        refine ⟨dx', u0, u2, u3, u4, u5, u6, u7, u8, kp _ _ (fun e => ?_) h1, dp_but (s2 _ _ eD) kp _ _ (psE_nl _) h2, dp_but (s2 _ _ eD) kp _ _ (strs_noL _) h5, dp_but (s2 _ _ eD) kp _ _ (ltE_noL _) h7, ?_⟩
        · rw [e, s2 _ _ eD] at h1
          cases h1
        · exact dp_but (s2 _ _ eD) kp _ _ (noL_blk hb0) h3
      refine ⟨s3, cs ++ [{ cs0[i] with p := p }], ?_, ?_, fun c hcm => ?_⟩
      · rw [upd_same, List.map_append]
        rfl
      · rw [List.take_succ_eq_append_getElem hi, List.map_append, List.map_append, ec]
        rfl
      · rcases List.mem_append.mp hcm with hcm | hcm
        · obtain ⟨c0, m1, e3⟩ := trip_of ec hcm
          exact mv c (e3 ▸ (hok c0 (List.mem_of_mem_take m1)).body) ((hc c hcm).same s2)
        · rw [List.mem_singleton.mp hcm]
          exact mv _ (hok _ (List.getElem_mem hi)).body ⟨dx, v0, v2, v3, v4, v5, v6, v7, v8, e2, d2.same s2, d5.same s2, d7.same s2, d8.same s2⟩
    · obtain ⟨sG, cs, eD, ec, hc⟩ := hP
      rw [List.take_of_length_le (by omega)] at ec
      refine ⟨D, _, rfl, .inl ⟨SqL.of eD, fun tt nt => ?_⟩⟩
      generalize hG2 : upd G tt _ = G2
      obtain ⟨s2, e2⟩ := new_of nt hG2
      intro x dx nx ndx nex
      refine ⟨x, dx, tt, cs.map fun c => .ref c.p, rfl, upd_same, .inl (.inl ?_), fun H' h1 h2 => ⟨rfl, ?_⟩⟩
      · rw [upd_ne (ne_of_none e2 nx), upd_ne (ne_of_none e2 ndx)]
        exact e2
      · have s3 : Same G2 H' := fun b o e => h1 b o (ne_of_none e nx) (by
          rw [upd_ne (ne_of_none e nx), upd_ne (ne_of_none e ndx)]
          exact e)
        exact q x cs H' (sG.trans (s2.trans s3)) ⟨⟨dx, tt, h2, SqT.of (s3 _ _ e2)⟩, fun c hcm => (hc c hcm).same (s2.trans s3)⟩ ec
end
def TupV (K : PySem.W.Frag) (H : Hp) (v : V) : Prop := ∃ t xs, v = .ref t ∧ SqT K H t xs
theorem TupV.same {K : PySem.W.Frag} {H H' : Hp} {v : V} (h : TupV K H v) (s : Same H H') : TupV K H' v := by
  obtain ⟨t, xs, e, h⟩ := h
  exact ⟨t, xs, e, sqt_same s h⟩
/-- a procedure's row, as the generator has it -/
structure PqAt (K : PySem.W.Frag) (H : Hp) (v : V) (c : Pc) : Prop where
  ex : ∃ (t : Addr) (v2 v3 v4 v5 v6 v7 v8 : V), v = .ref t ∧ SqT K H t [.str c.nm, v2, v3, v4, v5, v6, v7, v8] ∧ Dp K H v2 (psE c.ps) ∧ TupV K H v3 ∧ TupV K H v4 ∧ Dp K H v5 (.tuple (c.mv.map .str)) ∧ Dp K H v7 (ltE c.lt) ∧ Dp K H v8 (blkE 5 c.body)
theorem PqAt.same {K : PySem.W.Frag} {H H' : Hp} {v : V} {c : Pc} (h : PqAt K H v c) (s : Same H H') : PqAt K H' v c := by
  obtain ⟨t, v2, v3, v4, v5, v6, v7, v8, e, h1, h2, h3, h4, h5, h7, h8⟩ := h.ex
  exact ⟨t, v2, v3, v4, v5, v6, v7, v8, e, sqt_same s h1, h2.same s, h3.same s, h4.same s, h5.same s, h7.same s, h8.same s⟩
structure PqsAt (K : PySem.W.Frag) (H : Hp) (xs : List V) (cs : List Pc) : Prop where
  len : xs.length = cs.length
  at_ : ∀ (i : Nat) (v : V) (c : Pc), xs[i]? = some v → cs[i]? = some c → PqAt K H v c
theorem PqsAt.same {K : PySem.W.Frag} {H H' : Hp} {xs : List V} {cs : List Pc} (h : PqsAt K H xs cs) (s : Same H H') : PqsAt K H' xs cs := ⟨h.len, fun i v c h1 h2 => (h.at_ i v c h1 h2).same s⟩
theorem PtAt.but {K : PySem.W.Frag} {H H' : Hp} {v : V} {c : Pc} {M : Addr} {ys : List V} (h : PtAt K H v c) (hM : H M = some (.lst ys)) (s : But M H H') (hb : ∀ s, s ∈ c.body → okD 5 s) : PtAt K H' v c := by
  obtain ⟨t, v0, v2, v3, v4, v5, v6, v7, v8, e, h1, h2, h5, h7, h3⟩ := h.ex
  exact ⟨t, v0, v2, v3, v4, v5, v6, v7, v8, e, Op_sqt hM s h1, dp_but hM s _ _ (psE_nl _) h2, dp_but hM s _ _ (strs_noL _) h5, dp_but hM s _ _ (ltE_noL _) h7, dp_but hM s _ _ (noL_blk hb) h3⟩
/-- the same but for the rows -/
structure SamC (c c' : Pc) : Prop where
  nm : c'.nm = c.nm
  ps : c'.ps = c.ps
  mv : c'.mv = c.mv
  lt : c'.lt.map Prod.snd = c.lt.map Prod.snd
  fl : nrB 5 c'.body = nrB 5 c.body
  ok : ∀ s, s ∈ c'.body → okD 5 s
structure SamL (cs cs' : List Pc) : Prop where
  len : cs'.length = cs.length
  at_ : ∀ (i : Nat) (c c' : Pc), cs[i]? = some c → cs'[i]? = some c' → SamC c c'
section
variable {P : Program} {w : World} {K : PySem.W.Frag} {mg : PySem.Str → Option Value} {base : Heap}
def spParts (K : PySem.W.Frag) : Sp := fun vs H Q _ => ∃ (L : Addr) (xs : List V) (cs : List Pc), vs = [.ref L] ∧ H L = some (.lst xs) ∧ PqsAt K H xs cs ∧ (∀ c, c ∈ cs → c.ok) ∧ cs.length ≤ 10 ∧ ∀ (M : Addr) (ys : List V) (cs' : List Pc) (H' : Hp), Same H H' → H' M = some (.lst ys) → PtsAt K H' ys cs' → SamL cs cs' → Q (.ref M) H'
theorem ok_l_parts (T : TxB mg) (D_l_parts : Df K mg "_law_parts" s_l_parts ["procs"]) (D_l_rows : Df K mg "_law_rows" s_l_rows ["block", "row"]) : FnOk P w K mg base CX0 10 D_l_parts.f D_l_parts.fd ["procs"] (spParts K) := by
  have G_l_rows : FnOk P w K mg base CX0 9 D_l_rows.f D_l_rows.fd ["block", "row"] (fun vs H Q E => ∃ n, n < 8 ∧ spRows K n vs H Q E) := fn_upto8 fun n hn => (ok_l_rows (P := P) (w := w) (base := base) T D_l_rows n).mono (by omega)
  refine D_l_parts.F.ok sc_l_parts (fun vs H Q E h => ?_) (fun cdv A outer s H vs Q E hr h => ?_)
  · obtain ⟨L, xs, cs, rfl, _⟩ := h
    rfl
  · obtain ⟨L, xs, cs, rfl, hL, hp, hok, hl, q⟩ := h
    refine ⟨_, (pss_cons (ps_set (i := 1) sc_l_parts.nd rfl (.inl rfl) (pe_lst pa_nil))
    (pss_cons (ps_set (i := 2) sc_l_parts.nd rfl (.inl rfl) pe_int)
    (pss_cons (ps_for PassesOwn.never rfl (pi_list (pv 0)) (pg_tup (by rfl) (pgs_cons (pg_name (i := 3) sc_l_parts.nd rfl (.inl rfl)) (pgs_cons (pg_name (i := 4) sc_l_parts.nd rfl (.inl rfl)) (pgs_cons (pg_name (i := 5) sc_l_parts.nd rfl (.inl rfl)) (pgs_cons (pg_name (i := 6) sc_l_parts.nd rfl (.inl rfl)) (pgs_cons (pg_name (i := 7) sc_l_parts.nd rfl (.inl rfl)) (pgs_cons (pg_name (i := 8) sc_l_parts.nd rfl (.inl rfl)) (pgs_cons (pg_name (i := 9) sc_l_parts.nd rfl (.inl rfl)) (pgs_cons (pg_name (i := 10) sc_l_parts.nd rfl (.inl rfl)) pgs_nil)))))))))
    (pss_cons (ps_set (i := 11) sc_l_parts.nd rfl (.inl rfl) (pv 2))
    (pss_cons (ps_set (i := 2) sc_l_parts.nd rfl (.inl rfl) (pe_op op_add (pe_op op_add (pe_op op_add (pe_op op_add (pe_op op_add (pv 2) pe_int) (pe_callB call_len_seq (by rfl) T.n_len PySem.boot_len (pa_cons (pv 5) pa_nil))) (pe_callB call_len_seq (by rfl) T.n_len PySem.boot_len (pa_cons (pv 6) pa_nil))) (pe_callB call_len_seq (by rfl) T.n_len PySem.boot_len (pa_cons (pv 7) pa_nil))) (pe_callTy call_int1 (by rfl) T.n_int (by decide +kernel) (pa_cons (pe_cmpR op_notN (pv 8) pe_non (nomark _)) pa_nil))))
    (pss_cons (ps_set (i := 12) sc_l_parts.nd rfl (.inl rfl) (pe_lst pa_nil))
    (pss_cons (ps_for PassesOwn.never rfl (pi_tup (pv 9)) (pg_name (i := 13) sc_l_parts.nd rfl (.inl rfl))
    (pss_cons (ps_expr (pe_bm PySem.F.plainAttrs_list PySem.F.slot_list_append PySem.F.type_list_append mt_append (pv 12) (pa_cons (pe_op op_catB (pe_tup (pa_cons (pv 2) pa_nil)) (pe_slice sl_tupB (pv 13) (po_some pe_int) po_none)) pa_nil)))
    (pss_one (ps_set (i := 2) sc_l_parts.nd rfl (.inl rfl) (pe_op op_add (pv 2) pe_int)))))
    (pss_cons (ps_asg (pe_call G_l_rows (hr.mono (by decide)) (by rfl) D_l_rows.g D_l_rows.F.kp D_l_rows.b .nil pass0 (pa_cons (pv 10) (pa_cons (pv 2) pa_nil))) (pg_tup (by rfl) (pgs_cons (pg_name (i := 14) sc_l_parts.nd rfl (.inl rfl)) (pgs_cons (pg_name (i := 2) sc_l_parts.nd rfl (.inl rfl)) pgs_nil))))
    (pss_cons (ps_set (i := 2) sc_l_parts.nd rfl (.inl rfl) (pe_op op_add (pv 2) pe_int))
    (pss_one (ps_expr (pe_bm PySem.F.plainAttrs_list PySem.F.slot_list_append PySem.F.type_list_append mt_append (pv 1) (pa_cons (pe_tup (pa_cons (pv 11) (pa_cons (pv 3) (pa_cons (pv 4) (pa_cons (pv 5) (pa_cons (pv 6) (pa_cons (pv 7) (pa_cons (pv 8) (pa_cons (pe_callTy call_tuple_of (by rfl) T.n_tuple (by decide +kernel) (pa_cons (pv 12) pa_nil)) (pa_cons (pv 14) pa_nil)))))))))) pa_nil)))))))))))
    (pss_one (ps_ret (pv 1)))))), ?_⟩
    refine ⟨Nat.zero_le _, fun M nM => ?_⟩
    generalize hG : upd H M _ = G
    obtain ⟨s1, e1⟩ := new_of nM hG
    refine ⟨_, rfl, L, rfl, ⟨_, SqL.of (s1 _ _ hL)⟩, ?_⟩
    refine for_list (K := K) (a := L) (xs := xs) (fun i σ G => Same H G ∧ ∃ (r : Int) (y3 y4 y5 y6 y7 y8 y9 y10 y11 y12 y13 y14 : Option V) (ys : List V) (cs' : List Pc), σ = [some (.ref L), some (.ref M), some (.int r), y3, y4, y5, y6, y7, y8, y9, y10, y11, y12, y13, y14] ∧ G M = some (.lst ys) ∧ PtsAt K G ys cs' ∧ SamL (cs.take i) cs') ⟨s1, 1, _, _, _, _, _, _, _, _, _, _, _, _, [], [], rfl, e1, ⟨rfl, fun i v c h => by cases h⟩, ⟨rfl, fun i c c' h => by cases h⟩⟩ (fun i σ G _ hP => SqL.of (hP.1 _ _ hL)) (fun i v σ G hv hP => ?_) (fun σ G hP => ?_)
    · obtain ⟨sG, r, y3, y4, y5, y6, y7, y8, y9, y10, y11, y12, y13, y14, ys, cs', rfl, eM, pt, sm⟩ := hP
      have hi : i < cs.length := by
        rw [← hp.len]
        exact (List.getElem?_eq_some_iff.mp hv).1
      have htk : cs.take (i + 1) = cs.take i ++ [cs[i]] := List.take_succ_eq_append_getElem hi
      have hcm := List.getElem_mem hi
      have hq := (hp.same sG).at_ i v _ hv (List.getElem?_eq_getElem hi)
      generalize cs[i] = c at htk hcm hq
      obtain ⟨t, v2, v3, v4, v5, v6, v7, v8, rfl, ht, d2, ⟨tn, xn, rfl, hn⟩, ⟨tg, xg, rfl, hg⟩, d5, d7, d8⟩ := hq.ex
      obtain ⟨tm, xm, rfl, hmv, _⟩ := dp_tup_inv d5
      obtain ⟨tl, ls, rfl, htl, dls⟩ := dp_tup_inv d7
      have hll : ls.length = c.lt.length := by rw [dpa_len dls, List.length_map]
      have hl10 := (hok c hcm).lt
      have hcok := hok c hcm
      refine ⟨t, _, rfl, ht, rfl, _, _, rfl, _, _, rfl, _, _, rfl, _, _, rfl, _, _, rfl, _, _, rfl, _, _, rfl, _, _, rfl, rfl, ?_⟩
      refine ⟨_, rfl, ?_⟩
      refine ⟨_, rfl, _, _, rfl, rfl, _, rfl, tn, _, rfl, .inr hn, _, _, rfl, rfl, _, rfl, tg, _, rfl, .inr hg, _, _, rfl, rfl, _, rfl, tm, _, rfl, .inr hmv, _, _, rfl, rfl, _, rfl, rfl, .inr ⟨_, rfl, _, _, rfl, rfl, ?_⟩⟩
      refine ⟨Nat.zero_le _, fun N nN => ?_⟩
      generalize hG2 : upd G N _ = G2
      obtain ⟨s2, e2⟩ := new_of nN hG2
      refine ⟨_, rfl, tl, rfl, ⟨_, sqt_same s2 htl⟩, ?_⟩
      refine for_tup (K := K) (a := tl) (xs := ls) (fun j σ J => Same G J ∧ ∃ (r3 : Int) (y13 : Option V) (zs : List V), σ = [some (.ref L), some (.ref M), some (.int r3), some (.str c.nm), some v2, some (.ref tn), some (.ref tg), some (.ref tm), some v6, some (.ref tl), some v8, some (.int r), some (.ref N), y13, y14] ∧ J N = some (.lst zs) ∧ ∃ lt' : List (Int × PySem.Str × Tm), DpAll K J zs (lt'.map encL) ∧ lt'.map Prod.snd = (c.lt.take j).map Prod.snd) ⟨s2, _, _, [], rfl, e2, [], .nil, rfl⟩ (fun j σ J _ hP => sqt_same hP.1 htl) (fun j x σ J hx hP => ?_) (fun σ J hP => ?_)
      · obtain ⟨sJ, r3, y13, zs, rfl, eN, lt', dz, hlt⟩ := hP
        have hjl : j < c.lt.length := by
          rw [← hll]
          exact (List.getElem?_eq_some_iff.mp hx).1
        obtain ⟨v', g1, dx⟩ := dp_mem dls hjl
        rw [hx] at g1
        cases g1
        have htk2 : c.lt.take (j + 1) = c.lt.take j ++ [c.lt[j]] := List.take_succ_eq_append_getElem hjl
        generalize c.lt[j] = le at dx htk2
        obtain ⟨rr, nn, tt0⟩ := le
        obtain ⟨t2, a, b, c9, rfl, ht2, h1, h2, h3⟩ := dp3 dx
        cases dpi h1
        cases dp_str_inv h2
        have hzl : zs.length ≤ j := by
          have e1 := congrArg List.length hlt
          rw [List.length_map, List.length_map, List.length_take] at e1
          rw [dpa_len dz, List.length_map]
          omega
        refine ⟨_, rfl, .inl ⟨rfl, _, SqL.of eN⟩, _, rfl, by show 1 ≤ sizeLine; decide, fun tt nt => ?_⟩
        generalize hG3 : upd J tt _ = J3
        obtain ⟨s3, e3⟩ := new_of nt hG3
        refine ⟨_, rfl, _, rfl, t2, _, rfl, sqt_same (sJ.trans s3) ht2, fun p4 J4 s4 h4 => ?_⟩
        replace h4 : SqT K J4 p4 [.str nn, c9] := h4
        refine ⟨tt, p4, _, _, rfl, rfl, SqT.of (s4 _ _ e3), h4, by show 3 ≤ sizeLine; decide, fun p5 J5 s5 h5 => ?_⟩
        have s35 := s3.trans (s4.trans s5)
        refine ⟨N, _, _, rfl, rfl, s35 _ _ eN, small_sz5 (by omega), ?_⟩
        refine ⟨_, rfl, _, _, rfl, rfl, same_mut (sJ.trans s35) nN, _, _, _, rfl, upd_same, lt' ++ [(r3, nn, tt0)], ?_, ?_⟩
        · refine dpa_but (s35 _ _ eN) (fun b o hb e => (upd_ne hb).trans e) _ _ (noLs_mapof fun z _ => encL_noL z) ?_
          rw [List.map_append]
          exact dpa_snoc (dpa_same s35 _ _ dz) (.tup h5 (.cons (.int _) (.cons (.str _) (.cons (h3.same (sJ.trans s35)) .nil))))
        · rw [List.map_append, htk2, List.map_append, hlt]
          rfl
      · obtain ⟨sJ, r3, y13, zs, rfl, eN, lt', dz, hlt⟩ := hP
        rw [List.take_of_length_le (by omega)] at hlt
        refine ⟨_, rfl, _, rfl, 5, by decide, v8, r3, c.body, rfl, d8.same sJ, hcok.body, Nat.le_trans (len_flat _ _) hcok.flat, hcok.flat, fun t6 v9 r9 b' J6 s6 e6 d9 ok9 _ f9 => ?_⟩
        refine ⟨t6, _, rfl, SqT.of e6, rfl, _, _, rfl, _, _, rfl, rfl, ?_⟩
        refine ⟨_, rfl, _, _, rfl, rfl, ?_⟩
        have s16 := sJ.trans s6
        have eM6 := s16 _ _ eM
        refine ⟨_, rfl, .inl ⟨rfl, _, SqL.of eM6⟩, _, rfl, _, rfl, _, rfl, _, rfl, _, rfl, _, rfl, _, rfl, _, rfl, N, _, rfl, .inl ⟨SqL.of (s6 _ _ eN), fun tt nt => ?_⟩⟩
        generalize hG7 : upd J6 tt _ = J7
        obtain ⟨s7, e7⟩ := new_of nt hG7
        refine ⟨_, rfl, by show 9 ≤ sizeLine; decide, fun t8 n8 => ?_⟩
        generalize hG8 : upd J7 t8 _ = J8
        obtain ⟨s8, e8⟩ := new_of n8 hG8
        have s78 := s7.trans s8
        have eM8 := s78 _ _ eM6
        have hyl : ys.length ≤ 10 := by
          have h1 := pt.len
          have h2 := sm.len
          rw [List.length_take] at h2
          omega
        refine ⟨M, _, _, rfl, rfl, eM8, small_sz5 (by omega), ?_⟩
        have sA : Same G J8 := s16.trans s78
        have kp : But M J8 (upd J8 M (.lst (ys ++ [.ref t8]))) := fun b o hb e => (upd_ne hb).trans e
        have newP : PtAt K J8 (.ref t8) (⟨c.p, c.nm, c.ps, c.mv, lt', b'⟩ : Pc) := ⟨t8, _, v2, _, _, _, _, _, v9, rfl, SqT.of e8, d2.same sA, d5.same sA, .tup (SqT.of (s8 _ _ e7)) (dpa_same (s6.trans s78) _ _ dz), d9.same s78⟩
        have lcs : cs'.length = i := by
          have h2 := sm.len
          rw [List.length_take] at h2
          omega
        have bok : ∀ c', c' ∈ cs' → ∀ s, s ∈ c'.body → okD 5 s := fun c' hc' => by
          obtain ⟨j, hj⟩ := List.getElem?_of_mem hc'
          have hjl : j < cs'.length := (List.getElem?_eq_some_iff.mp hj).1
          have hj2 : j < (cs.take i).length := by
            rw [← sm.len]
            exact hjl
          exact (sm.at_ j _ c' (List.getElem?_eq_getElem hj2) hj).ok
        refine ⟨same_mut (sG.trans sA) nM, _, _, _, _, _, _, _, _, _, _, _, _, _, ys ++ [.ref t8], cs' ++ [⟨c.p, c.nm, c.ps, c.mv, lt', b'⟩], rfl, upd_same, ⟨?_, fun j u k hu hk => ?_⟩, ⟨?_, fun j k k' hk hk' => ?_⟩⟩
        · rw [List.length_append, List.length_append, pt.len]
          rfl
        · by_cases hj : j < ys.length
          · rw [List.getElem?_append_left hj] at hu
            rw [List.getElem?_append_left (by rw [← pt.len]; exact hj)] at hk
            exact ((pt.at_ j u k hu hk).same sA).but eM8 kp (bok k (List.mem_of_getElem? hk))
          · have hj2 : j = ys.length := by
              have := (List.getElem?_eq_some_iff.mp hu).1
              rw [List.length_append] at this
              have : j < ys.length + 1 := this
              omega
            rw [hj2, List.getElem?_append_right (Nat.le_refl _), Nat.sub_self] at hu
            rw [hj2, pt.len, List.getElem?_append_right (Nat.le_refl _), Nat.sub_self] at hk
            cases hu
            cases hk
            exact newP.but eM8 kp ok9
        · rw [htk, List.length_append, List.length_append, sm.len]
          rfl
        · rw [htk] at hk
          by_cases hj : j < cs'.length
          · rw [List.getElem?_append_left hj] at hk'
            rw [List.getElem?_append_left (by rw [← sm.len]; exact hj)] at hk
            exact sm.at_ j k k' hk hk'
          · have hj2 : j = cs'.length := by
              have := (List.getElem?_eq_some_iff.mp hk').1
              rw [List.length_append] at this
              have : j < cs'.length + 1 := this
              omega
            rw [hj2, List.getElem?_append_right (Nat.le_refl _), Nat.sub_self] at hk'
            rw [hj2, sm.len, List.getElem?_append_right (Nat.le_refl _), Nat.sub_self] at hk
            cases hk
            cases hk'
            exact ⟨rfl, rfl, rfl, hlt, f9, ok9⟩
    · obtain ⟨sG, r, y3, y4, y5, y6, y7, y8, y9, y10, y11, y12, y13, y14, ys, cs', rfl, eM, pt, sm⟩ := hP
      rw [List.take_of_length_le (by rw [hp.len]; exact Nat.le_refl _)] at sm
      exact ⟨_, rfl, q M ys cs' G sG eM pt sm⟩
end
end SW

namespace SW
open PySem PySem.Spec PyProof.Rows L2
abbrev s_l_names : Stmt := topS 34
theorem sc_l_names : FnScope ["hand", "found", "letter", "pad"] ["hand"] (defScope s_l_names) := ⟨rfl, rfl, rfl, by decide +kernel, rfl, by decide +kernel, by decide +kernel⟩

/-- a name without its padding -/
def kc (x : PySem.Str) : List Nat := x.cps.toList.filter fun c => c != 117 && c != 122
theorem kc_app (x y : PySem.Str) : kc (x ++ y) = kc x ++ kc y := by
  unfold kc
  have e : (x ++ y).cps.toList = x.cps.toList ++ y.cps.toList := TL.tl_append x y
  rw [e, List.filter_append]
def letters : PySem.Str := "abcdegkmpqvxyhjw"
theorem letters_len : letters.cps.toList.length = 16 := by decide +kernel
theorem letters_nd : letters.cps.toList.Nodup := by decide +kernel
theorem letters_ok : ∀ c, c ∈ letters.cps.toList → (c != 117 && c != 122) = true := by decide +kernel
theorem kc_one {c : Nat} (h : (c != 117 && c != 122) = true) : kc ⟨#[c]⟩ = [c] := by
  show List.filter (fun c => c != 117 && c != 122) [c] = [c]
  rw [List.filter_cons, if_pos h]
  rfl
theorem pads_ok : ∀ z : PySem.Str, z ∈ (["u", "z", "uz", "zuuz", "zzzzuuuu"] : List PySem.Str) → z.length ≤ 8 ∧ kc z = [] := by decide +kernel
def KcOk (ns : List PySem.Str) : Prop := ∀ (j : Nat) (x : PySem.Str), ns[j]? = some x → ∃ c, letters.cps.toList[j]? = some c ∧ kc x = [c]
theorem KcOk.nodup {ns : List PySem.Str} (h : KcOk ns) : ns.Nodup := by
  refine List.pairwise_iff_getElem.mpr fun i j hi hj hij e => ?_
  obtain ⟨c, h1, h2⟩ := h i _ (List.getElem?_eq_getElem hi)
  obtain ⟨c', h3, h4⟩ := h j _ (List.getElem?_eq_getElem hj)
  rw [e, h4] at h2
  cases h2
  obtain ⟨i1, i2⟩ := List.getElem?_eq_some_iff.mp h1
  obtain ⟨j1, j2⟩ := List.getElem?_eq_some_iff.mp h3
  exact List.pairwise_iff_getElem.mp letters_nd i j i1 j1 hij (i2.trans j2.symm)
section
variable {P : Program} {w : World} {K : PySem.W.Frag} {mg : PySem.Str → Option Value} {base : Heap}
def spNames : Sp := fun vs H Q _ => ∃ (h d : Addr) (ds : List Int), vs = [.ref h] ∧ Hand H h d ds ∧ ∀ (a : Addr) (ns : List PySem.Str) (H' : Hp), But h H H' → Hand H' h d ds → H' a = some (.lst (ns.map V.str)) → ns.length = 16 → ns.Nodup → Q (.ref a) H'
theorem ok_l_names (T : TxB mg) (D_l_names : Df K mg "_law_names" s_l_names ["hand"]) (D_l_take : Df K mg "_law_take" s_l_take ["hand", "many"]) : FnOk P w K mg base CX0 2 D_l_names.f D_l_names.fd ["hand"] spNames := by
  have G_l_take := ok_l_take (P := P) (w := w) (K := K) (base := base) T D_l_take
  refine D_l_names.F.ok sc_l_names (fun vs H Q E h => ?_) (fun cdv A outer s H vs Q E hr h => ?_)
  · obtain ⟨h, d, ds, rfl, _⟩ := h
    rfl
  · obtain ⟨h, d, ds, rfl, hH, q⟩ := h
    refine ⟨_, (pss_cons (ps_set (i := 1) sc_l_names.nd rfl (.inl rfl) (pe_lst pa_nil))
    (pss_cons (ps_for PassesOwn.never rfl (pi_str pe_str) (pg_name (i := 2) sc_l_names.nd rfl (.inl rfl))
    (pss_cons (ps_set (i := 3) sc_l_names.nd rfl (.inl rfl) (pe_ix ix_list (pe_lst (pa_strs (.cons _ _ _ (.cons _ _ _ (.cons _ _ _ (.cons _ _ _ (.cons _ _ _ .nil))))))) (pe_call G_l_take (hr.mono (by decide)) (by rfl) D_l_take.g D_l_take.F.kp D_l_take.b .nil pass0 (pa_cons (pv 0) (pa_cons pe_int pa_nil))) (fun _ _ => rfl)))
    (pss_one (ps_expr (pe_bm PySem.F.plainAttrs_list PySem.F.slot_list_append PySem.F.type_list_append mt_append (pv 1) (pa_cons (pe_ix ix_list (pe_lst (pa_cons (pv 2) (pa_cons (pe_op op_add_str (pv 2) (pv 3)) (pa_cons (pe_op op_add_str (pv 3) (pv 2)) pa_nil)))) (pe_call G_l_take (hr.mono (by decide)) (by rfl) D_l_take.g D_l_take.F.kp D_l_take.b .nil pass0 (pa_cons (pv 0) (pa_cons pe_int pa_nil))) (fun _ _ => rfl)) pa_nil))))))
    (pss_one (ps_ret (pv 1))))), ?_⟩
    refine ⟨Nat.zero_le _, fun D nD => ?_⟩
    have hDh := hand_ne hH nD
    have hDd := hand_ne2 hH nD
    refine ⟨_, rfl, ?_⟩
    refine for_str (x := letters) (fun i σ H2 => ∃ (y2 y3 : Option V) (ns : List PySem.Str), σ = [some (.ref h), some (.ref D), y2, y3] ∧ But h H H2 ∧ Hand H2 h d ds ∧ H2 D = some (.lst (ns.map V.str)) ∧ ns.length = i ∧ KcOk ns) ⟨_, _, [], rfl, (But.refl h H).new nD, hH.upd hDh hDd, upd_same, rfl, fun j x h => by cases h⟩ (fun i c σ H2 hc hP => ?_) (fun σ H2 hP => ?_)
    · obtain ⟨y2, y3, ns, rfl, b2, h2, e2, hl, hk⟩ := hP
      have hi : i < 16 := by
        rw [← letters_len]
        exact (List.getElem?_eq_some_iff.mp hc).1
      have hco := kc_one (letters_ok c (List.mem_of_getElem? hc))
      refine ⟨by show (5 : Nat) ≤ sizeLine; decide, fun p np => ?_⟩
      generalize hg : upd H2 p _ = H3
      obtain ⟨s3, e3⟩ := new_of np hg
      have hp := hand_ne h2 np
      have h3 := h2.same s3
      refine ⟨_, rfl, h, d, ds, 5, rfl, by decide, h3, fun r4 H4 r40 r41 b4 h4 _ => ?_⟩
      obtain ⟨z, hz, hza⟩ := strs_at (ws := ["u", "z", "uz", "zuuz", "zzzzuuuu"]) r40 (by show r4 < 5; exact r41)
      obtain ⟨hzl, hzk⟩ := pads_ok z hz
      refine ⟨p, _, _, _, rfl, rfl, SqL.of (b4 _ _ hp e3), hza, ?_⟩
      have e4 := b4 _ _ hDh (s3 _ _ e2)
      have hcl : (⟨#[c]⟩ : PySem.Str).length = 1 := rfl
      refine ⟨_, rfl, .inl ⟨rfl, _, SqL.of e4⟩, ?_⟩
      refine ⟨_, rfl, _, rfl, _, rfl, _, _, rfl, rfl, sz5 (by rw [hcl]; omega), _, rfl, _, rfl, _, _, rfl, rfl, sz5 (by rw [hcl]; omega), by show (3 : Nat) ≤ sizeLine; decide, fun p5 n5 => ?_⟩
      generalize hg : upd H4 p5 _ = H5
      obtain ⟨s5, e5⟩ := new_of n5 hg
      have hp5 := hand_ne h4 n5
      have h5 := h4.same s5
      refine ⟨_, rfl, h, d, ds, 3, rfl, by decide, h5, fun r6 H6 r60 r61 b6 h6 _ => ?_⟩
      obtain ⟨z2, hz2, hza2⟩ := strs_at (ws := [⟨#[c]⟩, (⟨#[c]⟩ : PySem.Str) ++ z, z ++ (⟨#[c]⟩ : PySem.Str)]) r60 (by show r6 < 3; exact r61)
      have hk2 : kc z2 = [c] := by
        simp only [List.mem_cons, List.not_mem_nil, or_false] at hz2
        rcases hz2 with rfl | rfl | rfl
        · exact hco
        · rw [kc_app, hco, hzk]
          rfl
        · rw [kc_app, hco, hzk]
          rfl
      have e6 := b6 _ _ hDh (s5 _ _ e4)
      refine ⟨p5, _, _, _, rfl, rfl, SqL.of (b6 _ _ hp5 e5), hza2, D, _, _, rfl, rfl, e6, ?_, ?_⟩
      · rw [List.length_map, hl]
        exact small_sz (by omega)
      · have B6 : But h H H6 := (b2.trans (Same.but s3)).trans (b4.trans ((Same.but s5).trans b6))
        refine ⟨_, _, ns ++ [z2], rfl, B6.new nD, h6.upd hDh hDd, ?_, by rw [List.length_append, hl]; rfl, fun j x hx => ?_⟩
        · rw [upd_same, List.map_append]
          rfl
        · by_cases hj : j < ns.length
          · rw [List.getElem?_append_left hj] at hx
            exact hk j x hx
          · have hj2 : j = ns.length := by
              have := (List.getElem?_eq_some_iff.mp hx).1
              rw [List.length_append] at this
              have : j < ns.length + 1 := this
              omega
            rw [hj2, List.getElem?_append_right (Nat.le_refl _), Nat.sub_self] at hx
            cases hx
            exact ⟨c, by rw [hj2, hl]; exact hc, hk2⟩
    · obtain ⟨y2, y3, ns, rfl, b2, h2, e2, hl, hk⟩ := hP
      exact ⟨_, rfl, q D ns H2 b2 h2 e2 (by rw [hl]; exact letters_len) hk.nodup⟩
end
end SW

namespace SW
open PySem PySem.Spec PyProof.Rows L2
abbrev TM8 (K : PySem.W.Frag) (J J' : Hp) : Prop := ∀ b xs, SqT K J b xs → SqT K J' b xs
theorem Op.m {K : PySem.W.Frag} {J J' : Hp} (m : TM8 K J J') {v : V} (o : Op K J v) : Op K J' v := by
  obtain ⟨d0, h1, h2⟩ := o
  exact ⟨d0, dp_tups m d0 v h2 h1, h2⟩
theorem TupV.m {K : PySem.W.Frag} {J J' : Hp} (m : TM8 K J J') {v : V} (h : TupV K J v) : TupV K J' v := by
  obtain ⟨t, xs, e, h⟩ := h
  exact ⟨t, xs, e, m _ _ h⟩
theorem Od.m {K : PySem.W.Frag} {J J' : Hp} (m : TM8 K J J') {v : V} {d : PyData} (o : Od K J v d) : Od K J' v d := ⟨dp_tups m d v o.nl o.dp, o.nl⟩
theorem PqAt.m {K : PySem.W.Frag} {J J' : Hp} (m : TM8 K J J') {v : V} {c : Pc} (hb : ∀ s, s ∈ c.body → okD 5 s) (h : PqAt K J v c) : PqAt K J' v c := by
  obtain ⟨t, v2, v3, v4, v5, v6, v7, v8, e, h1, h2, h3, h4, h5, h7, h8⟩ := h.ex
  exact ⟨t, v2, v3, v4, v5, v6, v7, v8, e, m _ _ h1, dp_tups m _ _ (psE_nl _) h2, h3.m m, h4.m m, dp_tups m _ _ (strs_noL _) h5, dp_tups m _ _ (ltE_noL _) h7, dp_tups m _ _ (noL_blk hb) h8⟩
theorem PqsAt.m {K : PySem.W.Frag} {J J' : Hp} (m : TM8 K J J') {xs : List V} {cs : List Pc} (hb : ∀ c, c ∈ cs → ∀ s, s ∈ c.body → okD 5 s) (h : PqsAt K J xs cs) : PqsAt K J' xs cs :=
  ⟨h.len, fun i v c h1 h2 => (h.at_ i v c h1 h2).m m (hb c (List.mem_of_getElem? h2))⟩
/-- all as it was, but four places -/
def B4 (h : Addr) (a : Ca) (J J' : Hp) : Prop := ∀ b o, b ≠ h → b ≠ a.R → b ≠ a.c → b ≠ a.Kd → J b = some o → J' b = some o
theorem B4.refl (h : Addr) (a : Ca) (J : Hp) : B4 h a J J := fun _ _ _ _ _ _ e => e
theorem B4.trans {h : Addr} {a : Ca} {J G F : Hp} (x : B4 h a J G) (y : B4 h a G F) : B4 h a J F := fun c o h1 h2 h3 h4 e => y c o h1 h2 h3 h4 (x c o h1 h2 h3 h4 e)
theorem B4.same {h : Addr} {a : Ca} {J G : Hp} (x : Same J G) : B4 h a J G := fun c o _ _ _ _ e => x c o e
theorem B4.but {h : Addr} {a : Ca} {J G : Hp} (x : But h J G) : B4 h a J G := fun c o h1 _ _ _ e => x c o h1 e
theorem B4.b2 {h : Addr} {a : Ca} {J G : Hp} (x : B2 h a.R J G) : B4 h a J G := fun c o h1 h2 _ _ e => x c o h1 h2 e
theorem B4.updC {h : Addr} {a : Ca} {J G : Hp} {o : HO} (e : upd J a.c o = G) : B4 h a J G := fun c u _ _ h3 _ q => by
  rw [← e, upd_ne h3]
  exact q
theorem B4.updK {h : Addr} {a : Ca} {J G : Hp} {o : HO} (e : upd J a.Kd o = G) : B4 h a J G := fun c u _ _ _ h4 q => by
  rw [← e, upd_ne h4]
  exact q
section
variable {K : PySem.W.Frag} {H J G : Hp} {h d : Addr} {ds : List Int} {a : Ca} {x : Cd} {r r' : Int}
theorem St8.m4 (q : St8 K J h d ds a x r) (s : B4 h a J G) : TM8 K J G := fun b xs hs => by
  obtain ⟨⟨⟨i, e1⟩, _, _⟩, c, _, _, ⟨ks, ek, _⟩, _, _, er, _⟩ := q
  rcases hs with (hs | ⟨o, hs⟩) | hs
  · exact .inl (.inl (s _ _ (fun e => by rw [e, e1] at hs; cases hs) (fun e => by rw [e, er] at hs; cases hs) (fun e => by rw [e, c] at hs; cases hs) (fun e => by rw [e, ek] at hs; cases hs) hs))
  · exact .inl (.inr ⟨o, s _ _ (fun e => by rw [e, e1] at hs; cases hs) (fun e => by rw [e, er] at hs; cases hs) (fun e => by rw [e, c] at hs; cases hs) (fun e => by rw [e, ek] at hs; cases hs) hs⟩)
  · exact .inr hs
theorem but_m {ys : List V} {F : Addr} (hF : J F = some (.lst ys)) (s : But F J G) : TM8 K J G := fun b xs hs => Op_sqt hF s hs
theorem same_m (s : Same J G) : TM8 K J G := fun b xs hs => sqt_same s hs
/-- the context's own list changes -/
theorem St8.setC (q : St8 K J h d ds a x r) {N2 : Addr} {ns2 : List PySem.Str} {b2 : Bool} (eN : J N2 = some (.lst (ns2.map V.str))) (zn : ns2.length ≤ 10) (e : upd J a.c (.lst [.ref a.L, .ref N2, .ref a.Kd, .ref a.Cn, .ref a.Mv, .ref a.R, .bl b2]) = G)
    (n1 : a.L ≠ a.c) (n2 : N2 ≠ a.c) (n3 : a.Kd ≠ a.c) (n4 : a.Cn ≠ a.c) (n5 : a.Mv ≠ a.c) (n6 : a.R ≠ a.c) (n7 : d ≠ a.c) : St8 K G h d ds { a with N := N2 } { x with ns := ns2, b := b2 } r := by
  subst e
  have hc : a.c ≠ h := q.cx.hand_ne q.hd a.c (by simp)
  have md := but_m (K := K) q.cx.c (G := upd J a.c (.lst [.ref a.L, .ref N2, .ref a.Kd, .ref a.Cn, .ref a.Mv, .ref a.R, .bl b2])) (fun b o hb e => (upd_ne hb).trans e)
  obtain ⟨hd, c, l, n, ⟨xs, k1, k2⟩, cn, m, r, zl, _, zk, zm⟩ := q
  exact ⟨hd.upd hc n7.symm, upd_same, (upd_ne n1).trans l, (upd_ne n2).trans eN, ⟨xs, (upd_ne n3).trans k1, dpa_tups md _ _ (kns_noL _) k2⟩, (upd_ne n4).trans cn, (upd_ne n5).trans m, (upd_ne n6).trans r, zl, zn, zk, zm⟩
/-- one more is known -/
theorem St8.addK (q : St8 K J h d ds a x r) {xs : List V} {k : Kn} {v : V} (ek : J a.Kd = some (.lst xs)) (dk : DpAll K J xs (x.kn.map Kn.enc)) (dv : Dp K J v k.enc) (zk : x.kn.length + 1 ≤ 10) (e : upd J a.Kd (.lst (xs ++ [v])) = G)
    (n1 : a.L ≠ a.Kd) (n2 : a.N ≠ a.Kd) (n3 : a.c ≠ a.Kd) (n4 : a.Cn ≠ a.Kd) (n5 : a.Mv ≠ a.Kd) (n6 : a.R ≠ a.Kd) (n7 : d ≠ a.Kd) : St8 K G h d ds a { x with kn := x.kn ++ [k] } r := by
  subst e
  have hc : a.Kd ≠ h := q.cx.hand_ne q.hd a.Kd (by simp)
  have md := but_m (K := K) ek (G := upd J a.Kd (.lst (xs ++ [v]))) (fun b o hb e => (upd_ne hb).trans e)
  obtain ⟨hd, c, l, n, _, cn, m, r, zl, zn, _, zm⟩ := q
  refine ⟨hd.upd hc n7.symm, (upd_ne n3).trans c, (upd_ne n1).trans l, (upd_ne n2).trans n, ⟨_, upd_same, ?_⟩, (upd_ne n4).trans cn, (upd_ne n5).trans m, (upd_ne n6).trans r, zl, zn, by rw [List.length_append]; exact zk, zm⟩
  rw [List.map_append]
  exact dpa_snoc (dpa_tups md _ _ (kns_noL _) dk) (dp_tups md _ _ k.noL dv)
end
theorem cut_take (ws : List PySem.Str) {r : Int} (h : 0 ≤ r) : cutV (ws.map V.str) none (some r) = (ws.take r.toNat).map V.str := by
  unfold cutV
  rw [HT.sIx_none, List.drop_zero, Nat.sub_zero]
  have e : HT.sIx (ws.map V.str).length (ws.map V.str).length (some r) = min r.toNat ws.length := by
    show (if r < 0 then (r + ((ws.map V.str).length : Int)).toNat else min r.toNat (ws.map V.str).length) = _
    rw [if_neg (by omega), List.length_map]
  rw [e, List.map_take]
  rw [List.take_eq_take_iff, List.length_map]
  omega
theorem cut_3 (ws : List PySem.Str) {r : Int} (h : 0 ≤ r) (hl : 3 ≤ ws.length) : cutV (ws.map V.str) (some 3) (some (3 + r)) = ((ws.drop 3).take r.toNat).map V.str := by
  unfold cutV
  have e : HT.sIx (ws.map V.str).length (ws.map V.str).length (some (3 + r)) = min (3 + r).toNat ws.length := by
    show (if 3 + r < 0 then (3 + r + ((ws.map V.str).length : Int)).toNat else min (3 + r).toNat (ws.map V.str).length) = _
    rw [if_neg (by omega), List.length_map]
  have e3 : HT.sIx (ws.map V.str).length 0 (some 3) = 3 := by
    show (if (3 : Int) < 0 then ((3 : Int) + ((ws.map V.str).length : Int)).toNat else min (3 : Int).toNat (ws.map V.str).length) = 3
    rw [if_neg (by decide), List.length_map]
    show min 3 _ = 3
    omega
  rw [e, e3, List.map_take, List.map_drop]
  rw [List.take_eq_take_iff, List.length_drop, List.length_map]
  omega
end SW

namespace SW
open PySem PySem.Spec PyProof.Rows L2
def lnm (ps : List (PySem.Str × Bool)) : List PySem.Str := (ps.filter fun x => x.2).map Prod.fst
def numN (ps : List (PySem.Str × Bool)) : List PySem.Str := (ps.filter fun x => !x.2).map Prod.fst
def Pc.kn (c : Pc) : Kn := ⟨c.nm, c.ps, c.mv⟩
/-- how a body ends -/
def EndOk (s : Sf (BD 4)) : Prop := (∃ r d, s = .oth "return" r [d]) ∨ ∃ (r : Int) (c : PyData) (r1 r2 r3 : Int) (d1 d2 : PyData), s = .iff r c [(show BD 4 from (Sf.oth "return" r1 [d1] : Sf (BD 3)))] [(show BD 4 from (Sf.oth "skip" r2 [] : Sf (BD 3))), (show BD 4 from (Sf.oth "return" r3 [d2] : Sf (BD 3)))]
/-- a procedure as it is written, of those that are known -/
structure PcTy (kn : List Kn) (c : Pc) : Prop where
  ex : ∃ (c5 c6 : PySem.Str) (t1 t2 : Tm) (r1 r2 : Int), c.lt = [(r1, c5, t1), (r2, c6, t2)] ∧ t1.ok (numN c.ps) (lnm c.ps) ∧ t2.ok (c5 :: numN c.ps) (lnm c.ps) ∧ ∀ a, a ∈ flatB 5 c.body → TyS (c5 :: c6 :: numN c.ps) (lnm c.ps) c.mv kn a.s
  en : ∃ (b : List (BD 5)) (s : Sf (BD 4)), c.body = b ++ [(show BD 5 from s)] ∧ EndOk s
theorem Pl.mono {nn nn' ln ln' : List PySem.Str} {t : Pl} (h : t.ok nn ln) (h1 : ∀ z, z ∈ nn → z ∈ nn') (h2 : ∀ z, z ∈ ln → z ∈ ln') : t.ok nn' ln' := by
  cases t with
  | num n => trivial
  | var z p => exact h1 _ h
  | len z p => exact h2 _ h
theorem Tm.mono {nn nn' ln ln' : List PySem.Str} {t : Tm} (h : t.ok nn ln) (h1 : ∀ z, z ∈ nn → z ∈ nn') (h2 : ∀ z, z ∈ ln → z ∈ ln') : t.ok nn' ln' := by
  cases t with
  | pl t => exact Pl.mono (t := t) h h1 h2
  | cell x i p => exact ⟨h2 _ h.1, Pl.mono h.2 h1 h2⟩
theorem okC_mono {nn nn' ln ln' : List PySem.Str} (h1 : ∀ z, z ∈ nn → z ∈ nn') (h2 : ∀ z, z ∈ ln → z ∈ ln') : ∀ (n : Nat) (c : CoD n), okC nn ln n c → okC nn' ln' n c
  | 0, c, _ => nomatch c
  | n + 1, .inl m, h => ⟨Tm.mono (show m.ok nn ln from h).1 h1 h2, Tm.mono (show m.ok nn ln from h).2 h1 h2⟩
  | n + 1, .inr (.inl c), h => okC_mono h1 h2 n c h
  | n + 1, .inr (.inr (_, l)), h => fun c hc => okC_mono h1 h2 n c ((show ∀ c, c ∈ l → okC nn ln n c from h) c hc)
theorem TyS.mono {nn nn' ln ln' mv : List PySem.Str} {kn kn' : List Kn} {B : Type} {s : Sf B} (h : TyS nn ln mv kn s) (h1 : ∀ z, z ∈ nn → z ∈ nn') (h2 : ∀ z, z ∈ ln → z ∈ ln') (h3 : ∀ k, k ∈ kn → k ∈ kn') : TyS nn' ln' mv kn' s := by
  cases s with
  | lst k r z ds =>
    obtain ⟨hz, h⟩ := h
    refine ⟨h2 _ hz, ?_⟩
    rcases h with ⟨e, i, j, e2, hi, hj⟩ | ⟨e, hm, i, t, e2, hi, ht⟩
    · exact .inl ⟨e, i, j, e2, (Pl.mono hi h1 h2), (Pl.mono hj h1 h2)⟩
    · exact .inr ⟨e, hm, i, t, e2, (Pl.mono hi h1 h2), (Tm.mono ht h1 h2)⟩
  | cal r y f as =>
    obtain ⟨hy, hn, k, hk, e1, e2, h⟩ := h
    refine ⟨h1 _ hy, hn, k, h3 _ hk, e1, e2, fun j p a hp ha => ?_⟩
    obtain ⟨q1, q2⟩ := h j p a hp ha
    refine ⟨fun e => ?_, fun e => ?_⟩
    · obtain ⟨z, e3, e4, e5⟩ := q1 e
      exact ⟨z, e3, h2 _ e4, e5⟩
    · obtain ⟨t, g, ds, e3, e4, e5⟩ := q2 e
      exact ⟨t, g, ds, e3, e4, (Pl.mono e5 h1 h2)⟩
  | oth k r ds =>
    rcases h with ⟨e, y, t, e2, hy, ht⟩ | ⟨e, y, lo, hi, e2, hy, hl, hh⟩ | ⟨e, c, e2, hc⟩ | h | ⟨e, t, e2, ht⟩
    · exact .inl ⟨e, y, t, e2, h1 _ hy, (Tm.mono ht h1 h2)⟩
    · exact .inr (.inl ⟨e, y, lo, hi, e2, h1 _ hy, (Pl.mono hl h1 h2), (Pl.mono hh h1 h2)⟩)
    · exact .inr (.inr (.inl ⟨e, c, e2, okC_mono h1 h2 4 c hc⟩))
    · exact .inr (.inr (.inr (.inl h)))
    · exact .inr (.inr (.inr (.inr ⟨e, t, e2, (Tm.mono ht h1 h2)⟩)))
  | iff r c a b =>
    obtain ⟨co, e, hc⟩ := h
    exact ⟨co, e, okC_mono h1 h2 4 co hc⟩
  | whl r c ks f b =>
    obtain ⟨⟨co, e, hc⟩, p, q, e2, hp, hq⟩ := h
    exact ⟨⟨co, e, okC_mono h1 h2 4 co hc⟩, p, q, e2, (Pl.mono hp h1 h2), (Pl.mono hq h1 h2)⟩
theorem PcTy.mono {kn kn' : List Kn} {c : Pc} (h : PcTy kn c) (h3 : ∀ k, k ∈ kn → k ∈ kn') : PcTy kn' c := by
  obtain ⟨⟨c5, c6, t1, t2, r1, r2, e, k1, k2, k3⟩, en⟩ := h
  exact ⟨⟨c5, c6, t1, t2, r1, r2, e, k1, k2, fun a ha => TyS.mono (k3 a ha) (fun _ h => h) (fun _ h => h) h3⟩, en⟩
/-- the procedures so far -/
structure GsOk (ns : List PySem.Str) (cs : List Pc) (kn : List Kn) (i : Nat) : Prop where
  len : cs.length = i
  ok : ∀ c, c ∈ cs → c.ok
  nm : ∀ (j : Nat) (c : Pc), cs[j]? = some c → ns[15 - j]? = some c.nm
  pn : ∀ c, c ∈ cs → (c.ps.map Prod.fst).Nodup
  ty : ∀ c, c ∈ cs → PcTy kn c
  ll : ∀ c, c ∈ cs → c.ps.length ≤ 10
  kk : kn = cs.map Pc.kn
structure GS (K : PySem.W.Frag) (H : Hp) (h d : Addr) (ds : List Int) (Ap Ak Ar : Addr) (J : Hp) (cs : List Pc) (kn : List Kn) (r : Int) : Prop where
  b : But h H J
  hd : Hand J h d ds
  p : ∃ ps, J Ap = some (.lst ps) ∧ PqsAt K J ps cs
  k : ∃ ks, J Ak = some (.lst ks) ∧ DpAll K J ks (kn.map Kn.enc)
  r : J Ar = some (.lst [.int r])
section
variable {K : PySem.W.Frag} {H J G : Hp} {h d : Addr} {ds : List Int} {Ap Ak Ar : Addr} {cs : List Pc} {kn : List Kn} {r r' : Int}
theorem GS.same (z : GS K H h d ds Ap Ak Ar J cs kn r) (s : Same J G) : GS K H h d ds Ap Ak Ar G cs kn r := by
  obtain ⟨b, hd, ⟨ps, p1, p2⟩, ⟨ks, k1, k2⟩, r⟩ := z
  exact ⟨b.trans (Same.but s), hd.same s, ⟨ps, s _ _ p1, p2.same s⟩, ⟨ks, s _ _ k1, dpa_same s _ _ k2⟩, s _ _ r⟩
theorem GS.but (z : GS K H h d ds Ap Ak Ar J cs kn r) (hok : ∀ c, c ∈ cs → c.ok) (s : But h J G) (hd' : Hand G h d ds) (np : Ap ≠ h) (nk : Ak ≠ h) (nr : Ar ≠ h) : GS K H h d ds Ap Ak Ar G cs kn r := by
  obtain ⟨b, hd, ⟨ps, p1, p2⟩, ⟨ks, k1, k2⟩, r⟩ := z
  have m : TM8 K J G := by
    obtain ⟨⟨i, e⟩, _, _⟩ := hd
    exact but_m e s
  exact ⟨b.trans s, hd', ⟨ps, s _ _ np p1, p2.m m fun c hc => (hok c hc).body⟩, ⟨ks, s _ _ nk k1, dpa_tups m _ _ (kns_noL _) k2⟩, s _ _ nr r⟩
theorem GS.m4 (z : GS K H h d ds Ap Ak Ar J cs kn r) (hok : ∀ c, c ∈ cs → c.ok) {a : Ca} (s : B4 h a J G) (m : TM8 K J G) (hR : a.R = Ar) (hd' : Hand G h d ds) (er : G Ar = some (.lst [.int r'])) (nR : H Ar = none) (nC : H a.c = none) (nK : H a.Kd = none)
    (p1 : Ap ≠ h) (p2 : Ap ≠ Ar) (p3 : Ap ≠ a.c) (p4 : Ap ≠ a.Kd) (k1 : Ak ≠ h) (k2 : Ak ≠ Ar) (k3 : Ak ≠ a.c) (k4 : Ak ≠ a.Kd) : GS K H h d ds Ap Ak Ar G cs kn r' := by
  subst hR
  obtain ⟨b, hd, ⟨ps, e1, e2⟩, ⟨ks, e3, e4⟩, r⟩ := z
  exact ⟨fun c o hc e => s _ _ hc (ne_of_none e nR) (ne_of_none e nC) (ne_of_none e nK) (b _ _ hc e), hd', ⟨ps, s _ _ p1 p2 p3 p4 e1, e2.m m fun c hc => (hok c hc).body⟩, ⟨ks, s _ _ k1 k2 k3 k4 e3, dpa_tups m _ _ (kns_noL _) e4⟩, er⟩
end
def encP (x : PySem.Str × Bool) : PyData := .tuple [.str x.1, .bool x.2]
theorem psE_eq (ps : List (PySem.Str × Bool)) : psE ps = .tuple (ps.map encP) := rfl
theorem encP_noL (ps : List (PySem.Str × Bool)) : noLs (ps.map encP) = true := noLs_mapof fun a _ => rfl
/-- the parameters -/
def par0 (ls ms : List PySem.Str) : List (PySem.Str × Bool) := (ls.map fun z => (z, true)) ++ ms.map fun z => (z, false)
structure ParOk (ls ms : List PySem.Str) (ps : List (PySem.Str × Bool)) : Prop where
  nd : (ps.map Prod.fst).Nodup
  ll : (lnm ps).length = ls.length
  mem : ∀ z, z ∈ lnm ps ↔ z ∈ ls
  num : ∀ z, z ∈ numN ps ↔ z ∈ ms
  len : ps.length = ls.length + ms.length
theorem par0_ok {ls ms : List PySem.Str} (h : (ls ++ ms).Nodup) : ParOk ls ms (par0 ls ms) := by
  have e1 : ∀ l : List PySem.Str, (l.map fun z => (z, true)).filter (fun x => x.2) = l.map fun z => (z, true) := fun l => List.filter_eq_self.mpr fun a ha => by
    obtain ⟨z, _, rfl⟩ := List.mem_map.mp ha
    rfl
  have e2 : ∀ l : List PySem.Str, (l.map fun z => (z, false)).filter (fun x => x.2) = [] := fun l => List.filter_eq_nil_iff.mpr fun a ha => by
    obtain ⟨z, _, rfl⟩ := List.mem_map.mp ha
    exact Bool.false_ne_true
  have e3 : ∀ l : List PySem.Str, (l.map fun z => (z, false)).filter (fun x => !x.2) = l.map fun z => (z, false) := fun l => List.filter_eq_self.mpr fun a ha => by
    obtain ⟨z, _, rfl⟩ := List.mem_map.mp ha
    rfl
  have e4 : ∀ l : List PySem.Str, (l.map fun z => (z, true)).filter (fun x => !x.2) = [] := fun l => List.filter_eq_nil_iff.mpr fun a ha => by
    obtain ⟨z, _, rfl⟩ := List.mem_map.mp ha
    exact Bool.false_ne_true
  have l1 : lnm (par0 ls ms) = ls := by
    unfold lnm par0
    rw [List.filter_append, e1, e2, List.append_nil, List.map_map]
    exact List.map_id _
  have l2 : numN (par0 ls ms) = ms := by
    unfold numN par0
    rw [List.filter_append, e3, e4, List.nil_append, List.map_map]
    exact List.map_id _
  refine ⟨?_, by rw [l1], fun z => by rw [l1], fun z => by rw [l2], ?_⟩
  · unfold par0
    rw [List.map_append, List.map_map, List.map_map]
    have e1 : (Prod.fst ∘ fun z : PySem.Str => (z, true)) = id := rfl
    have e2 : (Prod.fst ∘ fun z : PySem.Str => (z, false)) = id := rfl
    rw [e1, e2, List.map_id, List.map_id]
    exact h
  · unfold par0
    rw [List.length_append, List.length_map, List.length_map]
theorem ParOk.rev {ls ms : List PySem.Str} {ps : List (PySem.Str × Bool)} (k : ParOk ls ms ps) : ParOk ls ms ps.reverse := by
  refine ⟨?_, ?_, fun z => ?_, fun z => ?_, by rw [List.length_reverse]; exact k.len⟩
  · rw [List.map_reverse]
    exact List.pairwise_reverse.mpr (k.nd.imp fun h e => h e.symm)
  · have := k.ll
    unfold lnm at this ⊢
    rw [List.filter_reverse, List.map_reverse, List.length_reverse]
    exact this
  · have := k.mem z
    unfold lnm at this ⊢
    rw [List.filter_reverse, List.map_reverse, List.mem_reverse]
    exact this
  · have := k.num z
    unfold numN at this ⊢
    rw [List.filter_reverse, List.map_reverse, List.mem_reverse]
    exact this
theorem split_nd {ns : List PySem.Str} (h : ns.Nodup) (p q : Nat) (hp : p ≤ 3) : (ns.take p ++ (ns.drop 3).take q).Nodup := by
  have h1 : (ns.take 3 ++ ns.drop 3).Nodup := by
    rw [List.take_append_drop]
    exact h
  obtain ⟨a1, a2, a3⟩ := List.nodup_append.mp h1
  refine List.nodup_append.mpr ⟨?_, ?_, fun x hx y hy => a3 x ?_ y (List.mem_of_mem_take hy)⟩
  · exact (List.take_sublist p ns).nodup h
  · exact (List.take_sublist q _).nodup a2
  · have e : ns.take p = (ns.take 3).take p := by
      rw [List.take_take, Nat.min_eq_left hp]
    rw [e] at hx
    exact List.mem_of_mem_take hx
/-- one more procedure -/
theorem GsOk.next {ns : List PySem.Str} {cs : List Pc} {kn : List Kn} {i : Nat} (z : GsOk ns cs kn i) {c : Pc} (hi : i < 3) (ok : c.ok) (nm : ns[15 - i]? = some c.nm) (pn : (c.ps.map Prod.fst).Nodup) (pl : c.ps.length ≤ 10) (ty : PcTy (kn ++ [c.kn]) c) : GsOk ns (cs ++ [c]) (kn ++ [c.kn]) (i + 1) := by
  refine ⟨by rw [List.length_append, z.len]; rfl, fun d hd => ?_, fun j d hd => ?_, fun d hd => ?_, fun d hd => ?_, fun d hd => ?_, by rw [z.kk, List.map_append]; rfl⟩
  · rcases List.mem_append.mp hd with hd | hd
    · exact z.ok d hd
    · rw [List.mem_singleton.mp hd]
      exact ok
  · by_cases hj : j < cs.length
    · rw [List.getElem?_append_left hj] at hd
      exact z.nm j d hd
    · have hj2 : j = cs.length := by
        have := (List.getElem?_eq_some_iff.mp hd).1
        rw [List.length_append] at this
        have : j < cs.length + 1 := this
        omega
      rw [hj2, List.getElem?_append_right (Nat.le_refl _), Nat.sub_self] at hd
      cases hd
      rw [hj2, z.len]
      exact nm
  · rcases List.mem_append.mp hd with hd | hd
    · exact z.pn d hd
    · rw [List.mem_singleton.mp hd]
      exact pn
  · rcases List.mem_append.mp hd with hd | hd
    · exact (z.ty d hd).mono fun k hk => List.mem_append_left _ hk
    · rw [List.mem_singleton.mp hd]
      exact ty
  · rcases List.mem_append.mp hd with hd | hd
    · exact z.ll d hd
    · rw [List.mem_singleton.mp hd]
      exact pl
theorem GsOk.nd {ns : List PySem.Str} {cs : List Pc} {kn : List Kn} {i : Nat} (z : GsOk ns cs kn i) (h : ns.Nodup) (hl : ns.length = 16) (hi : i ≤ 3) : (cs.map fun c => c.nm).Nodup := by
  refine List.pairwise_iff_getElem.mpr fun p q hp hq hpq e => ?_
  rw [List.getElem_map, List.getElem_map] at e
  rw [List.length_map] at hp hq
  have h1 := z.nm p _ (List.getElem?_eq_getElem hp)
  have h2 := z.nm q _ (List.getElem?_eq_getElem hq)
  have hcl := z.len
  rw [e] at h1
  obtain ⟨i1, i2⟩ := List.getElem?_eq_some_iff.mp h1
  obtain ⟨j1, j2⟩ := List.getElem?_eq_some_iff.mp h2
  exact List.pairwise_iff_getElem.mp h (15 - q) (15 - p) j1 i1 (by omega) (j2.trans i2.symm)
end SW

set_option maxHeartbeats 8000000
namespace SW
open PySem PySem.Spec PyProof.Rows L2
abbrev s_l_gen : Stmt := topS 47
theorem sc_l_gen : FnScope ["hand", "n", "moved", "procs", "known", "rows", "k", "lists", "numbers", "parameters", "name", "moves", "ctx", "falls", "lets", "false", "needs", "gives", "body", "last"] ["hand", "n", "moved"] (defScope s_l_gen) := ⟨rfl, rfl, rfl, by decide +kernel, rfl, by decide +kernel, by decide +kernel⟩

section
variable {P : Program} {w : World} {K : PySem.W.Frag} {mg : PySem.Str → Option Value} {base : Heap}
def spGen (K : PySem.W.Frag) : Sp := fun vs H Q _ => ∃ (h d N : Addr) (ds : List Int) (ns : List PySem.Str) (mv : Int), vs = [.ref h, .ref N, .int mv] ∧ Hand H h d ds ∧ H N = some (.lst (ns.map V.str)) ∧ ns.length = 16 ∧ ns.Nodup ∧ 0 ≤ mv ∧ ∀ (Ap : Addr) (ps : List V) (cs : List Pc) (kn : List Kn) (i : Nat) (H' : Hp), But h H H' → Hand H' h d ds → H' Ap = some (.lst ps) → PqsAt K H' ps cs → i ≤ 3 → GsOk ns cs kn i → Q (.ref Ap) H'
theorem getD_lt {ns : List PySem.Str} {j : Nat} (h : j < ns.length) : ns[j]? = some (ns.getD j "") := by
  rw [List.getD_eq_getElem?_getD, List.getElem?_eq_getElem h]
  rfl
theorem at_nm {ns : List PySem.Str} {j : Nat} (h : j < ns.length) : (ns.map V.str)[j]? = some (.str (ns.getD j "")) := by
  rw [List.getElem?_map, getD_lt h]
  rfl
theorem ok_l_gen (T : TxB mg) (D_l_gen : Df K mg "_law_gen" s_l_gen ["hand", "n", "moved"]) (D_l_gen_block : Df K mg "_law_gen_block" s_l_gen_block ["hand", "ctx", "depth", "whiles", "many", "budget"]) (D_l_gen_simple : Df K mg "_law_gen_simple" s_l_gen_simple ["hand", "ctx"]) (D_l_gen_call : Df K mg "_law_gen_call" s_l_gen_call ["hand", "ctx"]) (D_l_gen_condition : Df K mg "_law_gen_condition" s_l_gen_condition ["hand", "ctx"]) (D_l_gen_cmp : Df K mg "_law_gen_cmp" s_l_gen_cmp ["hand", "ctx"]) (D_l_gen_term : Df K mg "_law_gen_term" s_l_gen_term ["hand", "ctx"]) (D_l_gen_index : Df K mg "_law_gen_index" s_l_gen_index ["hand", "ctx", "name"]) (D_l_gen_plain : Df K mg "_law_gen_plain" s_l_gen_plain ["hand", "ctx"]) (D_l_take : Df K mg "_law_take" s_l_take ["hand", "many"]) : FnOk P w K mg base CX0 13 D_l_gen.f D_l_gen.fd ["hand", "n", "moved"] (spGen K) := by
  have G_l_take := ok_l_take (P := P) (w := w) (K := K) (base := base) T D_l_take
  have G_l_gen_plain := ok_l_plain (P := P) (w := w) (K := K) (base := base) T D_l_gen_plain D_l_take
  have G_l_gen_term := ok_l_term (P := P) (w := w) (K := K) (base := base) T D_l_gen_term D_l_gen_index D_l_gen_plain D_l_take
  have G_l_gen_cmp := ok_l_cmp (P := P) (w := w) (K := K) (base := base) T D_l_gen_cmp D_l_gen_term D_l_gen_index D_l_gen_plain D_l_take
  have G_l_gen_block := ok_l_block (P := P) (w := w) (K := K) (base := base) T D_l_gen_block D_l_gen_simple D_l_gen_call D_l_gen_condition D_l_gen_cmp D_l_gen_term D_l_gen_index D_l_gen_plain D_l_take 4
  refine D_l_gen.F.ok sc_l_gen (fun vs H Q E h => ?_) (fun cdv A outer s H vs Q E hr h => ?_)
  · obtain ⟨h, d, N, ds, ns, mv, rfl, _⟩ := h
    rfl
  · obtain ⟨h, d, N, ds, ns, mv, rfl, hd, hN, hn16, hnn, hmv, q⟩ := h
    refine ⟨_, (pss_cons (ps_set (i := 3) sc_l_gen.nd rfl (.inl rfl) (pe_lst pa_nil))
    (pss_cons (ps_set (i := 4) sc_l_gen.nd rfl (.inl rfl) (pe_lst pa_nil))
    (pss_cons (ps_set (i := 5) sc_l_gen.nd rfl (.inl rfl) (pe_lst (pa_cons (pe_op op_sub pe_int (pe_op op_mul pe_int (pe_callTy call_int1 (by rfl) T.n_int (by decide +kernel) (pa_cons (pe_cmpR op_gt (pv 2) pe_int (nomark _)) pa_nil)))) pa_nil)))
    (pss_cons (ps_for PassesOwn.never rfl (pi_range1 (by rfl) T.n_range (pa_cons (pe_op op_add pe_int (pe_call G_l_take (hr.mono (by decide)) (by rfl) D_l_take.g D_l_take.F.kp D_l_take.b .nil pass0 (pa_cons (pv 0) (pa_cons pe_int pa_nil)))) pa_nil)) (pg_name (i := 6) sc_l_gen.nd rfl (.inl rfl))
    (pss_cons (ps_set (i := 7) sc_l_gen.nd rfl (.inl rfl) (pe_slice sl_list (pv 1) po_none (po_some (pe_call G_l_take (hr.mono (by decide)) (by rfl) D_l_take.g D_l_take.F.kp D_l_take.b .nil pass0 (pa_cons (pv 0) (pa_cons pe_int pa_nil))))))
    (pss_cons (ps_set (i := 8) sc_l_gen.nd rfl (.inl rfl) (pe_slice sl_list (pv 1) (po_some pe_int) (po_some (pe_op op_add pe_int (pe_call G_l_take (hr.mono (by decide)) (by rfl) D_l_take.g D_l_take.F.kp D_l_take.b .nil pass0 (pa_cons (pv 0) (pa_cons pe_int pa_nil)))))))
    (pss_cons (ps_set (i := 9) sc_l_gen.nd rfl (.inl rfl) (pe_op op_cat (pe_lc (own := [("name", 10)]) (g := gName 10) (by rfl) sc_l_gen.nd (pi_list (pv 7)) (blkOk_by (own := [("name", 10)]) (N := ["hand", "n", "moved", "procs", "known", "rows", "k", "lists", "numbers", "parameters", "name", "moves", "ctx", "falls", "lets", "false", "needs", "gives", "body", "last"]) (sc := defScope s_l_gen) (by decide +kernel)) (fun _ _ _ _ _ => pg_name (i := 10) sc_l_gen.nd rfl (Or.inl rfl)) (fun _ _ _ _ _ => pts_nil) (fun _ _ _ _ _ => (pe_tup (pa_cons (pv 10) (pa_cons pe_bl pa_nil))))) (pe_lc (own := [("name", 10)]) (g := gName 10) (by rfl) sc_l_gen.nd (pi_list (pv 8)) (blkOk_by (own := [("name", 10)]) (N := ["hand", "n", "moved", "procs", "known", "rows", "k", "lists", "numbers", "parameters", "name", "moves", "ctx", "falls", "lets", "false", "needs", "gives", "body", "last"]) (sc := defScope s_l_gen) (by decide +kernel)) (fun _ _ _ _ _ => pg_name (i := 10) sc_l_gen.nd rfl (Or.inl rfl)) (fun _ _ _ _ _ => pts_nil) (fun _ _ _ _ _ => (pe_tup (pa_cons (pv 10) (pa_cons pe_bl pa_nil)))))))
    (Evl.pss_cut (ps_if (pt_cmpR op_eq (pe_call G_l_take (hr.mono (by decide)) (by rfl) D_l_take.g D_l_take.F.kp D_l_take.b .nil pass0 (pa_cons (pv 0) (pa_cons pe_int pa_nil))) pe_int (nomark _))
    (pss_one (ps_set (i := 9) sc_l_gen.nd rfl (.inl rfl) (pe_rev (pv 9) (po_some (pe_un un_neg pe_int)))))
    pss_nil)
    (pss_cons (ps_set (i := 11) sc_l_gen.nd rfl (.inl rfl) (pe_callTy call_tuple_of (by rfl) T.n_tuple (by decide +kernel) (pa_cons (pe_slice sl_list (pv 7) po_none (po_some (pv 2))) pa_nil)))
    (pss_cons (ps_set (i := 12) sc_l_gen.nd rfl (.inl rfl) (pe_lst (pa_cons (pv 7) (pa_cons (pv 8) (pa_cons (pe_callTy call_list_of (by rfl) T.n_list (by decide +kernel) (pa_cons (pv 4) pa_nil)) (pa_cons (pe_lst (pa_cons (pe_ix ix_list (pv 1) pe_int (fun _ _ => rfl)) (pa_cons (pe_ix ix_list (pv 1) pe_int (fun _ _ => rfl)) pa_nil))) (pa_cons (pe_slice sl_list (pv 7) po_none (po_some (pv 2))) (pa_cons (pv 5) (pa_cons pe_bl pa_nil)))))))))
    (pss_cons (ps_set (i := 13) sc_l_gen.nd rfl (.inl rfl) pe_non)
    (Evl.pss_cut (ps_if (pt_cmpR op_eq (pe_call G_l_take (hr.mono (by decide)) (by rfl) D_l_take.g D_l_take.F.kp D_l_take.b .nil pass0 (pa_cons (pv 0) (pa_cons pe_int pa_nil))) pe_int (nomark _))
    (pss_cons (ps_set (i := 13) sc_l_gen.nd rfl (.inl rfl) (pe_tup (pa_cons (pe_call G_l_gen_plain (hr.mono (by decide)) (by rfl) D_l_gen_plain.g D_l_gen_plain.F.kp D_l_gen_plain.b .nil pass0 (pa_cons (pv 0) (pa_cons (pv 12) pa_nil))) (pa_cons (pe_call G_l_gen_plain (hr.mono (by decide)) (by rfl) D_l_gen_plain.g D_l_gen_plain.F.kp D_l_gen_plain.b .nil pass0 (pa_cons (pv 0) (pa_cons (pv 12) pa_nil))) pa_nil))))
    (pss_one (ps_expr (pe_bm PySem.F.plainAttrs_list PySem.F.slot_list_append PySem.F.type_list_append mt_append (pe_ix ix_list (pv 12) pe_int (fun _ _ => rfl)) (pa_cons (pe_tup (pa_cons (pe_ix ix_list (pv 1) (pe_op op_sub pe_int (pv 6)) (fun _ _ => rfl)) (pa_cons (pe_callTy call_tuple_of (by rfl) T.n_tuple (by decide +kernel) (pa_cons (pv 9) pa_nil)) (pa_cons (pv 11) pa_nil)))) pa_nil)))))
    pss_nil)
    (pss_cons (ps_set (i := 14) sc_l_gen.nd rfl (.inl rfl) (pe_tup (pa_cons (pe_tup (pa_cons pe_int (pa_cons (pe_ix ix_list (pv 1) pe_int (fun _ _ => rfl)) (pa_cons (pe_call G_l_gen_term (hr.mono (by decide)) (by rfl) D_l_gen_term.g D_l_gen_term.F.kp D_l_gen_term.b .nil pass0 (pa_cons (pv 0) (pa_cons (pv 12) pa_nil))) pa_nil)))) pa_nil)))
    (pss_cons (ps_asg (pe_op op_cat (pv 8) (pe_lst (pa_cons (pe_ix ix_list (pv 1) pe_int (fun _ _ => rfl)) (pa_cons (pe_ix ix_list (pv 1) pe_int (fun _ _ => rfl)) pa_nil)))) (pg_sub (pv 12) pe_int set_list))
    (pss_cons (ps_set (i := 14) sc_l_gen.nd rfl (.inl rfl) (pe_op op_catB (pv 14) (pe_tup (pa_cons (pe_tup (pa_cons pe_int (pa_cons (pe_ix ix_list (pv 1) pe_int (fun _ _ => rfl)) (pa_cons (pe_ix ix_list (pe_lst (pa_cons (pe_call G_l_gen_term (hr.mono (by decide)) (by rfl) D_l_gen_term.g D_l_gen_term.F.kp D_l_gen_term.b .nil pass0 (pa_cons (pv 0) (pa_cons (pv 12) pa_nil))) (pa_cons (pe_tup (pa_cons pe_str (pa_cons (pe_ix ix_list (pv 1) pe_int (fun _ _ => rfl)) (pa_cons pe_int pa_nil)))) pa_nil))) (pe_op op_fdiv (pe_call G_l_take (hr.mono (by decide)) (by rfl) D_l_take.g D_l_take.F.kp D_l_take.b .nil pass0 (pa_cons (pv 0) (pa_cons pe_int pa_nil))) pe_int) (fun _ _ => rfl)) pa_nil)))) pa_nil))))
    (pss_cons (ps_asg (pe_op op_cat (pv 8) (pe_lst (pa_cons (pe_ix ix_list (pv 1) pe_int (fun _ _ => rfl)) (pa_cons (pe_ix ix_list (pv 1) pe_int (fun _ _ => rfl)) pa_nil)))) (pg_sub (pv 12) pe_int set_list))
    (pss_cons (ps_asg pe_bl (pg_sub (pv 12) pe_int set_list))
    (pss_cons (ps_set (i := 15) sc_l_gen.nd rfl (.inl rfl) (pe_tup (pa_cons pe_str (pa_cons pe_str (pa_cons (pe_tup (pa_cons pe_str (pa_cons pe_int pa_nil))) (pa_cons (pe_tup (pa_cons pe_str (pa_cons pe_int pa_nil))) pa_nil))))))
    (pss_cons (ps_set (i := 16) sc_l_gen.nd rfl (.inl rfl) (pe_op op_rep01 (pe_tup (pa_cons (pv 15) pa_nil)) (pe_op op_fdiv (pe_call G_l_take (hr.mono (by decide)) (by rfl) D_l_take.g D_l_take.F.kp D_l_take.b .nil pass0 (pa_cons (pv 0) (pa_cons pe_int pa_nil))) pe_int)))
    (pss_cons (ps_set (i := 17) sc_l_gen.nd rfl (.inl rfl) (pe_op op_rep01 (pe_tup (pa_cons (pv 15) pa_nil)) (pe_op op_fdiv (pe_call G_l_take (hr.mono (by decide)) (by rfl) D_l_take.g D_l_take.F.kp D_l_take.b .nil pass0 (pa_cons (pv 0) (pa_cons pe_int pa_nil))) pe_int)))
    (pss_cons (ps_set (i := 18) sc_l_gen.nd rfl (.inl rfl) (pe_ix ix_list (pe_call G_l_gen_block (hr.mono (by decide)) (by rfl) D_l_gen_block.g D_l_gen_block.F.kp D_l_gen_block.b .nil pass0 (pa_cons (pv 0) (pa_cons (pv 12) (pa_cons pe_int (pa_cons pe_int (pa_cons (pe_op op_add pe_int (pe_call G_l_take (hr.mono (by decide)) (by rfl) D_l_take.g D_l_take.F.kp D_l_take.b .nil pass0 (pa_cons (pv 0) (pa_cons pe_int pa_nil)))) (pa_cons pe_int pa_nil))))))) pe_int (fun _ _ => rfl)))
    (pss_cons (ps_set (i := 19) sc_l_gen.nd rfl (.inl rfl) (pe_tup (pa_cons pe_str (pa_cons pe_int (pa_cons (pe_call G_l_gen_term (hr.mono (by decide)) (by rfl) D_l_gen_term.g D_l_gen_term.F.kp D_l_gen_term.b .nil pass0 (pa_cons (pv 0) (pa_cons (pv 12) pa_nil))) pa_nil)))))
    (Evl.pss_cut (ps_if (pt_cmpR op_eq (pe_call G_l_take (hr.mono (by decide)) (by rfl) D_l_take.g D_l_take.F.kp D_l_take.b .nil pass0 (pa_cons (pv 0) (pa_cons pe_int pa_nil))) pe_int (nomark _))
    (pss_one (ps_set (i := 19) sc_l_gen.nd rfl (.inl rfl) (pe_tup (pa_cons pe_str (pa_cons pe_int (pa_cons (pe_call G_l_gen_cmp (hr.mono (by decide)) (by rfl) D_l_gen_cmp.g D_l_gen_cmp.F.kp D_l_gen_cmp.b .nil pass0 (pa_cons (pv 0) (pa_cons (pv 12) pa_nil))) (pa_cons (pe_tup (pa_cons (pv 19) pa_nil)) (pa_cons (pe_tup (pa_cons (pe_tup (pa_cons pe_str (pa_cons pe_int pa_nil))) (pa_cons (pe_tup (pa_cons pe_str (pa_cons pe_int (pa_cons (pe_call G_l_gen_term (hr.mono (by decide)) (by rfl) D_l_gen_term.g D_l_gen_term.F.kp D_l_gen_term.b .nil pass0 (pa_cons (pv 0) (pa_cons (pv 12) pa_nil))) pa_nil)))) pa_nil))) pa_nil))))))))
    pss_nil)
    (pss_cons (ps_expr (pe_bm PySem.F.plainAttrs_list PySem.F.slot_list_append PySem.F.type_list_append mt_append (pv 3) (pa_cons (pe_tup (pa_cons (pe_ix ix_list (pv 1) (pe_op op_sub pe_int (pv 6)) (fun _ _ => rfl)) (pa_cons (pe_callTy call_tuple_of (by rfl) T.n_tuple (by decide +kernel) (pa_cons (pv 9) pa_nil)) (pa_cons (pv 16) (pa_cons (pv 17) (pa_cons (pv 11) (pa_cons (pv 13) (pa_cons (pv 14) (pa_cons (pe_op op_catB (pv 18) (pe_tup (pa_cons (pv 19) pa_nil))) pa_nil))))))))) pa_nil)))
    (pss_one (ps_expr (pe_bm PySem.F.plainAttrs_list PySem.F.slot_list_append PySem.F.type_list_append mt_append (pv 4) (pa_cons (pe_tup (pa_cons (pe_ix ix_list (pv 1) (pe_op op_sub pe_int (pv 6)) (fun _ _ => rfl)) (pa_cons (pe_callTy call_tuple_of (by rfl) T.n_tuple (by decide +kernel) (pa_cons (pv 9) pa_nil)) (pa_cons (pv 11) pa_nil)))) pa_nil)))))))))))))))))))))))))
    (pss_one (ps_ret (pv 3))))))), ?_⟩
    have hNh : N ≠ h := by
      obtain ⟨⟨i, e⟩, _, _⟩ := hd
      intro e2
      rw [e2, e] at hN
      exact strs_ne (HO.lst.inj (Option.some.inj hN)).symm
    refine ⟨Nat.zero_le _, fun Ap nAp => ?_⟩
    generalize hGa : upd H Ap _ = Ha
    obtain ⟨sa, ea⟩ := new_of nAp hGa
    refine ⟨Nat.zero_le _, fun Ak nAk => ?_⟩
    generalize hGb : upd Ha Ak _ = Hb
    obtain ⟨sb, eb⟩ := new_of nAk hGb
    refine ⟨_, rfl, _, _, rfl, rfl, .inr ⟨_, rfl, _, _, rfl, rfl, .inl ⟨by decide, by decide⟩, _, _, rfl, rfl, by show 1 ≤ sizeLine; decide, fun Ar nAr => ?_⟩⟩
    generalize hGc : upd Hb Ar _ = Hc
    obtain ⟨sc, ec⟩ := new_of nAr hGc
    have sabc := sa.trans (sb.trans sc)
    have nAk' : H Ak = none := sa.free nAk
    have nAr' : H Ar = none := (sa.trans sb).free nAr
    have qAp : Ap ≠ h := hand_ne hd nAp
    have qAk : Ak ≠ h := hand_ne hd nAk'
    have qAr : Ar ≠ h := hand_ne hd nAr'
    have qdr : d ≠ Ar := ne_of_none hd.ds_ nAr'
    have qpk : Ap ≠ Ak := ne_of_none ea nAk
    have qpr : Ap ≠ Ar := ne_of_none (sb _ _ ea) nAr
    have qkr : Ak ≠ Ar := ne_of_none eb nAr
    have z0 : GS K H h d ds Ap Ak Ar Hc [] [] _ := ⟨Same.but sabc, hd.same sabc, ⟨[], (sb.trans sc) _ _ ea, ⟨rfl, fun i v c h => by cases h⟩⟩, ⟨[], sc _ _ eb, .nil⟩, ec⟩
    refine ⟨_, rfl, h, d, ds, 3, rfl, by decide, z0.hd, fun r0 Hd r00 r01 bd0 hd0 _ => ⟨_, _, rfl, rfl, _, rfl, by omega, by omega, ?_⟩⟩
    have zd := z0.but (fun c hc => (List.not_mem_nil hc).elim) bd0 hd0 qAp qAk qAr
    clear z0
    refine for_range (lo := 0) (n := ((1 : Int) + r0).toNat) (fun i σ J => ∃ (y6 y7 y8 y9 y10 y11 y12 y13 y14 y15 y16 y17 y18 y19 : Option V) (cs : List Pc) (kn : List Kn) (r : Int), σ = [some (.ref h), some (.ref N), some (.int mv), some (.ref Ap), some (.ref Ak), some (.ref Ar), y6, y7, y8, y9, y10, y11, y12, y13, y14, y15, y16, y17, y18, y19] ∧ GS K H h d ds Ap Ak Ar J cs kn r ∧ GsOk ns cs kn i) ⟨_, _, _, _, _, _, _, _, _, _, _, _, _, _, [], [], _, rfl, zd, ⟨rfl, fun _ h => (List.not_mem_nil h).elim, fun j c h => (by cases h), fun _ h => (List.not_mem_nil h).elim, fun _ h => (List.not_mem_nil h).elim, fun _ h => (List.not_mem_nil h).elim, rfl⟩⟩ (fun i σ J hi hP => ?_) (fun σ J hP => ?_)
    · obtain ⟨y6, y7, y8, y9, y10, y11, y12, y13, y14, y15, y16, y17, y18, y19, cs, kn, r, rfl, z, zi⟩ := hP
      clear zd
      have hi3 : i < 3 := by omega
      have eN := z.b _ _ hNh hN
      have hcl := zi.len
      have hkl : kn.length = i := by
        rw [zi.kk, List.length_map, hcl]
      refine ⟨_, rfl, _, rfl, h, d, ds, 4, rfl, by decide, z.hd, fun ra J1 ra0 ra1 b1 hd1 _ => ⟨_, rfl, N, _, rfl, SqL.of (b1 _ _ hNh eN), fun L1 nL1 => ?_⟩⟩
      rw [cut_take ns ra0]
      replace z := z.but zi.ok b1 hd1 qAp qAk qAr
      replace eN := b1 _ _ hNh eN
      generalize hG2 : upd J1 L1 _ = J2
      obtain ⟨s2, e2⟩ := new_of nL1 hG2
      have qL1 : L1 ≠ h := hand_ne z.hd nL1
      have qL1r : L1 ≠ Ar := (ne_of_none z.r nL1).symm
      replace z := z.same s2
      replace eN := s2 _ _ eN
      refine ⟨_, rfl, _, rfl, _, rfl, h, d, ds, 3, rfl, by decide, z.hd, fun rb J3 rb0 rb1 b3 hd3 _ => ⟨_, _, rfl, rfl, _, rfl, N, _, rfl, SqL.of (b3 _ _ hNh eN), fun L2 nL2 => ?_⟩⟩
      rw [cut_3 ns rb0 (by omega)]
      replace z := z.but zi.ok b3 hd3 qAp qAk qAr
      replace eN := b3 _ _ hNh eN
      replace e2 := b3 _ _ qL1 e2
      generalize hG4 : upd J3 L2 _ = J4
      obtain ⟨s4, e4⟩ := new_of nL2 hG4
      have qL2 : L2 ≠ h := hand_ne z.hd nL2
      have qL2r : L2 ≠ Ar := (ne_of_none z.r nL2).symm
      have qL12 : L1 ≠ L2 := ne_of_none e2 nL2
      replace z := z.same s4
      replace eN := s4 _ _ eN
      replace e2 := s4 _ _ e2
      have hlnd : (ns.take ra.toNat).Nodup := (List.take_sublist _ _).nodup hnn
      have hpo := par0_ok (split_nd hnn ra.toNat rb.toNat (by omega))
      have hlsl : (ns.take ra.toNat).length ≤ 3 := by
        rw [List.length_take]
        omega
      have hmsl : ((ns.drop 3).take rb.toNat).length ≤ 2 := by
        rw [List.length_take]
        omega
      generalize ns.take ra.toNat = ls at e2 hpo hlsl hlnd
      generalize (ns.drop 3).take rb.toNat = ms at e4 hpo hmsl
      refine ⟨_, rfl, L1, rfl, ⟨_, SqL.of e2⟩, fun D1 nD1 => ?_⟩
      refine lc_list (K := K) (a := L1) (xs := ls.map V.str) (fun j G => Same J4 G ∧ ∃ xs : List V, G D1 = some (.lst xs) ∧ DpAll K G xs (((ls.take j).map fun z => (z, true)).map encP)) ⟨same_new nD1, [], upd_same, .nil⟩ (fun j G _ hP => SqL.of (hP.1 _ _ e2)) (fun j y G hy hP => ?_) (fun J5 hP => ?_)
      · obtain ⟨sG, xs, eD, dD⟩ := hP
        rw [List.getElem?_map] at hy
        obtain ⟨u, hu, rfl⟩ := Option.map_eq_some_iff.mp hy
        obtain ⟨hj, hju⟩ := List.getElem?_eq_some_iff.mp hu
        refine ⟨rfl, _, rfl, by show 2 ≤ sizeLine; decide, fun tt nt => ?_⟩
        generalize hGt : upd G tt _ = G2
        obtain ⟨st, et⟩ := new_of nt hGt
        have hxl : xs.length ≤ j := by
          rw [dpa_len dD, List.length_map, List.length_map, List.length_take]
          omega
        refine ⟨_, st _ _ eD, small_sz5 (by omega), same_mut (sG.trans st) nD1, xs ++ [.ref tt], upd_same, ?_⟩
        refine dpa_but (st _ _ eD) (fun b o hb e => (upd_ne hb).trans e) _ _ (encP_noL _) ?_
        rw [List.take_succ_eq_append_getElem hj, hju, List.map_append, List.map_append]
        exact dpa_snoc (dpa_same st _ _ dD) (dp_tup2 et (.str _) (.bl _))
      obtain ⟨s5, x5, e5, d5⟩ := hP
      rw [List.take_of_length_le (by rw [List.length_map]; exact Nat.le_refl _)] at d5
      replace e2 := s5 _ _ e2
      replace e4 := s5 _ _ e4
      replace eN := s5 _ _ eN
      replace z := z.same s5
      refine ⟨_, rfl, L2, rfl, ⟨_, SqL.of e4⟩, fun D2 nD2 => ?_⟩
      refine lc_list (K := K) (a := L2) (xs := ms.map V.str) (fun j G => Same J5 G ∧ ∃ xs : List V, G D2 = some (.lst xs) ∧ DpAll K G xs (((ms.take j).map fun z => (z, false)).map encP)) ⟨same_new nD2, [], upd_same, .nil⟩ (fun j G _ hP => SqL.of (hP.1 _ _ e4)) (fun j y G hy hP => ?_) (fun J6 hP => ?_)
      · obtain ⟨sG, xs, eD, dD⟩ := hP
        rw [List.getElem?_map] at hy
        obtain ⟨u, hu, rfl⟩ := Option.map_eq_some_iff.mp hy
        obtain ⟨hj, hju⟩ := List.getElem?_eq_some_iff.mp hu
        refine ⟨rfl, _, rfl, by show 2 ≤ sizeLine; decide, fun tt nt => ?_⟩
        generalize hGt : upd G tt _ = G2
        obtain ⟨st, et⟩ := new_of nt hGt
        have hxl : xs.length ≤ j := by
          rw [dpa_len dD, List.length_map, List.length_map, List.length_take]
          omega
        refine ⟨_, st _ _ eD, small_sz5 (by omega), same_mut (sG.trans st) nD2, xs ++ [.ref tt], upd_same, ?_⟩
        refine dpa_but (st _ _ eD) (fun b o hb e => (upd_ne hb).trans e) _ _ (encP_noL _) ?_
        rw [List.take_succ_eq_append_getElem hj, hju, List.map_append, List.map_append]
        exact dpa_snoc (dpa_same st _ _ dD) (dp_tup2 et (.str _) (.bl _))
      obtain ⟨s6, x6, e6, d6⟩ := hP
      rw [List.take_of_length_le (by rw [List.length_map]; exact Nat.le_refl _)] at d6
      replace e2 := s6 _ _ e2
      replace e4 := s6 _ _ e4
      replace eN := s6 _ _ eN
      replace z := z.same s6
      replace e5 := s6 _ _ e5
      replace d5 := dpa_same s6 _ _ d5
      have x5l : x5.length = ls.length := by rw [dpa_len d5, List.length_map, List.length_map]
      have x6l : x6.length = ms.length := by rw [dpa_len d6, List.length_map, List.length_map]
      refine ⟨D1, D2, _, _, rfl, rfl, e5, e6, sz5 (by omega), fun PA0 nPA => ?_⟩
      generalize hG7 : upd J6 PA0 _ = J7
      obtain ⟨s7, e7⟩ := new_of nPA hG7
      have qPA0 : PA0 ≠ h := hand_ne z.hd nPA
      have qPA0p : PA0 ≠ Ap := (Exists.elim z.p fun _ h => ne_of_none h.1 nPA).symm
      have qPA0r : PA0 ≠ Ar := (ne_of_none z.r nPA).symm
      replace e2 := s7 _ _ e2
      replace e4 := s7 _ _ e4
      replace eN := s7 _ _ eN
      replace z := z.same s7
      have d7 : DpAll K J7 (x5 ++ x6) ((par0 ls ms).map encP) := by
        unfold par0
        rw [List.map_append]
        exact dpa_app (dpa_same s7 _ _ d5) (dpa_same s7 _ _ d6)
      clear d5 d6 e5 e6
      refine ⟨fun σ' J' => ∃ (PA : Addr) (pv : List V) (ps : List (PySem.Str × Bool)), σ' = [some (.ref h), some (.ref N), some (.int mv), some (.ref Ap), some (.ref Ak), some (.ref Ar), some (.int (0 + (i : Nat))), some (.ref L1), some (.ref L2), some (.ref PA), y10, y11, y12, y13, y14, y15, y16, y17, y18, y19] ∧ But h J7 J' ∧ Hand J' h d ds ∧ J' PA = some (.lst pv) ∧ DpAll K J' pv (ps.map encP) ∧ ParOk ls ms ps ∧ PA ≠ h ∧ PA ≠ Ar ∧ PA ≠ Ap, ?_, fun σ' J' hM => ?_⟩
      · refine ⟨_, rfl, h, d, ds, 2, rfl, by decide, z.hd, fun rq J8 _ _ b8 hd8 _ => ⟨rfl, _, rfl, ite2 (fun e => ?_) (fun e => ?_)⟩⟩
        · have d8 : DpAll K J8 (x5 ++ x6) ((par0 ls ms).map encP) := by
            obtain ⟨⟨i, e⟩, _, _⟩ := z.hd
            exact dpa_but e b8 _ _ (encP_noL _) d7
          refine ⟨_, rfl, _, rfl, _, rfl, PA0, _, rfl, rfl, SqL.of (b8 _ _ qPA0 e7), fun PA nPA2 => ?_⟩
          generalize hG9 : upd J8 PA _ = J9
          obtain ⟨s9, e9⟩ := new_of nPA2 hG9
          exact ⟨PA, _, (par0 ls ms).reverse, rfl, b8.trans (Same.but s9), hd8.same s9, e9, by rw [List.map_reverse]; exact dpa_rev (dpa_same s9 _ _ d8), hpo.rev, hand_ne hd8 nPA2, (ne_of_none (b8 _ _ qAr z.r) nPA2).symm, (Exists.elim z.p fun _ h => ne_of_none (b8 _ _ qAp h.1) nPA2).symm⟩
        · have d8 : DpAll K J8 (x5 ++ x6) ((par0 ls ms).map encP) := by
            obtain ⟨⟨i, e⟩, _, _⟩ := z.hd
            exact dpa_but e b8 _ _ (encP_noL _) d7
          exact ⟨PA0, _, par0 ls ms, rfl, b8, hd8, b8 _ _ qPA0 e7, d8, hpo, qPA0, qPA0r, qPA0p⟩
      obtain ⟨PA, pv, ps, rfl, bM, hdM, ePA, dPA, hpo, qPA, qPAr, pPA⟩ := hM
      replace z := z.but zi.ok bM hdM qAp qAk qAr
      replace e2 := bM _ _ qL1 e2
      replace e4 := bM _ _ qL2 e4
      replace eN := bM _ _ hNh eN
      clear d7 e7 s7 hdM bM
      have hpl := hpo.len
      have pvl : pv.length = ps.length := by rw [dpa_len dPA, List.length_map]
      refine ⟨_, rfl, _, rfl, _, rfl, L1, _, rfl, SqL.of e2, fun S1 nS1 => ?_⟩
      rw [cut_take ls hmv]
      generalize hGS : upd J' S1 _ = K1
      obtain ⟨sS1, eS1⟩ := new_of nS1 hGS
      refine ⟨S1, _, rfl, .inl ⟨SqL.of eS1, fun TM nTM => ?_⟩⟩
      generalize hGT : upd K1 TM _ = K2
      obtain ⟨sTM, eTM⟩ := new_of nTM hGT
      have hTM : SqT K K2 TM ((ls.take mv.toNat).map V.str) := SqT.of eTM
      have hmvl : (ls.take mv.toNat).length ≤ 3 := by
        rw [List.length_take]
        omega
      generalize hmvs : ls.take mv.toNat = mvs at hTM hmvl
      replace z := z.same (sS1.trans sTM)
      replace e2 := (sS1.trans sTM) _ _ e2
      replace e4 := (sS1.trans sTM) _ _ e4
      replace eN := (sS1.trans sTM) _ _ eN
      replace ePA := (sS1.trans sTM) _ _ ePA
      replace dPA := dpa_same (sS1.trans sTM) _ _ dPA
      obtain ⟨ks, ek1, dk1⟩ := z.k
      have hksl : ks.length = i := by rw [dpa_len dk1, List.length_map, hkl]
      refine ⟨_, rfl, _, rfl, _, rfl, Ak, ks, rfl, .inl (SqL.of ek1), fun KD nKD => ?_⟩
      generalize hGK : upd K2 KD _ = K3
      obtain ⟨sKD, eKD⟩ := new_of nKD hGK
      have nKDH : H KD = none := z.b.free (hand_ne z.hd nKD) nKD
      have kAp : Ap ≠ KD := (Exists.elim z.p fun _ h => ne_of_none h.1 nKD)
      have kAk : Ak ≠ KD := (ne_of_none ek1 nKD)
      have kAr : Ar ≠ KD := (ne_of_none z.r nKD)
      have kL1 : L1 ≠ KD := (ne_of_none e2 nKD)
      have kL2 : L2 ≠ KD := (ne_of_none e4 nKD)
      have kPA : PA ≠ KD := (ne_of_none ePA nKD)
      have kN : N ≠ KD := (ne_of_none eN nKD)
      have kd : d ≠ KD := (ne_of_none z.hd.ds_ nKD)
      have khd : h ≠ KD := (hand_ne z.hd nKD).symm
      replace hTM := sqt_same sKD hTM
      replace dk1 := dpa_same sKD _ _ dk1
      clear ek1
      replace z := z.same (sKD)
      replace e2 := (sKD) _ _ e2
      replace e4 := (sKD) _ _ e4
      replace eN := (sKD) _ _ eN
      replace ePA := (sKD) _ _ ePA
      replace dPA := dpa_same (sKD) _ _ dPA
      have n5 : atI (ns.map V.str) 5 = some (.str (ns.getD 5 "")) := at_nat (j := 5) rfl (at_nm (by omega))
      have n6 : atI (ns.map V.str) 6 = some (.str (ns.getD 6 "")) := at_nat (j := 6) rfl (at_nm (by omega))
      generalize ns.getD 5 "" = c5 at n5
      generalize ns.getD 6 "" = c6 at n6
      refine ⟨_, rfl, N, _, _, _, rfl, rfl, SqL.of eN, n5, _, rfl, N, _, _, _, rfl, rfl, SqL.of eN, n6, by show 2 ≤ sizeLine; decide, fun CN nCN => ?_⟩
      generalize hGN : upd K3 CN _ = K4
      obtain ⟨sCN, eCN⟩ := new_of nCN hGN
      have kCN : CN ≠ KD := (ne_of_none eKD nCN).symm
      replace hTM := sqt_same sCN hTM
      replace dk1 := dpa_same sCN _ _ dk1
      replace eKD := sCN _ _ eKD
      replace z := z.same (sCN)
      replace e2 := (sCN) _ _ e2
      replace e4 := (sCN) _ _ e4
      replace eN := (sCN) _ _ eN
      replace ePA := (sCN) _ _ ePA
      replace dPA := dpa_same (sCN) _ _ dPA
      refine ⟨_, rfl, _, rfl, _, rfl, L1, _, rfl, SqL.of e2, fun MV nMV => ?_⟩
      rw [cut_take ls hmv, hmvs]
      generalize hGM : upd K4 MV _ = K5
      obtain ⟨sMV, eMV⟩ := new_of nMV hGM
      have kMV : MV ≠ KD := (ne_of_none eKD nMV).symm
      replace hTM := sqt_same sMV hTM
      replace dk1 := dpa_same sMV _ _ dk1
      replace eKD := sMV _ _ eKD
      replace eCN := sMV _ _ eCN
      replace z := z.same (sMV)
      replace e2 := (sMV) _ _ e2
      replace e4 := (sMV) _ _ e4
      replace eN := (sMV) _ _ eN
      replace ePA := (sMV) _ _ ePA
      replace dPA := dpa_same (sMV) _ _ dPA
      refine ⟨_, rfl, by show 7 ≤ sizeLine; decide, fun C nC => ?_⟩
      generalize hGC : upd K5 C _ = K6
      obtain ⟨sC, eC⟩ := new_of nC hGC
      have nCH : H C = none := z.b.free (hand_ne z.hd nC) nC
      have cAp : Ap ≠ C := (Exists.elim z.p fun _ h => ne_of_none h.1 nC)
      have cAk : Ak ≠ C := (Exists.elim z.k fun _ h => ne_of_none h.1 nC)
      have cAr : Ar ≠ C := (ne_of_none z.r nC)
      have cL1 : L1 ≠ C := (ne_of_none e2 nC)
      have cL2 : L2 ≠ C := (ne_of_none e4 nC)
      have cPA : PA ≠ C := (ne_of_none ePA nC)
      have cN : N ≠ C := (ne_of_none eN nC)
      have cd : d ≠ C := (ne_of_none z.hd.ds_ nC)
      have cKD : KD ≠ C := (ne_of_none eKD nC)
      have cCN : CN ≠ C := (ne_of_none eCN nC)
      have cMV : MV ≠ C := (ne_of_none eMV nC)
      have qC : C ≠ h := hand_ne z.hd nC
      have kC : C ≠ KD := cKD.symm
      replace hTM := sqt_same sC hTM
      replace dk1 := dpa_same sC _ _ dk1
      replace eKD := sC _ _ eKD
      replace eCN := sC _ _ eCN
      replace eMV := sC _ _ eMV
      replace z := z.same (sC)
      replace e2 := (sC) _ _ e2
      replace e4 := (sC) _ _ e4
      replace eN := (sC) _ _ eN
      replace ePA := (sC) _ _ ePA
      replace dPA := dpa_same (sC) _ _ dPA
      have st : St8 K K6 h d ds ⟨C, L1, L2, KD, CN, MV, Ar⟩ ⟨ls, ms, kn, c5, c6, mvs, false⟩ r := ⟨z.hd, ⟨eC, e2, e4, ⟨ks, eKD, dk1⟩, eCN, eMV, z.r, by show ls.length ≤ 10; omega, by show ms.length ≤ 10; omega, by show kn.length ≤ 10; omega, by show mvs.length ≤ 10; omega⟩⟩
      have hps0 : ∀ k, k ∈ kn → k.ps.length ≤ 10 := fun k hk => by
        rw [zi.kk] at hk
        obtain ⟨c0, h1, rfl⟩ := List.mem_map.mp hk
        exact zi.ll c0 h1
      clear eC eKD dk1 eCN eMV e2
      have nnm : atI (ns.map V.str) (15 - (0 + (i : Nat))) = some (.str (ns.getD (15 - i) "")) := at_nat (j := 15 - i) (by omega) (at_nm (by omega))
      have hnm : ns[15 - i]? = some (ns.getD (15 - i) "") := getD_lt (by omega)
      generalize ns.getD (15 - i) "" = nmk at nnm hnm
      have B : B4 h ⟨C, L1, L2, KD, CN, MV, Ar⟩ K6 K6 := B4.refl _ _ _
      have m : TM8 K K6 K6 := fun _ _ h => h
      have kNr : N ≠ Ar := (ne_of_none hN nAr')
      refine ⟨fun σ' J' => ∃ (v13 : V) (x' : Cd), σ' = [some (.ref h), some (.ref N), some (.int mv), some (.ref Ap), some (.ref Ak), some (.ref Ar), some (.int (0 + (i : Nat))), some (.ref L1), some (.ref L2), some (.ref PA), y10, some (.ref TM), some (.ref C), some v13, y14, y15, y16, y17, y18, y19] ∧ B4 h ⟨C, L1, L2, KD, CN, MV, Ar⟩ K6 J' ∧ TM8 K K6 J' ∧ St8 K J' h d ds ⟨C, L1, L2, KD, CN, MV, Ar⟩ x' r ∧ x'.ls = ls ∧ x'.b = false ∧ x'.ns = ms ∧ x'.mv = mvs ∧ x'.c5 = c5 ∧ x'.c6 = c6 ∧ (x'.kn = kn ∨ x'.kn = kn ++ [⟨nmk, ps, mvs⟩]), ?_, fun σ' J9 hM => ?_⟩
      · refine ⟨_, rfl, h, d, ds, 2, rfl, by decide, st.hd, fun rQ1 M1 q0Q1 q1Q1 bQ1 hdQ1 _ => ?_⟩
        have Mx := st.m4 (B4.but bQ1)
        replace m := fun b xs e => Mx b xs (m b xs e)
        replace B := B.trans (B4.but bQ1)
        replace st := st.but bQ1 hdQ1
        clear Mx
        refine ⟨rfl, _, rfl, ite2 (fun e => ?_) (fun e => ?_)⟩
        · refine ⟨_, rfl, _, rfl, h, d, ds, _, _, _, rfl, st, fun vF1 tmF1 M2 bF1 stF1 oF1 kkF1 => ?_⟩
          have Mx := st.m4 (B4.but bF1)
          replace m := fun b xs e => Mx b xs (m b xs e)
          replace B := B.trans (B4.but bF1)
          replace st := stF1
          clear Mx
          have oF1 : Od K M2 vF1 tmF1.enc := ⟨oF1, noL_pl _⟩
          refine ⟨_, rfl, _, rfl, h, d, ds, _, _, _, rfl, st, fun vF2 tmF2 M3 bF2 stF2 oF2 kkF2 => ?_⟩
          have Mx := st.m4 (B4.but bF2)
          replace oF1 := oF1.m Mx
          replace m := fun b xs e => Mx b xs (m b xs e)
          replace B := B.trans (B4.but bF2)
          replace st := stF2
          clear Mx
          have oF2 : Od K M3 vF2 tmF2.enc := ⟨oF2, noL_pl _⟩
          refine ⟨by show 2 ≤ sizeLine; decide, fun tFA nFA => ?_⟩
          generalize hGFA : upd M3 tFA _ = M4
          obtain ⟨sFA, eFA⟩ := new_of nFA hGFA
          have Mx := same_m (K := K) sFA
          replace m := fun b xs e => Mx b xs (m b xs e)
          replace B := B.trans (B4.same sFA)
          replace st := st.same sFA
          clear Mx
          obtain ⟨xk, ek, dk⟩ := st.cx.k
          have hxk : xk.length = i := by rw [dpa_len dk, List.length_map]; exact hkl
          refine ⟨_, rfl, C, _, _, _, rfl, rfl, SqL.of st.cx.c, atI_nat (j := 2) rfl, .inl ⟨rfl, _, SqL.of ek⟩, _, rfl, _, rfl, _, _, rfl, rfl, N, _, _, _, rfl, rfl, SqL.of (B _ _ hNh kNr cN kN eN), nnm, _, rfl, PA, _, rfl, .inl ⟨SqL.of (B _ _ qPA qPAr cPA kPA ePA), fun TP nTP => ?_⟩⟩
          generalize hGTP : upd M4 TP _ = M5
          obtain ⟨sTP, eTP⟩ := new_of nTP hGTP
          replace dk := dpa_same sTP _ _ dk
          replace ek := sTP _ _ ek
          have dTP : Dp K M5 (.ref TP) (psE ps) := .tup (SqT.of eTP) (dpa_same sTP _ _ (dpa_tups m _ _ (encP_noL _) dPA))
          have Mx := same_m (K := K) sTP
          replace m := fun b xs e => Mx b xs (m b xs e)
          replace B := B.trans (B4.same sTP)
          replace st := st.same sTP
          clear Mx
          refine ⟨_, rfl, by show 3 ≤ sizeLine; decide, fun tKT nKT => ?_⟩
          generalize hGKT : upd M5 tKT _ = M6
          obtain ⟨sKT, eKT⟩ := new_of nKT hGKT
          have Mx := same_m (K := K) sKT
          replace dTP := dp_tups Mx _ _ (psE_nl _) dTP
          replace m := fun b xs e => Mx b xs (m b xs e)
          replace B := B.trans (B4.same sKT)
          replace st := st.same sKT
          clear Mx
          replace dk := dpa_same sKT _ _ dk
          replace ek := sKT _ _ ek
          have dKT : Dp K M6 (.ref tKT) (Kn.enc ⟨nmk, ps, mvs⟩) := .tup (SqT.of eKT) (.cons (.str _) (.cons dTP (.cons (.tup (m _ _ hTM) (dpa_strs mvs)) .nil)))
          refine ⟨KD, xk, _, rfl, rfl, ek, small_sz5 (by omega), ?_⟩
          generalize hGKD : upd M6 KD _ = M7
          have stn := St8.addK st ek dk dKT (by show kn.length + 1 ≤ 10; omega) hGKD kL1 kL2 kC kCN kMV kAr kd
          have Mx := but_m (K := K) ek (G := M7) (fun b o hb e => by rw [← hGKD]; exact (upd_ne hb).trans e)
          replace m := fun b xs e => Mx b xs (m b xs e)
          replace B := B.trans (B4.updK hGKD)
          replace st := stn
          clear Mx
          exact ⟨_, _, rfl, B, m, st, rfl, rfl, rfl, rfl, rfl, rfl, .inr rfl⟩
        · exact ⟨_, _, rfl, B, m, st, rfl, rfl, rfl, rfl, rfl, rfl, .inl rfl⟩
      obtain ⟨v13, x', rfl, B, m, st, hxl, hxb, hxn, hxm, hx5, hx6, hxk⟩ := hM
      have hps : ∀ k, k ∈ x'.kn → k.ps.length ≤ 10 := fun k hk => by
        rcases hxk with e | e
        · rw [e] at hk
          exact hps0 k hk
        · rw [e] at hk
          rcases List.mem_append.mp hk with hk | hk
          · exact hps0 k hk
          · rw [List.mem_singleton.mp hk]
            show ps.length ≤ 10
            omega
      refine ⟨_, rfl, N, _, _, _, rfl, rfl, SqL.of (B _ _ hNh kNr cN kN eN), n5, _, rfl, _, rfl, h, d, ds, _, _, _, rfl, st, fun vT1 tmT1 M8 bT1 stT1 oT1 kkT1 => ?_⟩
      have Mx := st.m4 (B4.but bT1)
      replace m := fun b xs e => Mx b xs (m b xs e)
      replace B := B.trans (B4.but bT1)
      replace st := stT1
      clear Mx
      refine ⟨by show 3 ≤ sizeLine; decide, fun tE1 nE1 => ?_⟩
      generalize hGE1 : upd M8 tE1 _ = M9
      obtain ⟨sE1, eE1⟩ := new_of nE1 hGE1
      have Mx := same_m (K := K) sE1
      replace oT1 := oT1.m Mx
      replace m := fun b xs e => Mx b xs (m b xs e)
      replace B := B.trans (B4.same sE1)
      replace st := st.same sE1
      clear Mx
      refine ⟨by show 1 ≤ sizeLine; decide, fun tE2 nE2 => ?_⟩
      generalize hGE2 : upd M9 tE2 _ = M10
      obtain ⟨sE2, eE2⟩ := new_of nE2 hGE2
      have Mx := same_m (K := K) sE2
      replace oT1 := oT1.m Mx
      replace m := fun b xs e => Mx b xs (m b xs e)
      replace B := B.trans (B4.same sE2)
      replace st := st.same sE2
      clear Mx
      have lt1 : Dp K M10 (.ref tE2) (ltE [(0, c5, tmT1)]) := .tup (SqT.of eE2) (.cons (.tup (SqT.of (sE2 _ _ eE1)) (.cons (.int _) (.cons (.str _) (.cons oT1.dp .nil)))) .nil)
      have kT1 : tmT1.ok ms ls := by
        have := kkT1
        unfold Cd.vs at this
        rw [if_neg (by rw [hxb]; exact Bool.false_ne_true), hxn, hxl] at this
        exact this
      refine ⟨_, rfl, _, rfl, N, _, _, _, rfl, rfl, SqL.of (B _ _ hNh kNr cN kN eN), n5, _, rfl, N, _, _, _, rfl, rfl, SqL.of (B _ _ hNh kNr cN kN eN), n5, by show 2 ≤ sizeLine; decide, fun tXa nXa => ?_⟩
      generalize hGXa : upd M10 tXa _ = M11
      obtain ⟨sXa, eXa⟩ := new_of nXa hGXa
      have Mx := same_m (K := K) sXa
      replace lt1 := dp_tups Mx _ _ (ltE_noL _) lt1
      replace m := fun b xs e => Mx b xs (m b xs e)
      replace B := B.trans (B4.same sXa)
      replace st := st.same sXa
      clear Mx
      refine ⟨L2, tXa, _, _, rfl, rfl, B _ _ qL2 qL2r cL2 kL2 e4, eXa, sz5 (by show (ms.map V.str).length + 2 ≤ 100000; rw [List.length_map]; omega), fun Na nNa => ?_⟩
      generalize hGNa : upd M11 Na _ = M12
      obtain ⟨sNa, eNa⟩ := new_of nNa hGNa
      have cNa : Na ≠ C := (ne_of_none st.cx.c nNa).symm
      have Mx := same_m (K := K) sNa
      replace lt1 := dp_tups Mx _ _ (ltE_noL _) lt1
      replace m := fun b xs e => Mx b xs (m b xs e)
      replace B := B.trans (B4.same sNa)
      replace st := st.same sNa
      clear Mx
      refine ⟨_, rfl, C, _, 1, 1, rfl, rfl, st.cx.c, rfl, ?_⟩
      generalize hGSa : upd M12 C _ = M13
      have stn := St8.setC st (N2 := Na) (b2 := x'.b) (ns2 := ms ++ [c5, c5]) (by rw [eNa, List.map_append]; rfl) (by rw [List.length_append]; show ms.length + 2 ≤ 10; omega) hGSa cL1 cNa cKD cCN cMV cAr cd
      have Mx := but_m (K := K) st.cx.c (G := M13) (fun b o hb e => by rw [← hGSa]; exact (upd_ne hb).trans e)
      replace lt1 := dp_tups Mx _ _ (ltE_noL _) lt1
      replace m := fun b xs e => Mx b xs (m b xs e)
      replace B := B.trans (B4.updC hGSa)
      replace st := stn
      clear Mx
      refine ⟨_, rfl, _, rfl, N, _, _, _, rfl, rfl, SqL.of (B _ _ hNh kNr cN kN eN), n6, _, rfl, _, rfl, h, d, ds, _, _, _, rfl, st, fun vT2 tmT2 M14 bT2 stT2 oT2 kkT2 => ?_⟩
      have Mx := st.m4 (B4.but bT2)
      replace lt1 := dp_tups Mx _ _ (ltE_noL _) lt1
      replace m := fun b xs e => Mx b xs (m b xs e)
      replace B := B.trans (B4.but bT2)
      replace st := stT2
      clear Mx
      refine ⟨_, rfl, N, _, _, _, rfl, rfl, SqL.of (B _ _ hNh kNr cN kN eN), n5, by show 3 ≤ sizeLine; decide, fun tV5 nV5 => ?_⟩
      generalize hGV5 : upd M14 tV5 _ = M15
      obtain ⟨sV5, eV5⟩ := new_of nV5 hGV5
      have Mx := same_m (K := K) sV5
      replace lt1 := dp_tups Mx _ _ (ltE_noL _) lt1
      replace oT2 := oT2.m Mx
      replace m := fun b xs e => Mx b xs (m b xs e)
      replace B := B.trans (B4.same sV5)
      replace st := st.same sV5
      clear Mx
      have oV5 : Od K M15 (.ref tV5) (Tm.pl (.var c5 1)).enc := .tup eV5 (.cons (.str _) (.cons (.str _) (.cons (.int _) .nil)))
      have hdLL := st.hd
      refine ⟨by show 2 ≤ sizeLine; decide, fun tLL nLL => ?_⟩
      generalize hGLL : upd M15 tLL _ = M16
      obtain ⟨sLL, eLL⟩ := new_of nLL hGLL
      have Mx := same_m (K := K) sLL
      replace lt1 := dp_tups Mx _ _ (ltE_noL _) lt1
      replace oT2 := oT2.m Mx
      replace oV5 := oV5.m Mx
      replace m := fun b xs e => Mx b xs (m b xs e)
      replace B := B.trans (B4.same sLL)
      replace st := st.same sLL
      clear Mx
      refine ⟨_, rfl, h, d, ds, 3, rfl, by decide, st.hd, fun rQ2 M17 q0Q2 q1Q2 bQ2 hdQ2 _ => ?_⟩
      have Mx := st.m4 (B4.but bQ2)
      replace lt1 := dp_tups Mx _ _ (ltE_noL _) lt1
      replace oT2 := oT2.m Mx
      replace oV5 := oV5.m Mx
      replace m := fun b xs e => Mx b xs (m b xs e)
      replace B := B.trans (B4.but bQ2)
      replace st := st.but bQ2 hdQ2
      clear Mx
      obtain ⟨v7, hv7, ev7⟩ := atI_in (xs := [vT2, .ref tV5]) (i := rQ2 / 2) (by omega) (by show _ < (2 : Int); omega)
      refine ⟨_, _, rfl, rfl, ⟨by decide, by decide⟩, tLL, _, _, _, rfl, rfl, SqL.of (bQ2 _ _ (hand_ne hdLL nLL) eLL), ev7, ?_⟩
      obtain ⟨tm2, o7, k7⟩ : ∃ t : Tm, Od K M17 v7 t.enc ∧ t.ok (c5 :: ms) ls := by
        simp only [List.mem_cons, List.not_mem_nil, or_false] at hv7
        rcases hv7 with rfl | rfl
        · refine ⟨tmT2, oT2, ?_⟩
          have := kkT2
          unfold Cd.vs at this
          rw [if_neg (by show ¬ x'.b = true; rw [hxb]; exact Bool.false_ne_true)] at this
          refine Tm.mono this (fun z hz => ?_) (fun z hz => by rw [← hxl]; exact hz)
          rcases List.mem_append.mp hz with hz | hz
          · exact List.mem_cons_of_mem _ hz
          · simp only [List.mem_cons, List.not_mem_nil, or_false, or_self] at hz
            rw [hz]
            exact List.mem_cons_self
        · exact ⟨_, oV5, List.mem_cons_self⟩
      refine ⟨by show 3 ≤ sizeLine; decide, fun tE3 nE3 => ?_⟩
      generalize hGE3 : upd M17 tE3 _ = M18
      obtain ⟨sE3, eE3⟩ := new_of nE3 hGE3
      have Mx := same_m (K := K) sE3
      replace lt1 := dp_tups Mx _ _ (ltE_noL _) lt1
      replace o7 := o7.m Mx
      replace m := fun b xs e => Mx b xs (m b xs e)
      replace B := B.trans (B4.same sE3)
      replace st := st.same sE3
      clear Mx
      refine ⟨by show 1 ≤ sizeLine; decide, fun tE4 nE4 => ?_⟩
      generalize hGE4 : upd M18 tE4 _ = M19
      obtain ⟨sE4, eE4⟩ := new_of nE4 hGE4
      have Mx := same_m (K := K) sE4
      replace lt1 := dp_tups Mx _ _ (ltE_noL _) lt1
      replace o7 := o7.m Mx
      replace m := fun b xs e => Mx b xs (m b xs e)
      replace B := B.trans (B4.same sE4)
      replace st := st.same sE4
      clear Mx
      obtain ⟨tE20, yE2, eE20, hE1, dE1⟩ := dp_tup_inv lt1
      cases eE20
      cases dE1 with
      | cons dE1a dE1n =>
      cases dE1n
      refine ⟨tE2, tE4, _, _, rfl, rfl, hE1, SqT.of eE4, by show 2 ≤ sizeLine; decide, fun tLT M20 sLT hLT => ?_⟩
      have Mx := same_m (K := K) sLT
      replace o7 := o7.m Mx
      replace m := fun b xs e => Mx b xs (m b xs e)
      replace B := B.trans (B4.same sLT)
      replace st := st.same sLT
      clear Mx
      have lt : Dp K M20 (.ref tLT) (ltE [(0, c5, tmT1), (0, c6, tm2)]) := .tup hLT (.cons (dE1a.same sLT) (.cons (.tup (sqt_same sLT (SqT.of (sE4 _ _ eE3))) (.cons (.int _) (.cons (.str _) (.cons o7.dp .nil)))) .nil))
      clear lt1 hE1 dE1a
      refine ⟨_, rfl, _, rfl, N, _, _, _, rfl, rfl, SqL.of (B _ _ hNh kNr cN kN eN), n5, _, rfl, N, _, _, _, rfl, rfl, SqL.of (B _ _ hNh kNr cN kN eN), n6, by show 2 ≤ sizeLine; decide, fun tXb nXb => ?_⟩
      generalize hGXb : upd M20 tXb _ = M21
      obtain ⟨sXb, eXb⟩ := new_of nXb hGXb
      have Mx := same_m (K := K) sXb
      replace lt := dp_tups Mx _ _ (ltE_noL _) lt
      replace m := fun b xs e => Mx b xs (m b xs e)
      replace B := B.trans (B4.same sXb)
      replace st := st.same sXb
      clear Mx
      refine ⟨L2, tXb, _, _, rfl, rfl, B _ _ qL2 qL2r cL2 kL2 e4, eXb, sz5 (by show (ms.map V.str).length + 2 ≤ 100000; rw [List.length_map]; omega), fun Nb nNb => ?_⟩
      generalize hGNb : upd M21 Nb _ = M22
      obtain ⟨sNb, eNb⟩ := new_of nNb hGNb
      have cNb : Nb ≠ C := (ne_of_none st.cx.c nNb).symm
      have Mx := same_m (K := K) sNb
      replace lt := dp_tups Mx _ _ (ltE_noL _) lt
      replace m := fun b xs e => Mx b xs (m b xs e)
      replace B := B.trans (B4.same sNb)
      replace st := st.same sNb
      clear Mx
      refine ⟨_, rfl, C, _, 1, 1, rfl, rfl, st.cx.c, rfl, ?_⟩
      generalize hGSb : upd M22 C _ = M23
      have stn := St8.setC st (N2 := Nb) (b2 := x'.b) (ns2 := ms ++ [c5, c6]) (by rw [eNb, List.map_append]; rfl) (by rw [List.length_append]; show ms.length + 2 ≤ 10; omega) hGSb cL1 cNb cKD cCN cMV cAr cd
      have Mx := but_m (K := K) st.cx.c (G := M23) (fun b o hb e => by rw [← hGSb]; exact (upd_ne hb).trans e)
      replace lt := dp_tups Mx _ _ (ltE_noL _) lt
      replace m := fun b xs e => Mx b xs (m b xs e)
      replace B := B.trans (B4.updC hGSb)
      replace st := stn
      clear Mx
      refine ⟨_, rfl, C, _, 6, 6, rfl, rfl, st.cx.c, rfl, ?_⟩
      generalize hGSd : upd M23 C _ = M24
      have stn := St8.setC st (N2 := Nb) (b2 := true) (ns2 := ms ++ [c5, c6]) st.cx.n st.cx.zn hGSd cL1 cNb cKD cCN cMV cAr cd
      have Mx := but_m (K := K) st.cx.c (G := M24) (fun b o hb e => by rw [← hGSd]; exact (upd_ne hb).trans e)
      replace lt := dp_tups Mx _ _ (ltE_noL _) lt
      replace m := fun b xs e => Mx b xs (m b xs e)
      replace B := B.trans (B4.updC hGSd)
      replace st := stn
      clear Mx
      refine ⟨by show 2 ≤ sizeLine; decide, fun tf1 nf1 => ?_⟩
      generalize hGf1 : upd M24 tf1 _ = M25
      obtain ⟨sf1, ef1⟩ := new_of nf1 hGf1
      have Mx := same_m (K := K) sf1
      replace lt := dp_tups Mx _ _ (ltE_noL _) lt
      replace m := fun b xs e => Mx b xs (m b xs e)
      replace B := B.trans (B4.same sf1)
      replace st := st.same sf1
      clear Mx
      have of1 : Op K M25 (.ref tf1) := .tup ef1 (.cons (.str _) (.cons (.int _) .nil))
      refine ⟨by show 2 ≤ sizeLine; decide, fun tf2 nf2 => ?_⟩
      generalize hGf2 : upd M25 tf2 _ = M26
      obtain ⟨sf2, ef2⟩ := new_of nf2 hGf2
      have Mx := same_m (K := K) sf2
      replace lt := dp_tups Mx _ _ (ltE_noL _) lt
      replace of1 := of1.m Mx
      replace m := fun b xs e => Mx b xs (m b xs e)
      replace B := B.trans (B4.same sf2)
      replace st := st.same sf2
      clear Mx
      have of2 : Op K M26 (.ref tf2) := .tup ef2 (.cons (.str _) (.cons (.int _) .nil))
      refine ⟨by show 4 ≤ sizeLine; decide, fun tf3 nf3 => ?_⟩
      generalize hGf3 : upd M26 tf3 _ = M27
      obtain ⟨sf3, ef3⟩ := new_of nf3 hGf3
      have Mx := same_m (K := K) sf3
      replace lt := dp_tups Mx _ _ (ltE_noL _) lt
      replace of1 := of1.m Mx
      replace of2 := of2.m Mx
      replace m := fun b xs e => Mx b xs (m b xs e)
      replace B := B.trans (B4.same sf3)
      replace st := st.same sf3
      clear Mx
      refine ⟨_, rfl, by show 1 ≤ sizeLine; decide, fun trNN nrNN => ?_⟩
      generalize hGrNN : upd M27 trNN _ = M28
      obtain ⟨srNN, erNN⟩ := new_of nrNN hGrNN
      have Mx := same_m (K := K) srNN
      replace lt := dp_tups Mx _ _ (ltE_noL _) lt
      replace m := fun b xs e => Mx b xs (m b xs e)
      replace B := B.trans (B4.same srNN)
      replace st := st.same srNN
      clear Mx
      have hrNN : SqT K M28 trNN [.ref tf3] := SqT.of erNN
      refine ⟨_, rfl, h, d, ds, 4, rfl, by decide, st.hd, fun rqNN M29 q0qNN q1qNN bqNN hdqNN _ => ?_⟩
      have Mx := st.m4 (B4.but bqNN)
      replace lt := dp_tups Mx _ _ (ltE_noL _) lt
      replace hrNN := Mx _ _ hrNN
      replace m := fun b xs e => Mx b xs (m b xs e)
      replace B := B.trans (B4.but bqNN)
      replace st := st.but bqNN hdqNN
      clear Mx
      refine ⟨_, _, rfl, rfl, ⟨by decide, by decide⟩, trNN, _, _, rfl, rfl, hrNN, by simp, (by omega), fun pNN yNN M30 ssNN hNN _ => ?_⟩
      have Mx := same_m (K := K) ssNN
      replace lt := dp_tups Mx _ _ (ltE_noL _) lt
      replace m := fun b xs e => Mx b xs (m b xs e)
      replace B := B.trans (B4.same ssNN)
      replace st := st.same ssNN
      clear Mx
      have tvNN : TupV K M30 (.ref pNN) := ⟨pNN, _, rfl, hNN⟩
      refine ⟨_, rfl, by show 1 ≤ sizeLine; decide, fun trGG nrGG => ?_⟩
      generalize hGrGG : upd M30 trGG _ = M31
      obtain ⟨srGG, erGG⟩ := new_of nrGG hGrGG
      have Mx := same_m (K := K) srGG
      replace lt := dp_tups Mx _ _ (ltE_noL _) lt
      replace tvNN := tvNN.m Mx
      replace m := fun b xs e => Mx b xs (m b xs e)
      replace B := B.trans (B4.same srGG)
      replace st := st.same srGG
      clear Mx
      have hrGG : SqT K M31 trGG [.ref tf3] := SqT.of erGG
      refine ⟨_, rfl, h, d, ds, 4, rfl, by decide, st.hd, fun rqGG M32 q0qGG q1qGG bqGG hdqGG _ => ?_⟩
      have Mx := st.m4 (B4.but bqGG)
      replace lt := dp_tups Mx _ _ (ltE_noL _) lt
      replace tvNN := tvNN.m Mx
      replace hrGG := Mx _ _ hrGG
      replace m := fun b xs e => Mx b xs (m b xs e)
      replace B := B.trans (B4.but bqGG)
      replace st := st.but bqGG hdqGG
      clear Mx
      refine ⟨_, _, rfl, rfl, ⟨by decide, by decide⟩, trGG, _, _, rfl, rfl, hrGG, by simp, (by omega), fun pGG yGG M33 ssGG hGG _ => ?_⟩
      have Mx := same_m (K := K) ssGG
      replace lt := dp_tups Mx _ _ (ltE_noL _) lt
      replace tvNN := tvNN.m Mx
      replace m := fun b xs e => Mx b xs (m b xs e)
      replace B := B.trans (B4.same ssGG)
      replace st := st.same ssGG
      clear Mx
      have tvGG : TupV K M33 (.ref pGG) := ⟨pGG, _, rfl, hGG⟩
      refine ⟨_, rfl, _, rfl, _, rfl, h, d, ds, 5, rfl, by decide, st.hd, fun rB1 M34 q0B1 q1B1 bB1 hdB1 _ => ?_⟩
      have Mx := st.m4 (B4.but bB1)
      replace lt := dp_tups Mx _ _ (ltE_noL _) lt
      replace tvNN := tvNN.m Mx
      replace tvGG := tvGG.m Mx
      replace m := fun b xs e => Mx b xs (m b xs e)
      replace B := B.trans (B4.but bB1)
      replace st := st.but bB1 hdB1
      clear Mx
      refine ⟨_, _, rfl, rfl, h, d, ds, _, _, _, 4, 2, 1 + rB1, 32, rfl, rfl, st, qdr, rfl, (by show x'.ls.Nodup; rw [hxl]; exact hlnd), hps, by omega, by omega, by decide, by decide, fun tb dn rb9 vb bs M35 bx stx ex db okb atb lnb flb d1 d2 => ?_⟩
      have Mx := st.m4 (B4.b2 bx)
      replace lt := dp_tups Mx _ _ (ltE_noL _) lt
      replace tvNN := tvNN.m Mx
      replace tvGG := tvGG.m Mx
      replace m := fun b xs e => Mx b xs (m b xs e)
      replace B := B.trans (B4.b2 bx)
      replace st := stx
      clear Mx
      refine ⟨tb, _, _, _, rfl, rfl, SqL.of ex, atI_nat (j := 1) rfl, ?_⟩
      refine ⟨_, rfl, _, rfl, h, d, ds, _, _, _, rfl, st, fun vT8 tmT8 M36 bT8 stT8 oT8 kkT8 => ?_⟩
      have Mx := st.m4 (B4.but bT8)
      replace lt := dp_tups Mx _ _ (ltE_noL _) lt
      replace tvNN := tvNN.m Mx
      replace tvGG := tvGG.m Mx
      replace db := dp_tups Mx _ _ (noL_blk okb) db
      replace m := fun b xs e => Mx b xs (m b xs e)
      replace B := B.trans (B4.but bT8)
      replace st := stT8
      clear Mx
      refine ⟨by show 3 ≤ sizeLine; decide, fun tR1 nR1 => ?_⟩
      generalize hGR1 : upd M36 tR1 _ = M37
      obtain ⟨sR1, eR1⟩ := new_of nR1 hGR1
      have Mx := same_m (K := K) sR1
      replace lt := dp_tups Mx _ _ (ltE_noL _) lt
      replace tvNN := tvNN.m Mx
      replace tvGG := tvGG.m Mx
      replace db := dp_tups Mx _ _ (noL_blk okb) db
      replace oT8 := oT8.m Mx
      replace m := fun b xs e => Mx b xs (m b xs e)
      replace B := B.trans (B4.same sR1)
      replace st := st.same sR1
      clear Mx
      have dtd := oT8.dp
      have ntd := oT8.nl
      have kkT8 := kkT8
      generalize htd : tmT8.enc = td at dtd ntd
      have dR1 : Dp K M37 (.ref tR1) (Sf.enc (encD 4) (Sf.oth "return" 0 [td])) := .tup (SqT.of eR1) (.cons (.str _) (.cons (.int _) (.cons dtd .nil)))
      have kR1 : ∀ {B9 : Type} {p9 : B9 → Prop}, Sf.ok p9 (Sf.oth "return" 0 [td] : Sf B9) := ⟨by decide +kernel, by show (noL td && true) = true; rw [ntd]; rfl⟩
      refine ⟨fun σ' J' => ∃ (v19 : V) (sl : Sf (BD 4)) (x19 : Cd), σ' = [some (.ref h), some (.ref N), some (.int mv), some (.ref Ap), some (.ref Ak), some (.ref Ar), some (.int (0 + (i : Nat))), some (.ref L1), some (.ref L2), some (.ref PA), y10, some (.ref TM), some (.ref C), some v13, some (.ref tLT), some (.ref tf3), some (.ref pNN), some (.ref pGG), some vb, some v19] ∧ B4 h ⟨C, L1, Nb, KD, CN, MV, Ar⟩ M37 J' ∧ TM8 K M37 J' ∧ St8 K J' h d ds ⟨C, L1, Nb, KD, CN, MV, Ar⟩ x19 rb9 ∧ Dp K J' v19 (Sf.enc (encD 4) sl) ∧ Sf.ok (okD 4) sl ∧ EndOk sl ∧ (∀ t, t ∈ flatD 5 (show BD 5 from sl) → AtS { x' with ns := ms ++ [c5, c6], b := true } t.s) ∧ (flatD 5 (show BD 5 from sl)).length ≤ 10, ?_, fun σ' J20 hM => ?_⟩
      · have B := B4.refl h ⟨C, L1, Nb, KD, CN, MV, Ar⟩ M37
        have m : TM8 K M37 M37 := fun _ _ h => h
        refine ⟨_, rfl, h, d, ds, 3, rfl, by decide, st.hd, fun rQ9 M38 q0Q9 q1Q9 bQ9 hdQ9 _ => ?_⟩
        have Mx := st.m4 (B4.but bQ9)
        replace dR1 := dp_tups Mx _ _ (noL_sf (noL_D 4) (p := okD 4) kR1) dR1
        replace m := fun b xs e => Mx b xs (m b xs e)
        replace B := B.trans (B4.but bQ9)
        replace st := st.but bQ9 hdQ9
        clear Mx
        refine ⟨rfl, _, rfl, ite2 (fun e => ?_) (fun e => ?_)⟩
        · refine ⟨_, rfl, _, rfl, h, d, ds, _, _, _, rfl, st, fun vC9 tmC9 M39 bC9 stC9 oC9 kkC9 => ?_⟩
          have Mx := st.m4 (B4.but bC9)
          replace dR1 := dp_tups Mx _ _ (noL_sf (noL_D 4) (p := okD 4) kR1) dR1
          replace m := fun b xs e => Mx b xs (m b xs e)
          replace B := B.trans (B4.but bC9)
          replace st := stC9
          clear Mx
          refine ⟨_, rfl, by show 1 ≤ sizeLine; decide, fun tI1 nI1 => ?_⟩
          generalize hGI1 : upd M39 tI1 _ = M40
          obtain ⟨sI1, eI1⟩ := new_of nI1 hGI1
          have Mx := same_m (K := K) sI1
          replace dR1 := dp_tups Mx _ _ (noL_sf (noL_D 4) (p := okD 4) kR1) dR1
          replace oC9 := oC9.m Mx
          replace m := fun b xs e => Mx b xs (m b xs e)
          replace B := B.trans (B4.same sI1)
          replace st := st.same sI1
          clear Mx
          have dI1 : Dp K M40 (.ref tI1) (blkE 4 [(Sf.oth "return" 0 [td] : Sf (BD 3))]) := .tup (SqT.of eI1) (.cons dR1 .nil)
          refine ⟨by show 2 ≤ sizeLine; decide, fun tI2 nI2 => ?_⟩
          generalize hGI2 : upd M40 tI2 _ = M41
          obtain ⟨sI2, eI2⟩ := new_of nI2 hGI2
          have Mx := same_m (K := K) sI2
          replace oC9 := oC9.m Mx
          replace dI1 := dp_tups Mx _ _ (noL_blk (n := 4) (b := [(show BD 4 from (Sf.oth "return" 0 [td] : Sf (BD 3)))]) (fun s hs => by rw [List.mem_singleton.mp hs]; exact kR1)) dI1
          replace m := fun b xs e => Mx b xs (m b xs e)
          replace B := B.trans (B4.same sI2)
          replace st := st.same sI2
          clear Mx
          have dI2 : Dp K M41 (.ref tI2) (encD 4 (Sf.oth "skip" 0 [] : Sf (BD 3))) := .tup (SqT.of eI2) (.cons (.str _) (.cons (.int _) .nil))
          refine ⟨_, rfl, _, rfl, h, d, ds, _, _, _, rfl, st, fun vT9 tmT9 M42 bT9 stT9 oT9 kkT9 => ?_⟩
          have Mx := st.m4 (B4.but bT9)
          replace oC9 := oC9.m Mx
          replace dI1 := dp_tups Mx _ _ (noL_blk (n := 4) (b := [(show BD 4 from (Sf.oth "return" 0 [td] : Sf (BD 3)))]) (fun s hs => by rw [List.mem_singleton.mp hs]; exact kR1)) dI1
          replace dI2 := dp_tups Mx _ _ rfl dI2
          replace m := fun b xs e => Mx b xs (m b xs e)
          replace B := B.trans (B4.but bT9)
          replace st := stT9
          clear Mx
          refine ⟨by show 3 ≤ sizeLine; decide, fun tI3 nI3 => ?_⟩
          generalize hGI3 : upd M42 tI3 _ = M43
          obtain ⟨sI3, eI3⟩ := new_of nI3 hGI3
          have Mx := same_m (K := K) sI3
          replace oC9 := oC9.m Mx
          replace dI1 := dp_tups Mx _ _ (noL_blk (n := 4) (b := [(show BD 4 from (Sf.oth "return" 0 [td] : Sf (BD 3)))]) (fun s hs => by rw [List.mem_singleton.mp hs]; exact kR1)) dI1
          replace dI2 := dp_tups Mx _ _ rfl dI2
          replace oT9 := oT9.m Mx
          replace m := fun b xs e => Mx b xs (m b xs e)
          replace B := B.trans (B4.same sI3)
          replace st := st.same sI3
          clear Mx
          have dud := oT9.dp
          have nud := oT9.nl
          generalize hud : tmT9.enc = ud at dud nud
          have kR2 : ∀ {B9 : Type} {p9 : B9 → Prop}, Sf.ok p9 (Sf.oth "return" 0 [ud] : Sf B9) := ⟨by decide +kernel, by show (noL ud && true) = true; rw [nud]; rfl⟩
          have dI3 : Dp K M43 (.ref tI3) (encD 4 (Sf.oth "return" 0 [ud] : Sf (BD 3))) := .tup (SqT.of eI3) (.cons (.str _) (.cons (.int _) (.cons dud .nil)))
          refine ⟨by show 2 ≤ sizeLine; decide, fun tI4 nI4 => ?_⟩
          generalize hGI4 : upd M43 tI4 _ = M44
          obtain ⟨sI4, eI4⟩ := new_of nI4 hGI4
          have Mx := same_m (K := K) sI4
          replace oC9 := oC9.m Mx
          replace dI1 := dp_tups Mx _ _ (noL_blk (n := 4) (b := [(show BD 4 from (Sf.oth "return" 0 [td] : Sf (BD 3)))]) (fun s hs => by rw [List.mem_singleton.mp hs]; exact kR1)) dI1
          replace dI2 := dp_tups Mx _ _ rfl dI2
          replace dI3 := dp_tups Mx _ _ (noL_D 4 _ (kR2 (B9 := BD 3))) dI3
          replace m := fun b xs e => Mx b xs (m b xs e)
          replace B := B.trans (B4.same sI4)
          replace st := st.same sI4
          clear Mx
          have okO : ∀ s, s ∈ [(Sf.oth "skip" 0 [] : Sf (BD 3)), (Sf.oth "return" 0 [ud] : Sf (BD 3))] → okD 4 s := fun s hs => by
            rcases List.mem_cons.mp hs with rfl | hs
            · exact ⟨by decide +kernel, rfl⟩
            · rw [List.mem_singleton.mp hs]
              exact kR2
          have dI4 : Dp K M44 (.ref tI4) (blkE 4 [(Sf.oth "skip" 0 [] : Sf (BD 3)), (Sf.oth "return" 0 [ud] : Sf (BD 3))]) := .tup (SqT.of eI4) (.cons dI2 (.cons dI3 .nil))
          refine ⟨by show 5 ≤ sizeLine; decide, fun tI5 nI5 => ?_⟩
          generalize hGI5 : upd M44 tI5 _ = M45
          obtain ⟨sI5, eI5⟩ := new_of nI5 hGI5
          have Mx := same_m (K := K) sI5
          replace oC9 := oC9.m Mx
          replace dI1 := dp_tups Mx _ _ (noL_blk (n := 4) (b := [(show BD 4 from (Sf.oth "return" 0 [td] : Sf (BD 3)))]) (fun s hs => by rw [List.mem_singleton.mp hs]; exact kR1)) dI1
          replace dI4 := dp_tups Mx _ _ (noL_blk (n := 4) (b := [(show BD 4 from (Sf.oth "skip" 0 [] : Sf (BD 3))), (show BD 4 from (Sf.oth "return" 0 [ud] : Sf (BD 3)))]) okO) dI4
          replace m := fun b xs e => Mx b xs (m b xs e)
          replace B := B.trans (B4.same sI5)
          replace st := st.same sI5
          clear Mx
          have dcd := oC9.dp
          have ncd := oC9.nl
          generalize hcd : tmC9.enc = cd at dcd ncd
          have at9 : ∀ t, t ∈ flatD 5 (show BD 5 from (Sf.iff 0 cd [(Sf.oth "return" 0 [td] : Sf (BD 3))] [(Sf.oth "skip" 0 [] : Sf (BD 3)), (Sf.oth "return" 0 [ud] : Sf (BD 3))] : Sf (BD 4))) → AtS { x' with ns := ms ++ [c5, c6], b := true } t.s := fun t ht => by
            have ht : t ∈ [(⟨4, Sf.iff 0 cd [(Sf.oth "return" 0 [td] : Sf (BD 3))] [(Sf.oth "skip" 0 [] : Sf (BD 3)), (Sf.oth "return" 0 [ud] : Sf (BD 3))]⟩ : An), ⟨3, Sf.oth "return" 0 [td]⟩, ⟨3, Sf.oth "skip" 0 []⟩, ⟨3, Sf.oth "return" 0 [ud]⟩] := ht
            simp only [List.mem_cons, List.not_mem_nil, or_false] at ht
            rcases ht with rfl | rfl | rfl | rfl
            · exact ⟨.inl tmC9, hcd.symm, kkC9⟩
            · exact .inr (.inr (.inr (.inr ⟨rfl, tmT8, by rw [htd], kkT8⟩)))
            · exact .inr (.inr (.inr (.inl ⟨rfl, rfl⟩)))
            · exact .inr (.inr (.inr (.inr ⟨rfl, tmT9, by rw [hud], kkT9⟩)))
          exact ⟨_, Sf.iff 0 cd [(Sf.oth "return" 0 [td] : Sf (BD 3))] [(Sf.oth "skip" 0 [] : Sf (BD 3)), (Sf.oth "return" 0 [ud] : Sf (BD 3))], _, rfl, B, m, st, .tup (SqT.of eI5) (.cons (.str _) (.cons (.int _) (.cons dcd (.cons dI1 (.cons dI4 .nil))))), ⟨ncd, fun s hs => by rw [List.mem_singleton.mp hs]; exact kR1, okO⟩, .inr ⟨_, _, _, _, _, _, _, rfl⟩, fun t ht => at9 t ht, by show 4 ≤ 10; decide⟩
        · exact ⟨_, Sf.oth "return" 0 [td], _, rfl, B, m, st, dR1, kR1, .inl ⟨_, _, rfl⟩, fun t ht => (by rcases ht with _ | ⟨_, ht⟩ <;> first | exact .inr (.inr (.inr (.inr ⟨rfl, tmT8, by rw [htd], kkT8⟩))) | cases ht), by show 1 ≤ 10; decide⟩
      obtain ⟨v19, sl, x19, rfl, B9, m9, st9, d19, k19, e19, a19, l19⟩ := hM
      have Mx := m9
      replace lt := dp_tups Mx _ _ (ltE_noL _) lt
      replace tvNN := tvNN.m Mx
      replace tvGG := tvGG.m Mx
      replace db := dp_tups Mx _ _ (noL_blk okb) db
      replace m := fun b xs e => Mx b xs (m b xs e)
      replace B := B.trans (B9)
      replace st := st9
      clear Mx
      have zz := z.m4 zi.ok B m (a := ⟨C, L1, Nb, KD, CN, MV, Ar⟩) rfl st.hd st.cx.r nAr' nCH nKDH qAp qpr cAp kAp qAk qkr cAk kAk
      obtain ⟨pp, ep, dp⟩ := zz.p
      have hppl : pp.length = i := by rw [dp.len, hcl]
      refine ⟨_, rfl, .inl ⟨rfl, _, SqL.of ep⟩, _, rfl, _, rfl, _, _, rfl, rfl, N, _, _, _, rfl, rfl, SqL.of (B _ _ hNh kNr cN kN eN), nnm, _, rfl, PA, _, rfl, .inl ⟨SqL.of (B _ _ qPA qPAr cPA kPA ePA), fun TQ nTQ => ?_⟩⟩
      generalize hGTQ : upd J20 TQ _ = M46
      obtain ⟨sTQ, eTQ⟩ := new_of nTQ hGTQ
      have dTQ : Dp K M46 (.ref TQ) (psE ps) := .tup (SqT.of eTQ) (dpa_same sTQ _ _ (dpa_tups m _ _ (encP_noL _) dPA))
      replace zz := zz.same sTQ
      have Mx := same_m (K := K) sTQ
      replace lt := dp_tups Mx _ _ (ltE_noL _) lt
      replace tvNN := tvNN.m Mx
      replace tvGG := tvGG.m Mx
      replace db := dp_tups Mx _ _ (noL_blk okb) db
      replace d19 := dp_tups Mx _ _ (noL_sf (noL_D 4) (p := okD 4) k19) d19
      replace m := fun b xs e => Mx b xs (m b xs e)
      replace B := B.trans (B4.same sTQ)
      replace st := st.same sTQ
      clear Mx
      refine ⟨_, rfl, _, rfl, _, rfl, _, rfl, _, rfl, _, rfl, _, rfl, by show 1 ≤ sizeLine; decide, fun tY1 nY1 => ?_⟩
      generalize hGY1 : upd M46 tY1 _ = M47
      obtain ⟨sY1, eY1⟩ := new_of nY1 hGY1
      have Mx := same_m (K := K) sY1
      replace lt := dp_tups Mx _ _ (ltE_noL _) lt
      replace tvNN := tvNN.m Mx
      replace tvGG := tvGG.m Mx
      replace db := dp_tups Mx _ _ (noL_blk okb) db
      replace d19 := dp_tups Mx _ _ (noL_sf (noL_D 4) (p := okD 4) k19) d19
      replace dTQ := dp_tups Mx _ _ (psE_nl _) dTQ
      replace m := fun b xs e => Mx b xs (m b xs e)
      replace B := B.trans (B4.same sY1)
      replace st := st.same sY1
      clear Mx
      replace zz := zz.same sY1
      obtain ⟨tb0, yb0, rfl, hb0, db0⟩ := dp_tup_inv db
      have hyb : yb0.length ≤ 5 := by
        rw [dpa_len db0, List.length_map]
        omega
      refine ⟨tb0, tY1, _, _, rfl, rfl, hb0, SqT.of eY1, sz5 (by show yb0.length + 1 ≤ 100000; omega), fun pY M48 sY hY => ?_⟩
      replace zz := zz.same sY
      replace db0 := dpa_same sY _ _ db0
      have Mx := same_m (K := K) sY
      replace lt := dp_tups Mx _ _ (ltE_noL _) lt
      replace tvNN := tvNN.m Mx
      replace tvGG := tvGG.m Mx
      replace d19 := dp_tups Mx _ _ (noL_sf (noL_D 4) (p := okD 4) k19) d19
      replace dTQ := dp_tups Mx _ _ (psE_nl _) dTQ
      replace m := fun b xs e => Mx b xs (m b xs e)
      replace B := B.trans (B4.same sY)
      replace st := st.same sY
      clear Mx
      have okB : ∀ s, s ∈ bs ++ [(show BD 5 from sl)] → okD 5 s := fun s hs => by
        rcases List.mem_append.mp hs with hs | hs
        · exact okb s hs
        · rw [List.mem_singleton.mp hs]
          exact k19
      have dB : Dp K M48 (.ref pY) (blkE 5 (bs ++ [(show BD 5 from sl)])) := by
        refine .tup hY ?_
        rw [List.map_append]
        exact dpa_snoc db0 d19
      refine ⟨by show 8 ≤ sizeLine; decide, fun tY8 nY8 => ?_⟩
      generalize hGY8 : upd M48 tY8 _ = M49
      obtain ⟨sY8, eY8⟩ := new_of nY8 hGY8
      have Mx := same_m (K := K) sY8
      replace lt := dp_tups Mx _ _ (ltE_noL _) lt
      replace tvNN := tvNN.m Mx
      replace tvGG := tvGG.m Mx
      replace dTQ := dp_tups Mx _ _ (psE_nl _) dTQ
      replace dB := dp_tups Mx _ _ (noL_blk okB) dB
      replace m := fun b xs e => Mx b xs (m b xs e)
      replace B := B.trans (B4.same sY8)
      replace st := st.same sY8
      clear Mx
      replace zz := zz.same sY8
      obtain ⟨pp, ep, dp⟩ := zz.p
      have hppl : pp.length = i := by rw [dp.len, hcl]
      have flB : flatB 5 (bs ++ [(show BD 5 from sl)]) = flatB 5 bs ++ flatD 5 (show BD 5 from sl) := flatB_snoc _ _ _
      have new : PqAt K M49 (.ref tY8) (⟨C, nmk, ps, mvs, [(0, c5, tmT1), (0, c6, tm2)], bs ++ [(show BD 5 from sl)]⟩ : Pc) := ⟨tY8, _, _, _, _, v13, _, _, rfl, SqT.of eY8, dTQ, tvNN, tvGG, .tup (m _ _ hTM) (dpa_strs mvs), lt, dB⟩
      have cok : (⟨C, nmk, ps, mvs, [(0, c5, tmT1), (0, c6, tm2)], bs ++ [(show BD 5 from sl)]⟩ : Pc).ok := ⟨by show ps.length ≤ 100; omega, by show mvs.length ≤ 10; omega, by show 2 ≤ 10; decide, okB, by
        show (flatB 5 (bs ++ [(show BD 5 from sl)])).length ≤ 900
        rw [flB, List.length_append]
        have e4 : szD 4 = 121 := rfl
        have flb5 : (flatB 5 bs).length ≤ (1 + rB1).toNat * szD 4 := flb
        rw [e4] at flb5
        have : (1 + rB1).toNat ≤ 5 := by omega
        omega⟩
      refine ⟨Ap, _, _, rfl, rfl, ep, small_sz5 (by omega), ?_⟩
      generalize hGAp : upd M49 Ap _ = M50
      have mA := but_m (K := K) ep (G := M50) (fun b o hb e => by rw [← hGAp]; exact (upd_ne hb).trans e)
      have kA : ∀ b o, b ≠ Ap → M49 b = some o → M50 b = some o := fun b o hb e => by rw [← hGAp]; exact (upd_ne hb).trans e
      have eAp : M50 Ap = some (.lst (pp ++ [.ref tY8])) := by rw [← hGAp]; exact upd_same
      have bA : But h H M50 := by rw [← hGAp]; exact zz.b.new nAp
      have hdA : Hand M50 h d ds := by rw [← hGAp]; exact zz.hd.upd qAp (ne_of_none hd.ds_ nAp).symm
      have erA := kA _ _ qpr.symm zz.r
      obtain ⟨kk, ekk, dkk⟩ := zz.k
      have hkkl : kk.length = i := by rw [dpa_len dkk, List.length_map, hkl]
      replace ekk := kA _ _ qpk.symm ekk
      replace dkk := dpa_tups mA _ _ (kns_noL _) dkk
      have pqA : PqsAt K M50 (pp ++ [.ref tY8]) (cs ++ [(⟨C, nmk, ps, mvs, [(0, c5, tmT1), (0, c6, tm2)], bs ++ [(show BD 5 from sl)]⟩ : Pc)]) := by
        have d1 := dp.m mA fun c hc => (zi.ok c hc).body
        have d2 := new.m mA okB
        refine ⟨by rw [List.length_append, List.length_append, dp.len]; rfl, fun j u k hu hk => ?_⟩
        by_cases hj : j < pp.length
        · rw [List.getElem?_append_left hj] at hu
          rw [List.getElem?_append_left (by rw [← dp.len]; exact hj)] at hk
          exact d1.at_ j u k hu hk
        · have hj2 : j = pp.length := by
            have := (List.getElem?_eq_some_iff.mp hu).1
            rw [List.length_append] at this
            have : j < pp.length + 1 := this
            omega
          rw [hj2, List.getElem?_append_right (Nat.le_refl _), Nat.sub_self] at hu
          rw [hj2, dp.len, List.getElem?_append_right (Nat.le_refl _), Nat.sub_self] at hk
          cases hu
          cases hk
          exact d2
      have eNA : M50 N = some (.lst (ns.map V.str)) := bA _ _ hNh hN
      have ePAA := kA _ _ pPA (B _ _ qPA qPAr cPA kPA ePA)
      have dPAA := dpa_tups mA _ _ (encP_noL _) (dpa_tups m _ _ (encP_noL _) dPA)
      have hTMA := mA _ _ (m _ _ hTM)
      refine ⟨_, rfl, .inl ⟨rfl, _, SqL.of ekk⟩, _, rfl, _, rfl, _, _, rfl, rfl, N, _, _, _, rfl, rfl, SqL.of eNA, nnm, _, rfl, PA, _, rfl, .inl ⟨SqL.of ePAA, fun TR nTR => ?_⟩⟩
      generalize hGTR : upd M50 TR _ = M51
      obtain ⟨sTR, eTR⟩ := new_of nTR hGTR
      refine ⟨_, rfl, by show 3 ≤ sizeLine; decide, fun tZ nZ => ?_⟩
      generalize hGZ : upd M51 tZ _ = M52
      obtain ⟨sZ, eZ⟩ := new_of nZ hGZ
      have sTZ := sTR.trans sZ
      have dZ : Dp K M52 (.ref tZ) (Kn.enc ⟨nmk, ps, mvs⟩) := .tup (SqT.of eZ) (.cons (.str _) (.cons (.tup (SqT.of (sZ _ _ eTR)) (dpa_same sTZ _ _ dPAA)) (.cons (.tup (sqt_same sTZ hTMA) (dpa_strs mvs)) .nil)))
      replace ekk := sTZ _ _ ekk
      replace dkk := dpa_same sTZ _ _ dkk
      refine ⟨Ak, _, _, rfl, rfl, ekk, small_sz5 (by omega), ?_⟩
      have mK := but_m (K := K) ekk (G := upd M52 Ak (.lst (kk ++ [.ref tZ]))) (fun b o hb e => (upd_ne hb).trans e)
      refine ⟨_, _, _, _, _, _, _, _, _, _, _, _, _, _, cs ++ [(⟨C, nmk, ps, mvs, [(0, c5, tmT1), (0, c6, tm2)], bs ++ [(show BD 5 from sl)]⟩ : Pc)], kn ++ [⟨nmk, ps, mvs⟩], _, rfl, ⟨(bA.trans (Same.but sTZ)).new nAk', (hdA.same sTZ).upd qAk (ne_of_none hd.ds_ nAk').symm, ⟨_, (upd_ne qpk).trans (sTZ _ _ eAp), (pqA.same sTZ).m mK fun c hc => ?_⟩, ⟨_, upd_same, ?_⟩, (upd_ne qkr.symm).trans (sTZ _ _ erA)⟩, ?_⟩
      · rcases List.mem_append.mp hc with hc | hc
        · exact (zi.ok c hc).body
        · rw [List.mem_singleton.mp hc]
          exact okB
      · rw [List.map_append]
        exact dpa_snoc (dpa_tups mK _ _ (kns_noL _) dkk) (dp_tups mK _ _ (Kn.noL _) dZ)
      · have hvs : ∀ y, y ∈ ({ x' with ns := ms ++ [c5, c6], b := true } : Cd).vs → y ∈ c5 :: c6 :: numN ps := fun y hy => by
          have hy : y ∈ x'.c5 :: x'.c6 :: (ms ++ [c5, c6]) := hy
          rw [hx5, hx6] at hy
          simp only [List.mem_cons, List.mem_append, List.not_mem_nil, or_false] at hy ⊢
          rcases hy with hy | hy | hy | hy | hy
          · exact .inl hy
          · exact .inr (.inl hy)
          · exact .inr (.inr ((hpo.num y).mpr hy))
          · exact .inl hy
          · exact .inr (.inl hy)
        refine zi.next hi3 cok hnm hpo.nd (by show ps.length ≤ 10; omega) ⟨⟨c5, c6, tmT1, tm2, 0, 0, rfl, Tm.mono kT1 (fun y hy => (hpo.num y).mpr hy) (fun y hy => (hpo.mem y).mpr hy), Tm.mono k7 (fun y hy => ?_) (fun y hy => (hpo.mem y).mpr hy), fun t ht => ?_⟩, bs, sl, rfl, e19⟩
        · rcases List.mem_cons.mp hy with hy | hy
          · rw [hy]
            exact List.mem_cons_self
          · exact List.mem_cons_of_mem _ ((hpo.num y).mpr hy)
        · have hat : AtS { x' with ns := ms ++ [c5, c6], b := true } t.s := by
            rw [flB] at ht
            rcases List.mem_append.mp ht with ht | ht
            · exact atb t ht
            · exact a19 t ht
          have hat : TyS _ x'.ls x'.mv x'.kn t.s := hat
          rw [hxm] at hat
          refine TyS.mono hat hvs (fun y hy => (hpo.mem y).mpr (by rw [← hxl]; exact hy)) (fun k hk => ?_)
          rcases hxk with e | e
          · rw [e] at hk
            exact List.mem_append_left _ hk
          · rw [e] at hk
            exact hk
    · obtain ⟨y6, y7, y8, y9, y10, y11, y12, y13, y14, y15, y16, y17, y18, y19, cs, kn, r, rfl, z, zi⟩ := hP
      obtain ⟨ps, e1, e2⟩ := z.p
      exact ⟨_, rfl, q Ap ps cs kn _ J z.b z.hd e1 e2 (by omega) zi⟩
end
end SW

namespace SW
open PySem PySem.Spec PyProof.Rows L2
/-! ### a list's item read for an augmented store; dict(zip(a, b)) -/
section
variable {X : Cx}
def rGetL (K : PySem.W.Frag) : V → V → Hp → VK → Prop := fun o i H Q => ∃ (p : Addr) (xs : List V) (j : Nat) (v : V), o = .ref p ∧ i = .int (j : Int) ∧ SqL K H p xs ∧ xs[j]? = some v ∧ Q v H
theorem get_list : PGet X (rGetL X.K) := by
  intro pins s σ H o i ov iv Q I ro ri h
  obtain ⟨p, xs, j, v, rfl, rfl, hq, hv, q⟩ := h
  cases ro
  obtain ⟨t, rfl⟩ := ri
  obtain ⟨its, r, pl, hz⟩ := I.list hq
  obtain ⟨w, ew, rw'⟩ := r.get hv
  have hl := r.length
  have hn := line63
  have hj : j < xs.length := (List.getElem?_eq_some_iff.mp hv).1
  exact wpAny_getItem_list pl.isList (by omega) (by omega) (by rw [Int.toNat_natCast]; simpa using ew) ⟨v, H, I, rw', q⟩
def tDictZip (K : PySem.W.Frag) (ta : TA) : TE := fun σ H Q => ta σ H fun vs H1 => ∃ (a b : Addr) (ks : List Key) (ys : List V), vs = [.ref a, .ref b] ∧ SqL K H1 a (ks.map kV) ∧ SqL K H1 b ys ∧ ks.length = ys.length ∧
  ∀ p, H1 p = none → Q (.ref p) (upd H1 p (.dK (mergeK [] (ks.zip ys))))
theorem kv_zip : ∀ (ks : List Key) (ys : List V) (us : List Value), Vals ys us → KV (ks.zip ys) (ks.zip us)
  | [], _, _, _ => by simp only [List.zip_nil_left]; exact .nil
  | k :: ks, _, _, .nil => by simp only [List.zip_nil_right]; exact .nil
  | k :: ks, _, _, .cons h t => by
    simp only [List.zip_cons_cons]
    exact .cons ⟨rfl, h⟩ (kv_zip ks _ _ t)
theorem pe_dictZip (hcalm : X.calm = true) {e e2 : Expr} {ta : TA} {p p2 pos pos2 : Pos} (hg : Gl X "dict") (hm : X.mg "dict" = none) (hg2 : Gl X "zip") (hm2 : X.mg "zip" = none) (ha : PA X [e, e2] ta)
    (hs : starEach [e, e2] X.env = (false, eval e X.env) :: starEach [e2] X.env := by rfl) (hpl : (backTo pos2 (starEach [e2] X.env)).any (·.1) = false := by rfl)
    (hz : starEach [.Call (.Name "zip" p2) [e, e2] [] pos2] X.env = (false, eval (.Call (.Name "zip" p2) [e, e2] [] pos2) X.env) :: starEach [] X.env := by rfl) :
    PE X (.Call (.Name "dict" p) [.Call (.Name "zip" p2) [e, e2] [] pos2] [] pos) (tDictZip X.K ta) := by
  refine ⟨fun pins s σ H Q I h => ?_⟩
  refine Call_ (ld_blt I hg hm PyProof.Rows.boot_dict (PyProof.Rows.callWith_type1 (args_cons ?_ hz) hz))
  refine Call_ (ld_blt I hg2 hm2 PyProof.Rows.boot_zip (PyProof.Rows.callWith_type1 (thn (ha.run pos2 pins s σ H _ I h) fun us s1 ⟨vs, H1, I1, r1, q1⟩ => ?_) hs hpl))
  obtain ⟨a, b, ks, ys, rfl, hqx, hqy, hlen, q⟩ := q1
  cases r1 with
  | cons r rr =>
    cases rr with
    | cons r' rr =>
      cases rr
      cases r
      cases r'
      obtain ⟨its, rv, p1, hz1⟩ := I1.list hqx
      obtain ⟨its2, rv2, p2', hz2⟩ := I1.list hqy
      refine call_zip_2 p1.isList p2'.isList fun h' hz' hTI hTO h1 h2 hsz hk => ?_
      refine args_nil ?_
      have la : a < s1.heap.objs.size := by
        obtain ⟨o, ho, _⟩ := p1.isList
        exact Heap.lt_size ho
      have lb : b < s1.heap.objs.size := by
        obtain ⟨o, ho, _⟩ := p2'.isList
        exact Heap.lt_size ho
      have D : ZipApart (s1.heap.objs.size + 4) (s1.heap.objs.size + 2) (s1.heap.objs.size + 3) s1.heap.objs.size (s1.heap.objs.size + 1) a b := by
        constructor <;> first | exact Nat.ne_of_lt (by omega) | exact Nat.ne_of_gt (by omega) | exact Nat.ne_of_lt la | exact Nat.ne_of_lt lb | exact Nat.ne_of_lt (Nat.lt_add_right _ la) | exact Nat.ne_of_lt (Nat.lt_add_right _ lb)
      have I2 : Inv X pins σ H1 { s1 with heap := h' } := I1.kept (t' := s1.toks) hk
      have hl1 := rv.length
      have hl2 := rv2.length
      rw [List.length_map] at hl1
      have hzl : (ks.zip its2).length = ks.length := by rw [List.length_zip]; omega
      refine call_dict_pairs (s := { s1 with heap := h' }) (knd := mixKind X.prog X.w) (kvs := ks.zip its2) (PairArg.zip (prog := X.prog) (w := X.w) _ _ _ _ _ a b D its.toArray its2.toArray) (I2.ok.hd hcalm)
        ⟨hz', hTI, ⟨_, _, hTO⟩, h1, h2, p1.isList.at fun o e => hk _ _ e, p2'.isList.at fun o e => hk _ _ e⟩ ⟨?_, fun i key v he => ?_⟩ ?_ fun h'' tk hd' k => ?_
      · rw [hzl, List.size_toArray, List.size_toArray]
        omega
      · obtain ⟨g1, g2⟩ := he
        have g1 : its[i]? = some key := by simpa using g1
        have g2 : its2[i]? = some v := by simpa using g2
        have hi : i < ks.length := by
          have := (List.getElem?_eq_some_iff.mp g1).1
          omega
        refine ⟨ks[i], ?_, ?_⟩
        · rw [List.getElem?_zip_eq_some]
          exact ⟨List.getElem?_eq_getElem hi, g2⟩
        · obtain ⟨u, eu, ru⟩ := rv.get (i := i) (x := kV ks[i]) (by rw [List.getElem?_map, List.getElem?_eq_getElem hi]; rfl)
          rw [g1] at eu
          cases eu
          exact kV_is (P := X.prog) (w := X.w) ru
      · rw [List.size_toArray, List.size_toArray]
        omega
      · have rel := kv_zip ks ys its2 rv2
        have kk : ∀ c o, s1.heap.get? c = some o → h''.get? c = some o := fun c o e => k c o (fun hm => by
          have hc : c < s1.heap.objs.size := Heap.lt_size e
          simp only [List.mem_cons, List.not_mem_nil, or_false] at hm
          have hc' : ∀ n : Nat, ¬ s1.heap.objs.size + n < s1.heap.objs.size := fun n => by omega
          rcases hm with rfl | rfl | rfl | rfl
          · exact hc' 4 hc
          · exact hc' 3 hc
          · exact hc' 0 hc
          · exact hc' 1 hc) (hk _ _ e)
        have hm : (h'.objs.size == sysModules) = false := beq_eq_false_iff_ne.mpr (Nat.ne_of_gt I2.big)
        have hlen2 : (mergeK [] (ks.zip ys)).length ≤ sizeLine := by
          refine Nat.le_trans (length_mergeK _ []) ?_
          rw [List.length_nil, Nat.zero_add, rel.length, hzl]
          omega
        have hge : s1.heap.objs.size ≤ h'.objs.size := by omega
        exact ⟨.ref h'.objs.size, upd H1 h'.objs.size (.dK (mergeK [] (ks.zip ys))), I1.laid (t' := tk) kk hge (show ObjOk X.prog X.w _ _ _ (.dK (mergeK [] (ks.zip ys))) from ⟨hlen2, hm, merged [] (ks.zip its2), KV.merge rel .nil, hd'⟩), rfl, q _ (I1.hok.fresh hge)⟩
end
end SW

namespace SW
open PySem PySem.Spec PyProof.Rows L2
/-! ### the classes of the machine (printed by K11MA.py) -/
abbrev s_State : Stmt := inClass (topS 6) 0
theorem sc_State : FnScope ["self", "numbers", "lists", "old"] ["self", "numbers", "lists", "old"] (defScope s_State) := ⟨rfl, rfl, rfl, by decide +kernel, rfl, by decide +kernel, by decide +kernel⟩
abbrev s_Run : Stmt := inClass (topS 11) 0
theorem sc_Run : FnScope ["self", "outcome", "lists", "turns"] ["self", "outcome", "lists", "turns"] (defScope s_Run) := ⟨rfl, rfl, rfl, by decide +kernel, rfl, by decide +kernel, by decide +kernel⟩
abbrev s_Place : Stmt := inClass (topS 12) 0
theorem sc_Place : FnScope ["self", "block"] ["self", "block"] (defScope s_Place) := ⟨rfl, rfl, rfl, by decide +kernel, rfl, by decide +kernel, by decide +kernel⟩
abbrev s_Machine : Stmt := inClass (topS 14) 0
theorem sc_Machine : FnScope ["self", "program", "choices", "steps"] ["self", "program", "choices", "steps"] (defScope s_Machine) := ⟨rfl, rfl, rfl, by decide +kernel, rfl, by decide +kernel, by decide +kernel⟩
abbrev s_Frame : Stmt := inClass (topS 13) 0
theorem sc_Frame : FnScope ["self", "state", "target", "body"] ["self", "state", "target", "body"] (defScope s_Frame) := ⟨rfl, rfl, rfl, by decide +kernel, rfl, by decide +kernel, by decide +kernel⟩
structure TxM (K : PySem.W.Frag) (mg : PySem.Str → Option Value) (CP CG p g CS CU CL CF CM : Addr) : Prop extends TxQ K mg CP CG p g where
  cState : Cls K CS
  nState_numbers : NoAttr K CS "numbers"
  nState_lists : NoAttr K CS "lists"
  nState_old : NoAttr K CS "old"
  mg_State : mg "State" = some (.ref CS)
  cRun : Cls K CU
  nRun_outcome : NoAttr K CU "outcome"
  nRun_lists : NoAttr K CU "lists"
  nRun_turns : NoAttr K CU "turns"
  mg_Run : mg "Run" = some (.ref CU)
  cPlace : Cls K CL
  nPlace_block : NoAttr K CL "block"
  nPlace_at : NoAttr K CL "at"
  nPlace_loop : NoAttr K CL "loop"
  mg_Place : mg "Place" = some (.ref CL)
  cFrame : Cls K CF
  nFrame_state : NoAttr K CF "state"
  nFrame_target : NoAttr K CF "target"
  nFrame_places : NoAttr K CF "places"
  mg_Frame : mg "Frame" = some (.ref CF)
  cMachine : Cls K CM
  nMachine_program : NoAttr K CM "program"
  nMachine_choices : NoAttr K CM "choices"
  nMachine_chosen : NoAttr K CM "chosen"
  nMachine_steps : NoAttr K CM "steps"
  nMachine_frames : NoAttr K CM "frames"
  nMachine_turns : NoAttr K CM "turns"
  nMachine_outcome : NoAttr K CM "outcome"
  mg_Machine : mg "Machine" = some (.ref CM)
def stF (v0 v1 v2 : V) : List (PySem.Str × V) := putF "old" v2 (putF "lists" v1 (putF "numbers" v0 []))
def ruF (v0 v1 v2 : V) : List (PySem.Str × V) := putF "turns" v2 (putF "lists" v1 (putF "outcome" v0 []))
def plF (v0 v1 v2 : V) : List (PySem.Str × V) := putF "loop" v2 (putF "at" v1 (putF "block" v0 []))
def frF (v0 v1 v2 : V) : List (PySem.Str × V) := putF "places" v2 (putF "target" v1 (putF "state" v0 []))
def maF (v0 v1 v2 v3 v4 v5 v6 : V) : List (PySem.Str × V) := putF "outcome" v6 (putF "turns" v5 (putF "frames" v4 (putF "steps" v3 (putF "chosen" v2 (putF "choices" v1 (putF "program" v0 []))))))
theorem stF_numbers (v0 v1 v2 : V) : (stF v0 v1 v2).lookup ("numbers" : PySem.Str) = some v0 := by
  unfold stF
  simp only [lookup_putF]
  rw [if_neg (by decide +kernel), if_neg (by decide +kernel), if_pos trivial]
theorem stF_lists (v0 v1 v2 : V) : (stF v0 v1 v2).lookup ("lists" : PySem.Str) = some v1 := by
  unfold stF
  simp only [lookup_putF]
  rw [if_neg (by decide +kernel), if_pos trivial]
theorem stF_old (v0 v1 v2 : V) : (stF v0 v1 v2).lookup ("old" : PySem.Str) = some v2 := by
  unfold stF
  simp only [lookup_putF]
  rw [if_pos trivial]
theorem ruF_outcome (v0 v1 v2 : V) : (ruF v0 v1 v2).lookup ("outcome" : PySem.Str) = some v0 := by
  unfold ruF
  simp only [lookup_putF]
  rw [if_neg (by decide +kernel), if_neg (by decide +kernel), if_pos trivial]
theorem ruF_lists (v0 v1 v2 : V) : (ruF v0 v1 v2).lookup ("lists" : PySem.Str) = some v1 := by
  unfold ruF
  simp only [lookup_putF]
  rw [if_neg (by decide +kernel), if_pos trivial]
theorem ruF_turns (v0 v1 v2 : V) : (ruF v0 v1 v2).lookup ("turns" : PySem.Str) = some v2 := by
  unfold ruF
  simp only [lookup_putF]
  rw [if_pos trivial]
theorem plF_block (v0 v1 v2 : V) : (plF v0 v1 v2).lookup ("block" : PySem.Str) = some v0 := by
  unfold plF
  simp only [lookup_putF]
  rw [if_neg (by decide +kernel), if_neg (by decide +kernel), if_pos trivial]
theorem plF_at (v0 v1 v2 : V) : (plF v0 v1 v2).lookup ("at" : PySem.Str) = some v1 := by
  unfold plF
  simp only [lookup_putF]
  rw [if_neg (by decide +kernel), if_pos trivial]
theorem plF_loop (v0 v1 v2 : V) : (plF v0 v1 v2).lookup ("loop" : PySem.Str) = some v2 := by
  unfold plF
  simp only [lookup_putF]
  rw [if_pos trivial]
theorem frF_state (v0 v1 v2 : V) : (frF v0 v1 v2).lookup ("state" : PySem.Str) = some v0 := by
  unfold frF
  simp only [lookup_putF]
  rw [if_neg (by decide +kernel), if_neg (by decide +kernel), if_pos trivial]
theorem frF_target (v0 v1 v2 : V) : (frF v0 v1 v2).lookup ("target" : PySem.Str) = some v1 := by
  unfold frF
  simp only [lookup_putF]
  rw [if_neg (by decide +kernel), if_pos trivial]
theorem frF_places (v0 v1 v2 : V) : (frF v0 v1 v2).lookup ("places" : PySem.Str) = some v2 := by
  unfold frF
  simp only [lookup_putF]
  rw [if_pos trivial]
theorem maF_program (v0 v1 v2 v3 v4 v5 v6 : V) : (maF v0 v1 v2 v3 v4 v5 v6).lookup ("program" : PySem.Str) = some v0 := by
  unfold maF
  simp only [lookup_putF]
  rw [if_neg (by decide +kernel), if_neg (by decide +kernel), if_neg (by decide +kernel), if_neg (by decide +kernel), if_neg (by decide +kernel), if_neg (by decide +kernel), if_pos trivial]
theorem maF_choices (v0 v1 v2 v3 v4 v5 v6 : V) : (maF v0 v1 v2 v3 v4 v5 v6).lookup ("choices" : PySem.Str) = some v1 := by
  unfold maF
  simp only [lookup_putF]
  rw [if_neg (by decide +kernel), if_neg (by decide +kernel), if_neg (by decide +kernel), if_neg (by decide +kernel), if_neg (by decide +kernel), if_pos trivial]
theorem maF_chosen (v0 v1 v2 v3 v4 v5 v6 : V) : (maF v0 v1 v2 v3 v4 v5 v6).lookup ("chosen" : PySem.Str) = some v2 := by
  unfold maF
  simp only [lookup_putF]
  rw [if_neg (by decide +kernel), if_neg (by decide +kernel), if_neg (by decide +kernel), if_neg (by decide +kernel), if_pos trivial]
theorem maF_steps (v0 v1 v2 v3 v4 v5 v6 : V) : (maF v0 v1 v2 v3 v4 v5 v6).lookup ("steps" : PySem.Str) = some v3 := by
  unfold maF
  simp only [lookup_putF]
  rw [if_neg (by decide +kernel), if_neg (by decide +kernel), if_neg (by decide +kernel), if_pos trivial]
theorem maF_frames (v0 v1 v2 v3 v4 v5 v6 : V) : (maF v0 v1 v2 v3 v4 v5 v6).lookup ("frames" : PySem.Str) = some v4 := by
  unfold maF
  simp only [lookup_putF]
  rw [if_neg (by decide +kernel), if_neg (by decide +kernel), if_pos trivial]
theorem maF_turns (v0 v1 v2 v3 v4 v5 v6 : V) : (maF v0 v1 v2 v3 v4 v5 v6).lookup ("turns" : PySem.Str) = some v5 := by
  unfold maF
  simp only [lookup_putF]
  rw [if_neg (by decide +kernel), if_pos trivial]
theorem maF_outcome (v0 v1 v2 v3 v4 v5 v6 : V) : (maF v0 v1 v2 v3 v4 v5 v6).lookup ("outcome" : PySem.Str) = some v6 := by
  unfold maF
  simp only [lookup_putF]
  rw [if_pos trivial]
section
variable {P : Program} {w : World} {K : PySem.W.Frag} {mg : PySem.Str → Option Value} {base : Heap} {CP CG pp gg CS CU CL CF CM : Addr}
def spState (CS : Addr) : Sp := fun vs H Q _ => ∃ (p dx : Addr) (v0 v1 v2 : V), vs = [.ref p, v0, v1, v2] ∧ H p = some (.ins CS dx []) ∧ ∀ H', (∀ b o, b ≠ p → H b = some o → H' b = some o) → H' p = some (.ins CS dx (stF v0 v1 v2)) → Q .non H'
theorem ok_State {f : Addr} {fd : FuncData} (F : Fun K "__init__" "State.__init__" s_State f fd) (T : TxM K mg CP CG pp gg CS CU CL CF CM) : FnOk P w K mg base CX0 1 f fd ["self", "numbers", "lists", "old"] (spState CS) := by
  refine F.ok sc_State (fun vs H Q E h => ?_) (fun cdv A outer s H vs Q E hr h => ?_)
  · obtain ⟨p, dx, v0, v1, v2, rfl, _⟩ := h
    rfl
  · obtain ⟨p, dx, v0, v1, v2, rfl, hp, q⟩ := h
    refine ⟨_, (pss_cons (ps_fld (pv 0) (pv 1) rfl)
      (pss_cons (ps_fld (pv 0) (pv 2) rfl)
      (pss_one (ps_fld (pv 0) (pv 3) rfl)))), ?_⟩
    have c0 : ([] : List (PySem.Str × V)).length ≤ 0 := Nat.le_refl _
    have k0 : ∀ b y, b ≠ p → H b = some y → H b = some y := fun b y _ e => e
    have e0 := hp
    refine ⟨_, rfl, _, rfl, p, CS, dx, _, rfl, e0, T.cState, T.nState_numbers, Nat.lt_of_le_of_lt (c0) (by decide), ?_⟩
    have k1 : ∀ b y, b ≠ p → H b = some y → upd H p (.ins CS dx (putF "numbers" v0 [])) b = some y := fun b y hb e => (upd_ne hb).trans (k0 b y hb e)
    have e1 : upd H p (.ins CS dx (putF "numbers" v0 [])) p = some (.ins CS dx (putF "numbers" v0 [])) := upd_same
    generalize upd H p (.ins CS dx (putF "numbers" v0 [])) = G1 at k1 e1
    refine ⟨_, rfl, _, rfl, p, CS, dx, _, rfl, e1, T.cState, T.nState_lists, Nat.lt_of_le_of_lt (pl_len c0) (by decide), ?_⟩
    have k2 : ∀ b y, b ≠ p → H b = some y → upd G1 p (.ins CS dx (putF "lists" v1 (putF "numbers" v0 []))) b = some y := fun b y hb e => (upd_ne hb).trans (k1 b y hb e)
    have e2 : upd G1 p (.ins CS dx (putF "lists" v1 (putF "numbers" v0 []))) p = some (.ins CS dx (putF "lists" v1 (putF "numbers" v0 []))) := upd_same
    generalize upd G1 p (.ins CS dx (putF "lists" v1 (putF "numbers" v0 []))) = G2 at k2 e2
    refine ⟨_, rfl, _, rfl, p, CS, dx, _, rfl, e2, T.cState, T.nState_old, Nat.lt_of_le_of_lt (pl_len (pl_len c0)) (by decide), ?_⟩
    exact q _ (fun b y hb e => (upd_ne hb).trans (k2 b y hb e)) upd_same
def spRun (CU : Addr) : Sp := fun vs H Q _ => ∃ (p dx : Addr) (v0 v1 v2 : V), vs = [.ref p, v0, v1, v2] ∧ H p = some (.ins CU dx []) ∧ ∀ H', (∀ b o, b ≠ p → H b = some o → H' b = some o) → H' p = some (.ins CU dx (ruF v0 v1 v2)) → Q .non H'
theorem ok_Run {f : Addr} {fd : FuncData} (F : Fun K "__init__" "Run.__init__" s_Run f fd) (T : TxM K mg CP CG pp gg CS CU CL CF CM) : FnOk P w K mg base CX0 1 f fd ["self", "outcome", "lists", "turns"] (spRun CU) := by
  refine F.ok sc_Run (fun vs H Q E h => ?_) (fun cdv A outer s H vs Q E hr h => ?_)
  · obtain ⟨p, dx, v0, v1, v2, rfl, _⟩ := h
    rfl
  · obtain ⟨p, dx, v0, v1, v2, rfl, hp, q⟩ := h
    refine ⟨_, (pss_cons (ps_fld (pv 0) (pv 1) rfl)
      (pss_cons (ps_fld (pv 0) (pv 2) rfl)
      (pss_one (ps_fld (pv 0) (pv 3) rfl)))), ?_⟩
    have c0 : ([] : List (PySem.Str × V)).length ≤ 0 := Nat.le_refl _
    have k0 : ∀ b y, b ≠ p → H b = some y → H b = some y := fun b y _ e => e
    have e0 := hp
    refine ⟨_, rfl, _, rfl, p, CU, dx, _, rfl, e0, T.cRun, T.nRun_outcome, Nat.lt_of_le_of_lt (c0) (by decide), ?_⟩
    have k1 : ∀ b y, b ≠ p → H b = some y → upd H p (.ins CU dx (putF "outcome" v0 [])) b = some y := fun b y hb e => (upd_ne hb).trans (k0 b y hb e)
    have e1 : upd H p (.ins CU dx (putF "outcome" v0 [])) p = some (.ins CU dx (putF "outcome" v0 [])) := upd_same
    generalize upd H p (.ins CU dx (putF "outcome" v0 [])) = G1 at k1 e1
    refine ⟨_, rfl, _, rfl, p, CU, dx, _, rfl, e1, T.cRun, T.nRun_lists, Nat.lt_of_le_of_lt (pl_len c0) (by decide), ?_⟩
    have k2 : ∀ b y, b ≠ p → H b = some y → upd G1 p (.ins CU dx (putF "lists" v1 (putF "outcome" v0 []))) b = some y := fun b y hb e => (upd_ne hb).trans (k1 b y hb e)
    have e2 : upd G1 p (.ins CU dx (putF "lists" v1 (putF "outcome" v0 []))) p = some (.ins CU dx (putF "lists" v1 (putF "outcome" v0 []))) := upd_same
    generalize upd G1 p (.ins CU dx (putF "lists" v1 (putF "outcome" v0 []))) = G2 at k2 e2
    refine ⟨_, rfl, _, rfl, p, CU, dx, _, rfl, e2, T.cRun, T.nRun_turns, Nat.lt_of_le_of_lt (pl_len (pl_len c0)) (by decide), ?_⟩
    exact q _ (fun b y hb e => (upd_ne hb).trans (k2 b y hb e)) upd_same
def spPlace (CL : Addr) : Sp := fun vs H Q _ => ∃ (p dx : Addr) (v0 : V), vs = [.ref p, v0] ∧ H p = some (.ins CL dx []) ∧ ∀ H', (∀ b o, b ≠ p → H b = some o → H' b = some o) → H' p = some (.ins CL dx (plF v0 (.int 0) .non)) → Q .non H'
theorem ok_Place {f : Addr} {fd : FuncData} (F : Fun K "__init__" "Place.__init__" s_Place f fd) (T : TxM K mg CP CG pp gg CS CU CL CF CM) : FnOk P w K mg base CX0 1 f fd ["self", "block"] (spPlace CL) := by
  refine F.ok sc_Place (fun vs H Q E h => ?_) (fun cdv A outer s H vs Q E hr h => ?_)
  · obtain ⟨p, dx, v0, rfl, _⟩ := h
    rfl
  · obtain ⟨p, dx, v0, rfl, hp, q⟩ := h
    refine ⟨_, (pss_cons (ps_fld (pv 0) (pv 1) rfl)
      (pss_cons (ps_fld (pv 0) pe_int rfl)
      (pss_one (ps_fld (pv 0) pe_non rfl)))), ?_⟩
    have c0 : ([] : List (PySem.Str × V)).length ≤ 0 := Nat.le_refl _
    have k0 : ∀ b y, b ≠ p → H b = some y → H b = some y := fun b y _ e => e
    have e0 := hp
    refine ⟨_, rfl, _, rfl, p, CL, dx, _, rfl, e0, T.cPlace, T.nPlace_block, Nat.lt_of_le_of_lt (c0) (by decide), ?_⟩
    have k1 : ∀ b y, b ≠ p → H b = some y → upd H p (.ins CL dx (putF "block" v0 [])) b = some y := fun b y hb e => (upd_ne hb).trans (k0 b y hb e)
    have e1 : upd H p (.ins CL dx (putF "block" v0 [])) p = some (.ins CL dx (putF "block" v0 [])) := upd_same
    generalize upd H p (.ins CL dx (putF "block" v0 [])) = G1 at k1 e1
    refine ⟨_, rfl, p, CL, dx, _, rfl, e1, T.cPlace, T.nPlace_at, Nat.lt_of_le_of_lt (pl_len c0) (by decide), ?_⟩
    have k2 : ∀ b y, b ≠ p → H b = some y → upd G1 p (.ins CL dx (putF "at" (.int 0) (putF "block" v0 []))) b = some y := fun b y hb e => (upd_ne hb).trans (k1 b y hb e)
    have e2 : upd G1 p (.ins CL dx (putF "at" (.int 0) (putF "block" v0 []))) p = some (.ins CL dx (putF "at" (.int 0) (putF "block" v0 []))) := upd_same
    generalize upd G1 p (.ins CL dx (putF "at" (.int 0) (putF "block" v0 []))) = G2 at k2 e2
    refine ⟨_, rfl, p, CL, dx, _, rfl, e2, T.cPlace, T.nPlace_loop, Nat.lt_of_le_of_lt (pl_len (pl_len c0)) (by decide), ?_⟩
    exact q _ (fun b y hb e => (upd_ne hb).trans (k2 b y hb e)) upd_same
end
end SW

namespace SW
open PySem PySem.Spec PyProof.Rows L2
abbrev s_Frame_enter : Stmt := inClass (topS 13) 1
theorem sc_Frame_enter : FnScope ["self", "block"] ["self", "block"] (defScope s_Frame_enter) := ⟨rfl, rfl, rfl, by decide +kernel, rfl, by decide +kernel, by decide +kernel⟩

abbrev s_Machine_fault : Stmt := inClass (topS 14) 1
theorem sc_Machine_fault : FnScope ["self", "row", "kind"] ["self", "row", "kind"] (defScope s_Machine_fault) := ⟨rfl, rfl, rfl, by decide +kernel, rfl, by decide +kernel, by decide +kernel⟩

abbrev s_Machine_choice : Stmt := inClass (topS 14) 2
theorem sc_Machine_choice : FnScope ["self"] ["self"] (defScope s_Machine_choice) := ⟨rfl, rfl, rfl, by decide +kernel, rfl, by decide +kernel, by decide +kernel⟩

section
variable {P : Program} {w : World} {K : PySem.W.Frag} {mg : PySem.Str → Option Value} {base : Heap} {CP CG pp gg CS CU CL CF CM : Addr}
/-! ### a place, made -/
def spPlaceN (CL : Addr) (c : V) (H : Hp) (Q : VK) : Prop := ∀ (p : Addr) (dx : Addr) (H' : Hp), Same H H' → H p = none → H' p = some (.ins CL dx (plF c (.int 0) .non)) → Q (.ref p) H'
/-- as it was but at these places, and new ones may be there -/
def Bu (S : List Addr) (H H' : Hp) : Prop := ∀ b o, b ∉ S → H b = some o → H' b = some o
theorem Bu.same {H H' : Hp} {S : List Addr} (s : Same H H') : Bu S H H' := fun b o _ e => s b o e
theorem Bu.trans {H H1 H2 : Hp} {S : List Addr} (a : Bu S H H1) (b : Bu S H1 H2) : Bu S H H2 := fun x o h e => b x o h (a x o h e)
theorem Bu.upd {H H' : Hp} {S : List Addr} {p : Addr} {o : HO} (a : Bu S H H') (hp : p ∈ S ∨ H p = none) : Bu S H (upd H' p o) := fun x y h e => by
  refine (upd_ne ?_).trans (a x y h e)
  rintro rfl
  rcases hp with hp | hp
  · exact h hp
  · rw [hp] at e
    cases e
theorem Bu.none {H H' : Hp} {S : List Addr} (a : Bu S H H') {x : Addr} (h : H' x = none) (hs : x ∉ S) : H x = none := by
  cases e : H x with
  | none => rfl
  | some o =>
    rw [a x o hs e] at h
    cases h
def spFrame (CF CL : Addr) : Sp := fun vs H Q _ => ∃ (p dx : Addr) (v0 v1 v2 : V), vs = [.ref p, v0, v1, v2] ∧ H p = some (.ins CF dx []) ∧ ∀ (H' : Hp) (l q dq : Addr), Bu [p] H H' → H' p = some (.ins CF dx (frF v0 v1 (.ref l))) → H l = none → H q = none → H' l = some (.lst [.ref q]) → H' q = some (.ins CL dq (plF v2 (.int 0) .non)) → Q .non H'
theorem ok_Frame {f : Addr} {fd : FuncData} (F : Fun K "__init__" "Frame.__init__" s_Frame f fd) (T : TxM K mg CP CG pp gg CS CU CL CF CM) (c_Place : CkI K CL "Place.__init__" s_Place ["self", "block"]) : FnOk P w K mg base CX0 3 f fd ["self", "state", "target", "body"] (spFrame CF CL) := by
  have G_Place := ok_Place (P := P) (w := w) (base := base) c_Place.F T
  have M_Place := c_Place.M
  have b_Place := c_Place.b
  refine F.ok sc_Frame (fun vs H Q E h => ?_) (fun cdv A outer s H vs Q E hr h => ?_)
  · obtain ⟨p, dx, v0, v1, v2, rfl, _⟩ := h
    rfl
  · obtain ⟨p, dx, v0, v1, v2, rfl, hp, q⟩ := h
    refine ⟨_, (pss_cons (ps_fld (pv 0) (pv 1) rfl)
    (pss_cons (ps_fld (pv 0) (pv 2) rfl)
    (pss_one (ps_fld (pv 0) (pe_lst (pa_cons (pe_make M_Place G_Place (hr.mono (by decide)) rfl T.mg_Place b_Place .nil pass0 (pa_cons (pv 3) pa_nil)) pa_nil)) rfl)))), ?_⟩
    refine ⟨_, rfl, _, rfl, p, CF, dx, _, rfl, hp, T.cFrame, T.nFrame_state, (by show 0 < 1000; decide), ?_⟩
    have k1 : Bu [p] H (upd H p (.ins CF dx (putF "state" v0 []))) := Bu.upd (.same (.refl _)) (.inl (by simp))
    have e1 : upd H p (.ins CF dx (putF "state" v0 [])) p = some (.ins CF dx (putF "state" v0 [])) := upd_same
    generalize upd H p (.ins CF dx (putF "state" v0 [])) = G1 at k1 e1
    refine ⟨_, rfl, _, rfl, p, CF, dx, _, rfl, e1, T.cFrame, T.nFrame_target, (by show 1 < 1000; decide), ?_⟩
    have k2 : Bu [p] H (upd G1 p (.ins CF dx (putF "target" v1 (putF "state" v0 [])))) := k1.upd (.inl (by simp))
    have e2 : upd G1 p (.ins CF dx (putF "target" v1 (putF "state" v0 []))) p = some (.ins CF dx (putF "target" v1 (putF "state" v0 []))) := upd_same
    generalize upd G1 p (.ins CF dx (putF "target" v1 (putF "state" v0 []))) = G2 at k2 e2
    refine ⟨_, rfl, ?_⟩
    intro x dd nx nd ne
    refine ⟨x, dd, v2, rfl, upd_same, fun H3 h1 h2 => ⟨rfl, (by show 1 ≤ sizeLine; rw [sizeLine_eq]; omega), fun l nl => ?_⟩⟩
    have hpx : x ≠ p := fun z => by rw [z, e2] at nx; cases nx
    have nHx : H x = none := Bu.none k2 nx (by simpa using hpx)
    have k3 : Bu [p] H H3 := k2.trans fun b o hb e => by
      have hbx : b ≠ x := fun z => by rw [z, nx] at e; cases e
      have hbd : b ≠ dd := fun z => by rw [z, nd] at e; cases e
      refine h1 b o hbx ?_
      rw [upd_ne hbx, upd_ne hbd]
      exact e
    have e3 : H3 p = some (.ins CF dx (putF "target" v1 (putF "state" v0 []))) := by
      have hpd : p ≠ dd := fun z => by rw [← z, e2] at nd; cases nd
      refine h1 p _ (Ne.symm hpx) ?_
      rw [upd_ne (Ne.symm hpx), upd_ne hpd]
      exact e2
    have hpl : l ≠ p := fun z => by rw [z, e3] at nl; cases nl
    have hlx : l ≠ x := fun z => by rw [z, h2] at nl; cases nl
    have nHl : H l = none := Bu.none k3 nl (by simpa using hpl)
    refine ⟨_, rfl, p, CF, dx, _, rfl, (upd_ne (Ne.symm hpl)).trans e3, T.cFrame, T.nFrame_places, (by show 2 < 1000; decide), ?_⟩
    refine q _ l x dd ((k3.upd (.inr nHl)).upd (.inl (by simp))) upd_same nHl nHx ?_ ?_
    · rw [upd_ne hpl, upd_same]
    · rw [upd_ne hpx, upd_ne (Ne.symm hlx)]
      exact h2
end
end SW

namespace SW
open PySem PySem.Spec PyProof.Rows L2
/-! ### fields set again (printed by K11MC.py) -/
theorem putF_hit (f : PySem.Str) (x u : V) (r : List (PySem.Str × V)) : putF f x ((f, u) :: r) = (f, x) :: r := by
  show (if f = f then (f, x) :: r else (f, u) :: putF f x r) = _
  rw [if_pos rfl]
theorem putF_miss {f g : PySem.Str} (h : ¬ g = f) (x u : V) (r : List (PySem.Str × V)) : putF f x ((g, u) :: r) = (g, u) :: putF f x r := by
  show (if g = f then (g, x) :: r else (g, u) :: putF f x r) = _
  rw [if_neg h]
theorem maF_lit (v0 v1 v2 v3 v4 v5 v6 : V) : maF v0 v1 v2 v3 v4 v5 v6 = ([("program", v0), ("choices", v1), ("chosen", v2), ("steps", v3), ("frames", v4), ("turns", v5), ("outcome", v6)] : List (PySem.Str × V)) := by
  unfold maF
  have z : ∀ (f : PySem.Str) (x : V), putF f x [] = [(f, x)] := fun _ _ => rfl
  repeat (first | rw [z] | rw [putF_miss (by decide +kernel)])
theorem maF_put_program (v0 v1 v2 v3 v4 v5 v6 x : V) : putF "program" x (maF v0 v1 v2 v3 v4 v5 v6) = maF x v1 v2 v3 v4 v5 v6 := by
  rw [maF_lit, maF_lit, putF_hit]
theorem maF_put_choices (v0 v1 v2 v3 v4 v5 v6 x : V) : putF "choices" x (maF v0 v1 v2 v3 v4 v5 v6) = maF v0 x v2 v3 v4 v5 v6 := by
  rw [maF_lit, maF_lit, putF_miss (by decide +kernel), putF_hit]
theorem maF_put_chosen (v0 v1 v2 v3 v4 v5 v6 x : V) : putF "chosen" x (maF v0 v1 v2 v3 v4 v5 v6) = maF v0 v1 x v3 v4 v5 v6 := by
  rw [maF_lit, maF_lit, putF_miss (by decide +kernel), putF_miss (by decide +kernel), putF_hit]
theorem maF_put_steps (v0 v1 v2 v3 v4 v5 v6 x : V) : putF "steps" x (maF v0 v1 v2 v3 v4 v5 v6) = maF v0 v1 v2 x v4 v5 v6 := by
  rw [maF_lit, maF_lit, putF_miss (by decide +kernel), putF_miss (by decide +kernel), putF_miss (by decide +kernel), putF_hit]
theorem maF_put_frames (v0 v1 v2 v3 v4 v5 v6 x : V) : putF "frames" x (maF v0 v1 v2 v3 v4 v5 v6) = maF v0 v1 v2 v3 x v5 v6 := by
  rw [maF_lit, maF_lit, putF_miss (by decide +kernel), putF_miss (by decide +kernel), putF_miss (by decide +kernel), putF_miss (by decide +kernel), putF_hit]
theorem maF_put_turns (v0 v1 v2 v3 v4 v5 v6 x : V) : putF "turns" x (maF v0 v1 v2 v3 v4 v5 v6) = maF v0 v1 v2 v3 v4 x v6 := by
  rw [maF_lit, maF_lit, putF_miss (by decide +kernel), putF_miss (by decide +kernel), putF_miss (by decide +kernel), putF_miss (by decide +kernel), putF_miss (by decide +kernel), putF_hit]
theorem maF_put_outcome (v0 v1 v2 v3 v4 v5 v6 x : V) : putF "outcome" x (maF v0 v1 v2 v3 v4 v5 v6) = maF v0 v1 v2 v3 v4 v5 x := by
  rw [maF_lit, maF_lit, putF_miss (by decide +kernel), putF_miss (by decide +kernel), putF_miss (by decide +kernel), putF_miss (by decide +kernel), putF_miss (by decide +kernel), putF_miss (by decide +kernel), putF_hit]
theorem maF_len (v0 v1 v2 v3 v4 v5 v6 : V) : (maF v0 v1 v2 v3 v4 v5 v6).length = 7 := by
  rw [maF_lit]
  rfl
theorem plF_lit (v0 v1 v2 : V) : plF v0 v1 v2 = ([("block", v0), ("at", v1), ("loop", v2)] : List (PySem.Str × V)) := by
  unfold plF
  have z : ∀ (f : PySem.Str) (x : V), putF f x [] = [(f, x)] := fun _ _ => rfl
  repeat (first | rw [z] | rw [putF_miss (by decide +kernel)])
theorem plF_put_block (v0 v1 v2 x : V) : putF "block" x (plF v0 v1 v2) = plF x v1 v2 := by
  rw [plF_lit, plF_lit, putF_hit]
theorem plF_put_at (v0 v1 v2 x : V) : putF "at" x (plF v0 v1 v2) = plF v0 x v2 := by
  rw [plF_lit, plF_lit, putF_miss (by decide +kernel), putF_hit]
theorem plF_put_loop (v0 v1 v2 x : V) : putF "loop" x (plF v0 v1 v2) = plF v0 v1 x := by
  rw [plF_lit, plF_lit, putF_miss (by decide +kernel), putF_miss (by decide +kernel), putF_hit]
theorem plF_len (v0 v1 v2 : V) : (plF v0 v1 v2).length = 3 := by
  rw [plF_lit]
  rfl
end SW

namespace SW
open PySem PySem.Spec PyProof.Rows L2
/-! ### the machine's small methods (printed by K11MD.py) -/
theorem maF_no_fault (v0 v1 v2 v3 v4 v5 v6 : V) : (maF v0 v1 v2 v3 v4 v5 v6).lookup ("fault" : PySem.Str) = none := by
  unfold maF
  simp only [lookup_putF]
  rw [if_neg (by decide +kernel), if_neg (by decide +kernel), if_neg (by decide +kernel), if_neg (by decide +kernel), if_neg (by decide +kernel), if_neg (by decide +kernel), if_neg (by decide +kernel)]
  rfl
theorem maF_no_choice (v0 v1 v2 v3 v4 v5 v6 : V) : (maF v0 v1 v2 v3 v4 v5 v6).lookup ("choice" : PySem.Str) = none := by
  unfold maF
  simp only [lookup_putF]
  rw [if_neg (by decide +kernel), if_neg (by decide +kernel), if_neg (by decide +kernel), if_neg (by decide +kernel), if_neg (by decide +kernel), if_neg (by decide +kernel), if_neg (by decide +kernel)]
  rfl
theorem maF_no_begin (v0 v1 v2 v3 v4 v5 v6 : V) : (maF v0 v1 v2 v3 v4 v5 v6).lookup ("begin" : PySem.Str) = none := by
  unfold maF
  simp only [lookup_putF]
  rw [if_neg (by decide +kernel), if_neg (by decide +kernel), if_neg (by decide +kernel), if_neg (by decide +kernel), if_neg (by decide +kernel), if_neg (by decide +kernel), if_neg (by decide +kernel)]
  rfl
theorem maF_no_finish (v0 v1 v2 v3 v4 v5 v6 : V) : (maF v0 v1 v2 v3 v4 v5 v6).lookup ("finish" : PySem.Str) = none := by
  unfold maF
  simp only [lookup_putF]
  rw [if_neg (by decide +kernel), if_neg (by decide +kernel), if_neg (by decide +kernel), if_neg (by decide +kernel), if_neg (by decide +kernel), if_neg (by decide +kernel), if_neg (by decide +kernel)]
  rfl
theorem maF_no_go (v0 v1 v2 v3 v4 v5 v6 : V) : (maF v0 v1 v2 v3 v4 v5 v6).lookup ("go" : PySem.Str) = none := by
  unfold maF
  simp only [lookup_putF]
  rw [if_neg (by decide +kernel), if_neg (by decide +kernel), if_neg (by decide +kernel), if_neg (by decide +kernel), if_neg (by decide +kernel), if_neg (by decide +kernel), if_neg (by decide +kernel)]
  rfl
theorem maF_no_step (v0 v1 v2 v3 v4 v5 v6 : V) : (maF v0 v1 v2 v3 v4 v5 v6).lookup ("step" : PySem.Str) = none := by
  unfold maF
  simp only [lookup_putF]
  rw [if_neg (by decide +kernel), if_neg (by decide +kernel), if_neg (by decide +kernel), if_neg (by decide +kernel), if_neg (by decide +kernel), if_neg (by decide +kernel), if_neg (by decide +kernel)]
  rfl
theorem frF_no_enter (v0 v1 v2 : V) : (frF v0 v1 v2).lookup ("enter" : PySem.Str) = none := by
  unfold frF
  simp only [lookup_putF]
  rw [if_neg (by decide +kernel), if_neg (by decide +kernel), if_neg (by decide +kernel)]
  rfl
section
variable {P : Program} {w : World} {K : PySem.W.Frag} {mg : PySem.Str → Option Value} {base : Heap} {CP CG pp gg CS CU CL CF CM : Addr}
def spMachine (CM : Addr) : Sp := fun vs H Q _ => ∃ (p dx : Addr) (v0 v1 v2 : V), vs = [.ref p, v0, v1, v2] ∧ H p = some (.ins CM dx []) ∧ ∀ (H' : Hp) (a b : Addr), Bu [p] H H' → H a = none → H b = none → a ≠ b → H' a = some (.lst []) → H' b = some (.lst []) → H' p = some (.ins CM dx (maF v0 v1 (.int 0) v2 (.ref a) (.ref b) .non)) → Q .non H'
theorem ok_Machine {f : Addr} {fd : FuncData} (F : Fun K "__init__" "Machine.__init__" s_Machine f fd) (T : TxM K mg CP CG pp gg CS CU CL CF CM) : FnOk P w K mg base CX0 1 f fd ["self", "program", "choices", "steps"] (spMachine CM) := by
  refine F.ok sc_Machine (fun vs H Q E h => ?_) (fun cdv A outer s H vs Q E hr h => ?_)
  · obtain ⟨p, dx, v0, v1, v2, rfl, _⟩ := h
    rfl
  · obtain ⟨p, dx, v0, v1, v2, rfl, hp, q⟩ := h
    refine ⟨_, (pss_cons (ps_fld (pv 0) (pv 1) rfl)
    (pss_cons (ps_fld (pv 0) (pv 2) rfl)
    (pss_cons (ps_fld (pv 0) pe_int rfl)
    (pss_cons (ps_fld (pv 0) (pv 3) rfl)
    (pss_cons (ps_fld (pv 0) (pe_lst pa_nil) rfl)
    (pss_cons (ps_fld (pv 0) (pe_lst pa_nil) rfl)
    (pss_one (ps_fld (pv 0) pe_non rfl)))))))), ?_⟩
    have k0 : Bu [p] H H := .same (.refl _)
    have e0 := hp
    refine ⟨_, rfl, _, rfl, p, CM, dx, _, rfl, e0, T.cMachine, T.nMachine_program, (by show 0 < 1000; decide), ?_⟩
    have k1 : Bu [p] H (upd H p (.ins CM dx (putF "program" v0 []))) := k0.upd (.inl (by simp))
    have e1 : upd H p (.ins CM dx (putF "program" v0 [])) p = some (.ins CM dx (putF "program" v0 [])) := upd_same
    generalize upd H p (.ins CM dx (putF "program" v0 [])) = G1 at k1 e1
    refine ⟨_, rfl, _, rfl, p, CM, dx, _, rfl, e1, T.cMachine, T.nMachine_choices, (by show 1 < 1000; decide), ?_⟩
    have k2 : Bu [p] H (upd G1 p (.ins CM dx (putF "choices" v1 (putF "program" v0 [])))) := k1.upd (.inl (by simp))
    have e2 : upd G1 p (.ins CM dx (putF "choices" v1 (putF "program" v0 []))) p = some (.ins CM dx (putF "choices" v1 (putF "program" v0 []))) := upd_same
    generalize upd G1 p (.ins CM dx (putF "choices" v1 (putF "program" v0 []))) = G2 at k2 e2
    refine ⟨_, rfl, p, CM, dx, _, rfl, e2, T.cMachine, T.nMachine_chosen, (by show 2 < 1000; decide), ?_⟩
    have k3 : Bu [p] H (upd G2 p (.ins CM dx (putF "chosen" (.int 0) (putF "choices" v1 (putF "program" v0 []))))) := k2.upd (.inl (by simp))
    have e3 : upd G2 p (.ins CM dx (putF "chosen" (.int 0) (putF "choices" v1 (putF "program" v0 [])))) p = some (.ins CM dx (putF "chosen" (.int 0) (putF "choices" v1 (putF "program" v0 [])))) := upd_same
    generalize upd G2 p (.ins CM dx (putF "chosen" (.int 0) (putF "choices" v1 (putF "program" v0 [])))) = G3 at k3 e3
    refine ⟨_, rfl, _, rfl, p, CM, dx, _, rfl, e3, T.cMachine, T.nMachine_steps, (by show 3 < 1000; decide), ?_⟩
    have k4 : Bu [p] H (upd G3 p (.ins CM dx (putF "steps" v2 (putF "chosen" (.int 0) (putF "choices" v1 (putF "program" v0 [])))))) := k3.upd (.inl (by simp))
    have e4 : upd G3 p (.ins CM dx (putF "steps" v2 (putF "chosen" (.int 0) (putF "choices" v1 (putF "program" v0 []))))) p = some (.ins CM dx (putF "steps" v2 (putF "chosen" (.int 0) (putF "choices" v1 (putF "program" v0 []))))) := upd_same
    generalize upd G3 p (.ins CM dx (putF "steps" v2 (putF "chosen" (.int 0) (putF "choices" v1 (putF "program" v0 []))))) = G4 at k4 e4
    refine ⟨(by show 0 ≤ sizeLine; omega), fun a na => ?_⟩
    have pa : a ≠ p := fun z => by rw [z, e4] at na; cases na
    have nHa : H a = none := Bu.none k4 na (by simpa using pa)
    refine ⟨_, rfl, p, CM, dx, _, rfl, (upd_ne (Ne.symm pa)).trans e4, T.cMachine, T.nMachine_frames, (by show 4 < 1000; decide), ?_⟩
    have k5 : Bu [p] H (upd (upd G4 a (.lst [])) p (.ins CM dx (putF "frames" (.ref a) (putF "steps" v2 (putF "chosen" (.int 0) (putF "choices" v1 (putF "program" v0 []))))))) := (k4.upd (.inr nHa)).upd (.inl (by simp))
    have e5 : upd (upd G4 a (.lst [])) p (.ins CM dx (putF "frames" (.ref a) (putF "steps" v2 (putF "chosen" (.int 0) (putF "choices" v1 (putF "program" v0 [])))))) p = some (.ins CM dx (putF "frames" (.ref a) (putF "steps" v2 (putF "chosen" (.int 0) (putF "choices" v1 (putF "program" v0 [])))))) := upd_same
    have a5 : upd (upd G4 a (.lst [])) p (.ins CM dx (putF "frames" (.ref a) (putF "steps" v2 (putF "chosen" (.int 0) (putF "choices" v1 (putF "program" v0 [])))))) a = some (.lst []) := (upd_ne pa).trans upd_same
    generalize upd (upd G4 a (.lst [])) p (.ins CM dx (putF "frames" (.ref a) (putF "steps" v2 (putF "chosen" (.int 0) (putF "choices" v1 (putF "program" v0 [])))))) = G5 at k5 e5 a5
    refine ⟨(by show 0 ≤ sizeLine; omega), fun b nb => ?_⟩
    have pb : b ≠ p := fun z => by rw [z, e5] at nb; cases nb
    have ab : a ≠ b := fun z => by rw [← z, a5] at nb; cases nb
    have nHb : H b = none := Bu.none k5 nb (by simpa using pb)
    refine ⟨_, rfl, p, CM, dx, _, rfl, (upd_ne (Ne.symm pb)).trans e5, T.cMachine, T.nMachine_turns, (by show 5 < 1000; decide), ?_⟩
    have k6 : Bu [p] H (upd (upd G5 b (.lst [])) p (.ins CM dx (putF "turns" (.ref b) (putF "frames" (.ref a) (putF "steps" v2 (putF "chosen" (.int 0) (putF "choices" v1 (putF "program" v0 [])))))))) := (k5.upd (.inr nHb)).upd (.inl (by simp))
    have e6 : upd (upd G5 b (.lst [])) p (.ins CM dx (putF "turns" (.ref b) (putF "frames" (.ref a) (putF "steps" v2 (putF "chosen" (.int 0) (putF "choices" v1 (putF "program" v0 []))))))) p = some (.ins CM dx (putF "turns" (.ref b) (putF "frames" (.ref a) (putF "steps" v2 (putF "chosen" (.int 0) (putF "choices" v1 (putF "program" v0 []))))))) := upd_same
    have a6 : upd (upd G5 b (.lst [])) p (.ins CM dx (putF "turns" (.ref b) (putF "frames" (.ref a) (putF "steps" v2 (putF "chosen" (.int 0) (putF "choices" v1 (putF "program" v0 []))))))) a = some (.lst []) := (upd_ne pa).trans ((upd_ne ab).trans a5)
    have b6 : upd (upd G5 b (.lst [])) p (.ins CM dx (putF "turns" (.ref b) (putF "frames" (.ref a) (putF "steps" v2 (putF "chosen" (.int 0) (putF "choices" v1 (putF "program" v0 []))))))) b = some (.lst []) := (upd_ne pb).trans upd_same
    generalize upd (upd G5 b (.lst [])) p (.ins CM dx (putF "turns" (.ref b) (putF "frames" (.ref a) (putF "steps" v2 (putF "chosen" (.int 0) (putF "choices" v1 (putF "program" v0 []))))))) = G6 at k6 e6 a6 b6
    refine ⟨_, rfl, p, CM, dx, _, rfl, e6, T.cMachine, T.nMachine_outcome, (by show 6 < 1000; decide), ?_⟩
    exact q _ a b (k6.upd (.inl (by simp))) nHa nHb ab ((upd_ne pa).trans a6) ((upd_ne pb).trans b6) upd_same
def spFault (K : PySem.W.Frag) (CM : Addr) : Sp := fun vs H Q _ => ∃ (p dx : Addr) (r : Int) (z : PySem.Str) (v0 v1 v2 v3 v4 v5 v6 : V), vs = [.ref p, .int r, .str z] ∧ H p = some (.ins CM dx (maF v0 v1 v2 v3 v4 v5 v6)) ∧ ∀ (t : Addr) (H' : Hp), Bu [p] H H' → H t = none → H' p = some (.ins CM dx (maF v0 v1 v2 v3 v4 v5 (.ref t))) → SqT K H' t [.str "fault", .int r, .str z] → Q .non H'
theorem ok_fault {f : Addr} {fd : FuncData} (F : Fun K "fault" "Machine.fault" s_Machine_fault f fd) (T : TxM K mg CP CG pp gg CS CU CL CF CM) : FnOk P w K mg base CX0 1 f fd ["self", "row", "kind"] (spFault K CM) := by
  refine F.ok sc_Machine_fault (fun vs H Q E h => ?_) (fun cdv A outer s H vs Q E hr h => ?_)
  · obtain ⟨p, dx, r, z, v0, v1, v2, v3, v4, v5, v6, rfl, _⟩ := h
    rfl
  · obtain ⟨p, dx, r, z, v0, v1, v2, v3, v4, v5, v6, rfl, hp, q⟩ := h
    refine ⟨_, (pss_one (ps_fld (pv 0) (pe_tup (pa_cons pe_str (pa_cons (pv 1) (pa_cons (pv 2) pa_nil)))) rfl)), ?_⟩
    refine ⟨_, rfl, _, rfl, (by show 3 ≤ sizeLine; rw [sizeLine_eq]; omega), fun t nt => ?_⟩
    have pt : t ≠ p := fun z => by rw [z, hp] at nt; cases nt
    refine ⟨_, rfl, p, CM, dx, _, rfl, (upd_ne (Ne.symm pt)).trans hp, T.cMachine, T.nMachine_outcome, (by rw [maF_len]; decide), ?_⟩
    rw [maF_put_outcome]
    exact q t _ (Bu.upd (Bu.upd (.same (.refl _)) (.inr nt)) (.inl (by simp))) nt upd_same (SqT.of ((upd_ne pt).trans upd_same))
def spEnter (CF CL : Addr) : Sp := fun vs H Q _ => ∃ (p dx l : Addr) (v0 v1 c : V) (xs : List V), vs = [.ref p, c] ∧ H p = some (.ins CF dx (frF v0 v1 (.ref l))) ∧ H l = some (.lst xs) ∧ xs.length ≤ 10000 ∧ ∀ (x dd : Addr) (H' : Hp), Bu [l] H H' → H x = none → H' l = some (.lst (xs ++ [.ref x])) → H' x = some (.ins CL dd (plF c (.int 0) .non)) → Q .non H'
theorem ok_enter {f : Addr} {fd : FuncData} (F : Fun K "enter" "Frame.enter" s_Frame_enter f fd) (T : TxM K mg CP CG pp gg CS CU CL CF CM) (c_Place : CkI K CL "Place.__init__" s_Place ["self", "block"]) : FnOk P w K mg base CX0 3 f fd ["self", "block"] (spEnter CF CL) := by
  have G_Place := ok_Place (P := P) (w := w) (base := base) c_Place.F T
  have M_Place := c_Place.M
  have b_Place := c_Place.b
  refine F.ok sc_Frame_enter (fun vs H Q E h => ?_) (fun cdv A outer s H vs Q E hr h => ?_)
  · obtain ⟨p, dx, l, v0, v1, c, xs, rfl, _⟩ := h
    rfl
  · obtain ⟨p, dx, l, v0, v1, c, xs, rfl, hp, hl, hz, q⟩ := h
    refine ⟨_, (pss_one (ps_expr (pe_bm PySem.F.plainAttrs_list PySem.F.slot_list_append PySem.F.type_list_append mt_append (pe_fld (pv 0) rfl) (pa_cons (pe_make M_Place G_Place (hr.mono (by decide)) rfl T.mg_Place b_Place .nil pass0 (pa_cons (pv 1) pa_nil)) pa_nil)))), ?_⟩
    refine ⟨_, rfl, p, CF, dx, _, _, rfl, hp, T.cFrame, T.nFrame_places, frF_places _ _ _, ?_⟩
    refine ⟨.inl ⟨rfl, _, SqL.of hl⟩, ?_⟩
    refine ⟨_, rfl, fun x dd nx nd ne => ⟨x, dd, c, rfl, upd_same, fun H3 h1 h2 => ⟨rfl, ?_⟩⟩⟩
    have ne1 : ∀ b o, H b = some o → b ≠ x ∧ b ≠ dd := fun b o e => ⟨ne_of_none e nx, ne_of_none e nd⟩
    have k3 : Bu [l] H H3 := fun b o hb e => by
      refine h1 b o (ne1 b o e).1 ?_
      rw [upd_ne (ne1 b o e).1, upd_ne (ne1 b o e).2]
      exact e
    have l3 : H3 l = some (.lst xs) := by
      refine h1 l _ (ne1 l _ hl).1 ?_
      rw [upd_ne (ne1 l _ hl).1, upd_ne (ne1 l _ hl).2]
      exact hl
    refine ⟨l, xs, _, rfl, rfl, l3, small_sz5 (by omega), ?_⟩
    refine q x dd _ (k3.upd (.inl (by simp))) nx upd_same ?_
    exact (upd_ne (Ne.symm (ne1 l _ hl).1)).trans h2
def spChoice (K : PySem.W.Frag) (CM : Addr) : Sp := fun vs H Q _ => ∃ (p dx c : Addr) (k : Nat) (cs : List Int) (v0 v3 v4 v5 v6 : V), vs = [.ref p] ∧ H p = some (.ins CM dx (maF v0 (.ref c) (.int k) v3 v4 v5 v6)) ∧ H c = some (.lst (cs.map V.int)) ∧ k ≤ cs.length ∧ cs.length ≤ 1000 ∧ ∀ (z : Int) (k' : Nat) (H' : Hp), Bu [p] H H' → H' p = some (.ins CM dx (maF v0 (.ref c) (.int k') v3 v4 v5 v6)) → k' ≤ cs.length → Q (.int z) H'
theorem ok_choice {f : Addr} {fd : FuncData} (F : Fun K "choice" "Machine.choice" s_Machine_choice f fd) (T : TxM K mg CP CG pp gg CS CU CL CF CM) : FnOk P w K mg base CX0 1 f fd ["self"] (spChoice K CM) := by
  refine F.ok sc_Machine_choice (fun vs H Q E h => ?_) (fun cdv A outer s H vs Q E hr h => ?_)
  · obtain ⟨p, dx, c, k, cs, v0, v3, v4, v5, v6, rfl, _⟩ := h
    rfl
  · obtain ⟨p, dx, c, k, cs, v0, v3, v4, v5, v6, rfl, hp, hc, hk, hz, q⟩ := h
    refine ⟨_, (pss_cons (ps_if (pt_cmpR op_eq (pe_fld (pv 0) rfl) (pe_callB call_len_seq (by rfl) T.n_len PySem.boot_len (pa_cons (pe_fld (pv 0) rfl) pa_nil)) (nomark _))
    (pss_one (ps_ret pe_int))
    pss_nil)
    (pss_cons (ps_fldaug (pv 0) pe_int in_add)
    (pss_one (ps_ret (pe_ix ix_list (pe_fld (pv 0) rfl) (pe_op op_sub (pe_fld (pv 0) rfl) pe_int) (fun _ _ => rfl)))))), ?_⟩
    refine ⟨_, rfl, p, CM, dx, _, _, rfl, hp, T.cMachine, T.nMachine_chosen, maF_chosen _ _ _ _ _ _ _, _, rfl, p, CM, dx, _, _, rfl, hp, T.cMachine, T.nMachine_choices, maF_choices _ _ _ _ _ _ _, c, _, rfl, .inl (SqL.of hc), ?_⟩
    refine ⟨rfl, _, rfl, ite2 (fun e => q _ k H (.same (.refl _)) hp hk) (fun e => ?_)⟩
    have hne : ¬ k = cs.length := fun z => by
      exact e (decide_eq_true (by rw [List.length_map, z]))
    have hk1 : k < cs.length := by omega
    refine ⟨_, rfl, p, CM, dx, _, _, rfl, hp, T.cMachine, T.nMachine_chosen, maF_chosen _ _ _ _ _ _ _, _, _, rfl, rfl, dx, _, hp, (by rw [maF_len]; decide), ?_⟩
    rw [maF_put_chosen]
    have hpc : c ≠ p := fun z => by rw [z, hp] at hc; cases hc
    have e1 : upd H p (.ins CM dx (maF v0 (.ref c) (.int ((k : Int) + 1)) v3 v4 v5 v6)) p = some (.ins CM dx (maF v0 (.ref c) (.int ((k : Int) + 1)) v3 v4 v5 v6)) := upd_same
    refine ⟨_, rfl, p, CM, dx, _, _, rfl, e1, T.cMachine, T.nMachine_choices, maF_choices _ _ _ _ _ _ _, _, rfl, p, CM, dx, _, _, rfl, e1, T.cMachine, T.nMachine_chosen, maF_chosen _ _ _ _ _ _ _, _, _, rfl, rfl, ?_⟩
    refine ⟨c, _, _, .int cs[k], rfl, rfl, SqL.of ((upd_ne hpc).trans hc), ?_, ?_⟩
    · have : ((k : Int) + 1 - 1) = (k : Int) := by omega
      rw [this]
      exact atI_nat (by rw [List.getElem?_map, List.getElem?_eq_getElem hk1]; rfl)
    · exact q _ (k + 1) _ (Bu.upd (.same (.refl _)) (.inl (by simp))) e1 hk1
end
end SW

namespace SW
open PySem PySem.Spec PyProof.Rows L2
/-! ### the names of a procedure's numbers; the procedure called (printed by K11ME.py) -/
abbrev s_number_names : Stmt := inClass (topS 29) 1
theorem sc_number_names : FnScope ["self", "name", "is_list"] ["self"] (defScope s_number_names) := ⟨rfl, rfl, rfl, by decide +kernel, rfl, by decide +kernel, by decide +kernel⟩
structure TxN (K : PySem.W.Frag) (mg : PySem.Str → Option Value) (CP CG p g CS CU CL CF CM pq gq : Addr) : Prop extends TxM K mg CP CG p g CS CU CL CF CM where
  pn : PropOf K CP "number_names" pq gq
section
variable {P : Program} {w : World} {K : PySem.W.Frag} {mg : PySem.Str → Option Value} {base : Heap} {CP CG pp gg CS CU CL CF CM pq gq : Addr}
def spNums (K : PySem.W.Frag) (CP : Addr) : Sp := fun vs H Q _ => ∃ (p dx : Addr) (v0 v1 v2 v3 v4 v5 v6 v7 v8 : V) (ps : List (PySem.Str × Bool)), vs = [.ref p] ∧ H p = some (.ins CP dx (prF v0 v1 v2 v3 v4 v5 v6 v7 v8)) ∧ Dp K H v2 (.tuple (ps.map fun x => .tuple [.str x.1, .bool x.2])) ∧ ps.length ≤ 100 ∧ ∀ (F : Addr) (H' : Hp), Same H H' → H F = none → H' F = some (.lst (((ps.filter fun x => !x.2).map Prod.fst).map V.str)) → Q (.ref F) H'
theorem ok_number_names {f : Addr} {fd : FuncData} (F : Fun K "number_names" "Procedure.number_names" s_number_names f fd) (T : TxQ K mg CP CG pp gg) : FnOk P w K mg base CX0 1 f fd ["self"] (spNums K CP) := by
  refine F.ok sc_number_names (fun vs H Q E h => ?_) (fun cdv A outer s H vs Q E hr h => ?_)
  · obtain ⟨p, dx, v0, v1, v2, v3, v4, v5, v6, v7, v8, ps, rfl, _⟩ := h
    rfl
  · obtain ⟨p, dx, v0, v1, v2, v3, v4, v5, v6, v7, v8, ps, rfl, hp, hd, hl, q⟩ := h
    refine ⟨_, pss_one (ps_ret (pe_lc (own := [("name", 1), ("is_list", 2)]) (g := gTup K 2 (gCons (gName 1) (gCons (gName 2) gNil))) (by rfl) sc_number_names.nd (pi_tup (pe_fld (pv 0) rfl)) (blkOk_by (own := [("name", 1), ("is_list", 2)]) (N := ["self", "name", "is_list"]) (sc := defScope s_number_names) (by decide +kernel)) (fun _ _ _ _ _ => pg_tup rfl (pgs_cons (pg_name (i := 1) sc_number_names.nd rfl (Or.inl rfl)) (pgs_cons (pg_name (i := 2) sc_number_names.nd rfl (Or.inl rfl)) pgs_nil))) (fun _ _ _ _ _ => pts_one (pt_not (pt_val (pv 2)))) (fun _ _ _ _ _ => pv 1))), ?_⟩
    obtain ⟨t, us, rfl, ht, ha⟩ := dp_tup_inv hd
    have hul : us.length = ps.length := by rw [dpa_len ha, List.length_map]
    refine ⟨_, rfl, p, CP, dx, _, _, rfl, hp, T.cp, T.a2, prF_2 _ _ _ _ _ _ _ _ _, t, rfl, ⟨_, ht⟩, fun F nF => ?_⟩
    refine lc_tup (K := K) (a := t) (xs := us) (fun i G => Same H G ∧ G F = some (.lst ((((ps.take i).filter fun x => !x.2).map Prod.fst).map V.str))) ⟨same_new nF, upd_same⟩ (fun i G _ hP => sqt_same hP.1 ht) (fun i v G hv hP => ?_) (fun G hP => ?_)
    · obtain ⟨sG, eF⟩ := hP
      have hi : i < ps.length := by
        rw [← hul]
        exact (List.getElem?_eq_some_iff.mp hv).1
      obtain ⟨v', g1, d1⟩ := dp_mem ha hi
      rw [hv] at g1
      cases g1
      obtain ⟨t2, w1, w2, rfl, ht2, d2, d3⟩ := dp_inv2 (d1.same sG)
      cases dp_str_inv d2
      cases dp_bool_inv d3
      have hll : ((((ps.take i).filter fun x => !x.2).map Prod.fst).map V.str).length ≤ 100 := by
        rw [List.length_map, List.length_map]
        refine Nat.le_trans (List.length_filter_le _ _) ?_
        rw [List.length_take]
        omega
      refine ⟨t2, _, rfl, ht2, rfl, _, _, rfl, _, _, rfl, rfl, rfl, _, rfl, _, rfl, ite2 (fun e => ?_) (fun e => ?_)⟩
      · refine ⟨_, rfl, _, eF, small_sz5 (by omega), same_mut sG nF, ?_⟩
        rw [upd_same, List.take_succ_eq_append_getElem hi, List.filter_append, List.filter_cons, if_pos e, List.map_append, List.map_append]
        rfl
      · refine ⟨sG, ?_⟩
        rw [List.take_succ_eq_append_getElem hi, List.filter_append, List.filter_cons, if_neg e]
        show G F = some (.lst (((_ ++ []).map Prod.fst).map V.str))
        rw [List.append_nil]
        exact eF
    · obtain ⟨sG, eF⟩ := hP
      rw [List.take_of_length_le (by omega)] at eF
      exact q F G sG nF eF

def fnd (cs : List Pc) (x : PySem.Str) : Option Pc := cs.find? fun c => decide (c.nm = x)
def spCalled (K : PySem.W.Frag) (CP CG : Addr) : Sp := fun vs H Q _ => ∃ (pg : Addr) (cs : List Pc) (x : PySem.Str), vs = [.ref pg, .str x] ∧ PgAt K CP CG H pg cs ∧ (∀ c, fnd cs x = some c → Q (.ref c.p) H) ∧ (fnd cs x = none → Q .non H)
theorem ok_called {f : Addr} {fd : FuncData} (F : Fun K "called" "Program.called" s_called f fd) (T : TxQ K mg CP CG pp gg) : FnOk P w K mg base CX0 1 f fd ["self", "name"] (spCalled K CP CG) := by
  refine F.ok sc_called (fun vs H Q E h => ?_) (fun cdv A outer s H vs Q E hr h => ?_)
  · obtain ⟨pg, cs, x, rfl, _⟩ := h
    rfl
  · obtain ⟨pg, cs, x, rfl, hg, q1, q2⟩ := h
    refine ⟨_, pss_cons (ps_for PassesOwn.never rfl (pi_tup (pe_fld (pv 0) rfl)) (pg_name (i := 2) sc_called.nd rfl (.inl rfl)) (pss_one (ps_if (pt_cmpR op_eq (pe_fld (pv 2) rfl) (pv 1) (nomark _)) (pss_one (ps_ret (pv 2))) pss_nil))) (pss_one (ps_ret pe_non)), ?_⟩
    obtain ⟨dx, t, h1, h2⟩ := hg.ex
    refine ⟨_, rfl, pg, CG, dx, _, _, rfl, h1, T.cl, T.b0, rfl, t, rfl, ⟨_, h2⟩, ?_⟩
    refine for_tup (K := K) (a := t) (xs := cs.map fun c => .ref c.p) (fun i σ G => G = H ∧ (∃ y2 : Option V, σ = [some (.ref pg), some (.str x), y2]) ∧ fnd cs x = fnd (cs.drop i) x) ⟨rfl, ⟨_, rfl⟩, rfl⟩ (fun i σ G _ hP => by
      obtain ⟨rfl, _⟩ := hP
      exact h2) (fun i v σ G hv hP => ?_) (fun σ G hP => ?_)
    · obtain ⟨rfl, ⟨y2, rfl⟩, hf⟩ := hP
      rw [List.getElem?_map] at hv
      obtain ⟨c, hc, rfl⟩ := Option.map_eq_some_iff.mp hv
      obtain ⟨hi, hci⟩ := List.getElem?_eq_some_iff.mp hc
      obtain ⟨dx', v0, v2, v3, v4, v5, v6, v7, v8, hp, _⟩ := (hg.at_ c (List.mem_of_getElem? hc)).ex
      refine ⟨_, rfl, c.p, CP, dx', _, _, rfl, hp, T.cp, T.a1, prF_1 _ _ _ _ _ _ _ _ _, _, rfl, rfl, _, rfl, ?_⟩
      rw [str_dec]
      have e : cs.drop i = c :: cs.drop (i + 1) := by
        rw [List.drop_eq_getElem_cons hi, hci]
      have hf2 : fnd cs x = if c.nm = x then some c else fnd (cs.drop (i + 1)) x := by
        rw [hf, e]
        unfold fnd
        rw [List.find?_cons]
        by_cases h : c.nm = x
        · rw [decide_eq_true h, if_pos h]
        · rw [decide_eq_false h, if_neg h]
      refine ite2 (fun e => ?_) (fun e => ?_)
      · rw [if_pos (of_decide_eq_true e)] at hf2
        exact ⟨_, rfl, q1 c hf2⟩
      · rw [if_neg (of_decide_eq_false (Bool.eq_false_iff.mpr e))] at hf2
        exact ⟨rfl, ⟨_, rfl⟩, hf2⟩
    · obtain ⟨rfl, ⟨y2, rfl⟩, hf⟩ := hP
      refine q2 ?_
      rw [hf, List.drop_eq_nil_of_le (by rw [List.length_map]; exact Nat.le_refl _)]
      rfl
end
end SW

namespace SW
open PySem PySem.Spec PyProof.Rows L2
abbrev s_Machine_finish : Stmt := inClass (topS 14) 4
theorem sc_Machine_finish : FnScope ["self", "value", "frame"] ["self", "value"] (defScope s_Machine_finish) := ⟨rfl, rfl, rfl, by decide +kernel, rfl, by decide +kernel, by decide +kernel⟩

/-! ### a frame's end -/
section
variable {P : Program} {w : World} {K : PySem.W.Frag} {mg : PySem.Str → Option Value} {base : Heap} {CP CG pp gg CS CU CL CF CM pq gq : Addr}
/-- the last frame ends the run; another hands its value to the frame below -/
def spFinish (K : PySem.W.Frag) (CS CF CM : Addr) : Sp := fun vs H Q _ => ∃ (p dx l f df : Addr) (u : V) (xs : List V) (v0 v1 v2 v3 v5 v6 a tg b : V), vs = [.ref p, u] ∧ H p = some (.ins CM dx (maF v0 v1 v2 v3 (.ref l) v5 v6)) ∧ H l = some (.lst (xs ++ [.ref f])) ∧ H f = some (.ins CF df (frF a tg b)) ∧
  ((xs = [] ∧ ∀ (t : Addr) (H' : Hp), Bu [p, l] H H' → H t = none → H' l = some (.lst []) → H' p = some (.ins CM dx (maF v0 v1 v2 v3 (.ref l) v5 (.ref t))) → SqT K H' t [.str "result", u] → Q .non H') ∨
   (∃ (ys : List V) (g dg s ds dn : Addr) (fs : List (PySem.Str × V)) (x : PySem.Str) (kvs : List (Key × V)) (tg2 b2 : V), xs = ys ++ [.ref g] ∧ tg = .str x ∧ H g = some (.ins CF dg (frF (.ref s) tg2 b2)) ∧ H s = some (.ins CS ds fs) ∧ fs.lookup ("numbers" : PySem.Str) = some (.ref dn) ∧ H dn = some (.dK kvs) ∧ kvs.length ≤ 1000 ∧ Q .non (upd (upd H l (.lst xs)) dn (.dK (putK kvs (.inr x) u)))))
theorem ok_finish {f : Addr} {fd : FuncData} (F : Fun K "finish" "Machine.finish" s_Machine_finish f fd) (T : TxM K mg CP CG pp gg CS CU CL CF CM) (TR : TxR K mg CS) : FnOk P w K mg base CX0 1 f fd ["self", "value"] (spFinish K CS CF CM) := by
  refine F.ok sc_Machine_finish (fun vs H Q E h => ?_) (fun cdv A outer s H vs Q E hr h => ?_)
  · obtain ⟨p, dx, l, f, df, u, xs, v0, v1, v2, v3, v5, v6, a, tg, b, rfl, _⟩ := h
    rfl
  · obtain ⟨p, dx, l, f, df, u, xs, v0, v1, v2, v3, v5, v6, a, tg, b, rfl, hp, hl, hf, h⟩ := h
    refine ⟨_, (pss_cons (ps_set (i := 2) sc_Machine_finish.nd rfl (.inl rfl) (pe_bm0 PySem.F.plainAttrs_list PySem.F.slot_list_pop PySem.F.type_list_pop mt_pop (pe_fld (pv 0) rfl)))
    (pss_one (ps_if (pt_truth (pe_fld (pv 0) rfl) (by intro _; rfl))
    (pss_one (ps_dput (hu_of hr) (pe_fld (pe_fld (pe_ix ix_list (pe_fld (pv 0) rfl) (pe_un un_neg pe_int) (fun _ _ => rfl)) rfl) rfl) (pe_fld (pv 2) rfl) (pv 1) rfl))
    (pss_one (ps_fld (pv 0) (pe_tup (pa_cons pe_str (pa_cons (pv 1) pa_nil))) rfl))))), ?_⟩
    refine ⟨_, rfl, p, CM, dx, _, _, rfl, hp, T.cMachine, T.nMachine_frames, maF_frames _ _ _ _ _ _ _, .inl ⟨rfl, _, SqL.of hl⟩, ?_⟩
    refine ⟨l, _, .ref f, rfl, rfl, hl, (by rw [List.length_append]; show (xs ++ [V.ref f])[xs.length + 1 - 1]? = _; rw [Nat.add_sub_cancel, List.getElem?_append_right (Nat.le_refl _), Nat.sub_self]; rfl), ?_⟩
    rw [List.dropLast_concat]
    have lp : p ≠ l := fun z => by rw [z, hl] at hp; cases hp
    have lf : f ≠ l := fun z => by rw [z, hl] at hf; cases hf
    have l1 : upd H l (.lst xs) l = some (.lst xs) := upd_same
    have p1 : upd H l (.lst xs) p = some (.ins CM dx (maF v0 v1 v2 v3 (.ref l) v5 v6)) := (upd_ne lp).trans hp
    have f1 : upd H l (.lst xs) f = some (.ins CF df (frF a tg b)) := (upd_ne lf).trans hf
    have k1 : Bu [p, l] H (upd H l (.lst xs)) := Bu.upd (.same (.refl _)) (.inl (by simp))
    rcases h with ⟨rfl, q⟩ | ⟨ys, g, dg, s, ds, dn, fs, x, kvs, tg2, b2, rfl, rfl, hg, hs, ls, hn, hz, q⟩
    · generalize upd H l (.lst []) = G at l1 p1 f1 k1
      refine ⟨_, rfl, p, CM, dx, _, _, rfl, p1, T.cMachine, T.nMachine_frames, maF_frames _ _ _ _ _ _ _, _, .inl ⟨_, SqL.of l1, rfl⟩, iteF ?_⟩
      refine ⟨_, rfl, (by show 2 ≤ sizeLine; rw [sizeLine_eq]; omega), fun t nt => ?_⟩
      have pt : t ≠ p := fun z => by rw [z, p1] at nt; cases nt
      have lt : t ≠ l := fun z => by rw [z, l1] at nt; cases nt
      refine ⟨_, rfl, p, CM, dx, _, rfl, (upd_ne (Ne.symm pt)).trans p1, T.cMachine, T.nMachine_outcome, (by rw [maF_len]; decide), ?_⟩
      rw [maF_put_outcome]
      have nHt : H t = none := Bu.none k1 nt (by simp [pt, lt])
      exact q t _ ((k1.upd (.inr nHt)).upd (.inl (by simp))) nHt ((upd_ne (Ne.symm lp)).trans ((upd_ne (Ne.symm lt)).trans l1)) upd_same (SqT.of ((upd_ne pt).trans upd_same))
    · have lg : g ≠ l := fun z => by rw [z, hl] at hg; cases hg
      have ls' : s ≠ l := fun z => by rw [z, hl] at hs; cases hs
      have ln' : dn ≠ l := fun z => by rw [z, hl] at hn; cases hn
      have g1 : upd H l (.lst (ys ++ [.ref g])) g = some (.ins CF dg (frF (.ref s) tg2 b2)) := (upd_ne lg).trans hg
      have s1 : upd H l (.lst (ys ++ [.ref g])) s = some (.ins CS ds fs) := (upd_ne ls').trans hs
      have n1 : upd H l (.lst (ys ++ [.ref g])) dn = some (.dK kvs) := (upd_ne ln').trans hn
      refine ⟨_, rfl, p, CM, dx, _, _, rfl, p1, T.cMachine, T.nMachine_frames, maF_frames _ _ _ _ _ _ _, _, .inl ⟨_, SqL.of l1, rfl⟩, ?_⟩
      rw [show (!(ys ++ [V.ref g]).isEmpty) = true from by cases ys <;> rfl]
      refine iteT ?_
      refine ⟨_, rfl, _, rfl, p, CM, dx, _, _, rfl, p1, T.cMachine, T.nMachine_frames, maF_frames _ _ _ _ _ _ _, ?_⟩
      refine ⟨1, rfl, l, _, _, .ref g, rfl, rfl, SqL.of l1, atI_last ys _, ?_⟩
      refine ⟨g, CF, dg, _, _, rfl, g1, T.cFrame, T.nFrame_state, frF_state _ _ _, ?_⟩
      refine ⟨s, CS, ds, fs, _, rfl, s1, TR.cs, TR.s0, ls, ?_⟩
      refine ⟨_, rfl, f, CF, df, _, _, rfl, f1, T.cFrame, T.nFrame_target, frF_target _ _ _, ?_⟩
      exact ⟨dn, _, rfl, DPut.k (k := .inr x) n1 (small_sz (by omega)), q⟩
end
end SW

namespace SW
open PySem PySem.Spec PyProof.Rows L2
abbrev s_set : Stmt := topS 17
theorem sc_set : FnScope ["machine", "frame", "statement", "_", "row", "name", "term", "value"] ["machine", "frame", "statement"] (defScope s_set) := ⟨rfl, rfl, rfl, by decide +kernel, rfl, by decide +kernel, by decide +kernel⟩

abbrev s_check : Stmt := topS 22
theorem sc_check : FnScope ["machine", "frame", "statement", "answer"] ["machine", "frame", "statement"] (defScope s_check) := ⟨rfl, rfl, rfl, by decide +kernel, rfl, by decide +kernel, by decide +kernel⟩

abbrev s_return : Stmt := topS 23
theorem sc_return : FnScope ["machine", "frame", "statement", "value"] ["machine", "frame", "statement"] (defScope s_return) := ⟨rfl, rfl, rfl, by decide +kernel, rfl, by decide +kernel, by decide +kernel⟩

abbrev s_skip : Stmt := topS 24
theorem sc_skip : FnScope ["machine", "frame", "statement"] ["machine", "frame", "statement"] (defScope s_skip) := ⟨rfl, rfl, rfl, by decide +kernel, rfl, by decide +kernel, by decide +kernel⟩

/-! ### the machine and a frame, as they stand; the actions that write no list -/
structure CkM (K : PySem.W.Frag) (C : Addr) (x q : PySem.Str) (s : Stmt) (ps : List PySem.Str) where
  f : Addr
  fd : FuncData
  F : Fun K x q s f fd
  b : Binds K fd ps []
  M : Meth K C x f
structure Ma where
  m : Addr
  dx : Addr
  pg : Addr
  ch : Addr
  k : Nat
  st : Int
  fr : Addr
  tu : Addr
  out : V
def Ma.fs (a : Ma) : List (PySem.Str × V) := maF (.ref a.pg) (.ref a.ch) (.int a.k) (.int a.st) (.ref a.fr) (.ref a.tu) a.out
def Ma.At (CM : Addr) (H : Hp) (a : Ma) : Prop := H a.m = some (.ins CM a.dx a.fs)
structure Fr where
  f : Addr
  dx : Addr
  s : Addr
  tg : V
  pl : Addr
def Fr.At (CF : Addr) (H : Hp) (a : Fr) : Prop := H a.f = some (.ins CF a.dx (frF (.ref a.s) a.tg (.ref a.pl)))
/-- a fault ends the run -/
def FtK (K : PySem.W.Frag) (CM : Addr) (a : Ma) (H : Hp) (Q : VK) : Prop := ∀ (t : Addr) (r : Int) (z : PySem.Str) (H' : Hp), Bu [a.m] H H' → H t = none → Ma.At CM H' { a with out := .ref t } → SqT K H' t [.str "fault", .int r, .str z] → Q .non H'
section
variable {P : Program} {w : World} {K : PySem.W.Frag} {mg : PySem.Str → Option Value} {base : Heap} {CP CG pp gg CS CU CL CF CM pq gq : Addr}
theorem FtK.sp {a : Ma} {H : Hp} {Q : VK} {E : XK} (h : FtK K CM a H Q) (hm : a.At CM H) {r : Int} {z : PySem.Str} : spFault K CM [.ref a.m, .int r, .str z] H Q E :=
  ⟨a.m, a.dx, r, z, _, _, _, _, _, _, _, rfl, hm, fun t H' h1 h2 h3 h4 => h t r z H' h1 h2 h3 h4⟩
def spAct (K : PySem.W.Frag) (CS CF CM : Addr) (d : (nn ln : List PySem.Str) → PyData → Prop) (R : Ma → Fr → (nn ln : List PySem.Str) → PyData → Hp → VK → Prop) : Sp := fun vs H Q _ => ∃ (a : Ma) (f : Fr) (v : V) (e : PyData) (nn ln : List PySem.Str) (la : PySem.Str → Addr), vs = [.ref a.m, .ref f.f, v] ∧ a.At CM H ∧ f.At CF H ∧ SaAt CS H f.s nn ln la ∧ Dp K H v e ∧ d nn ln e ∧ FtK K CM a H Q ∧ R a f nn ln e H Q
def dSet (nn ln : List PySem.Str) (e : PyData) : Prop := ∃ (r : Int) (x : PySem.Str) (t : Tm), e = .tuple [.str "set", .int r, .str x, t.enc] ∧ t.ok nn ln
/-- the number x gets some value -/
def rSet (CS : Addr) (_ : Ma) (f : Fr) (_ _ : List PySem.Str) (e : PyData) (H : Hp) (Q : VK) : Prop := ∀ (r : Int) (x : PySem.Str) (d : PyData), e = .tuple [.str "set", .int r, .str x, d] → ∀ (dx dn : Addr) (fs : List (PySem.Str × V)) (kvs : List (Key × V)) (z : Int), H f.s = some (.ins CS dx fs) → fs.lookup ("numbers" : PySem.Str) = some (.ref dn) → H dn = some (.dK kvs) → kvs.length ≤ 100 → Q .non (upd H dn (.dK (putK kvs (.inr x) (.int z))))
theorem ok_set (T : TxM K mg CP CG pp gg CS CU CL CF CM) (TR : TxR K mg CS) (c_fault : CkM K CM "fault" "Machine.fault" s_Machine_fault ["self", "row", "kind"]) (D_value_of : Df K mg "value_of" s_value_of ["term", "state"]) (D_cells_of : Df K mg "_cells_of" s_cells_of ["which", "state"]) (D_set : Df K mg "_set" s_set ["machine", "frame", "statement"]) : FnOk P w K mg base CX0 4 D_set.f D_set.fd ["machine", "frame", "statement"] (spAct K CS CF CM dSet (rSet CS)) := by
  have G_fault := ok_fault (P := P) (w := w) (base := base) c_fault.F T
  have m_fault := c_fault.M
  have b_fault := c_fault.b
  have G_value_of := ok_value_of (P := P) (w := w) (base := base) TR D_value_of D_cells_of
  refine D_set.F.ok sc_set (fun vs H Q E h => ?_) (fun cdv A outer s H vs Q E hr h => ?_)
  · obtain ⟨a, f, v, e, nn, ln, la, rfl, _⟩ := h
    rfl
  · obtain ⟨a, f, v, e, nn, ln, la, rfl, hm, hf, st, hv, ⟨r, x, t, rfl, ht⟩, ft, q⟩ := h
    refine ⟨_, (pss_cons (ps_asg (pv 2) (pg_tup (by rfl) (pgs_cons (pg_name (i := 3) sc_set.nd rfl (.inl rfl)) (pgs_cons (pg_name (i := 4) sc_set.nd rfl (.inl rfl)) (pgs_cons (pg_name (i := 5) sc_set.nd rfl (.inl rfl)) (pgs_cons (pg_name (i := 6) sc_set.nd rfl (.inl rfl)) pgs_nil))))))
    (pss_cons (ps_set (i := 7) sc_set.nd rfl (.inl rfl) (pe_call G_value_of (hr.mono (by decide)) (by rfl) D_value_of.g D_value_of.F.kp D_value_of.b .nil pass0 (pa_cons (pv 6) (pa_cons (pe_fld (pv 1) rfl) pa_nil))))
    (pss_one (ps_if (pt_cmpR op_isN (pv 7) pe_non (nomark _))
    (pss_one (ps_expr (pe_meth (pv 0) T.cMachine m_fault G_fault (hr.mono (by decide)) b_fault .nil pass0 (pa_cons (pv 4) (pa_cons pe_str pa_nil)))))
    (pss_one (ps_dput (hu_of hr) (pe_fld (pe_fld (pv 1) rfl) rfl) (pv 5) (pv 7) rfl)))))), ?_⟩
    obtain ⟨b, v1, v2, v3, v4, rfl, hb, h1, h2, h3, h4⟩ := dp4 hv
    cases dp_str_inv h1
    cases dpi h2
    cases dp_str_inv h3
    refine ⟨_, rfl, b, _, rfl, hb, rfl, _, _, rfl, _, _, rfl, _, _, rfl, _, _, rfl, rfl, ?_⟩
    refine ⟨_, rfl, _, rfl, f.f, CF, f.dx, _, _, rfl, hf, T.cFrame, T.nFrame_state, frF_state _ _ _, v4, f.s, t, nn, ln, la, rfl, h4, st, ht, fun z => ?_, fun _ => ?_⟩
    · refine ⟨_, rfl, rfl, _, rfl, iteF ?_⟩
      obtain ⟨dn, dl, dx, fs, e, l1, l2, ⟨k1, e1, z1, f1⟩, k2, e2, f2⟩ := st.ex
      refine ⟨_, rfl, _, rfl, f.f, CF, f.dx, _, _, rfl, hf, T.cFrame, T.nFrame_state, frF_state _ _ _, f.s, CS, dx, fs, _, rfl, e, TR.cs, TR.s0, l1, _, rfl, dn, _, rfl, DPut.k (k := .inr x) e1 (small_sz (by omega)), ?_⟩
      exact q r x _ rfl dx dn fs k1 z e l1 e1 z1
    · refine ⟨_, rfl, rfl, _, rfl, iteT ?_⟩
      exact ⟨_, rfl, a.m, a.dx, _, rfl, hm, maF_no_fault _ _ _ _ _ _ _, _, rfl, ft.sp (E := E0) hm⟩
def dCheck (nn ln : List PySem.Str) (e : PyData) : Prop := ∃ (r : Int) (co : CoD 4), e = .tuple [.str "check", .int r, encC 4 co] ∧ okC nn ln 4 co
theorem ok_check (T : TxM K mg CP CG pp gg CS CU CL CF CM) (TR : TxR K mg CS) (c_fault : CkM K CM "fault" "Machine.fault" s_Machine_fault ["self", "row", "kind"]) (D_value_of : Df K mg "value_of" s_value_of ["term", "state"]) (D_cells_of : Df K mg "_cells_of" s_cells_of ["which", "state"]) (D_compares : Df K mg "compares" s_compares ["sign", "left", "right"]) (D_answer : Df K mg "_answer" s_answer ["condition", "state"]) (D_check : Df K mg "_check" s_check ["machine", "frame", "statement"]) : FnOk P w K mg base CX0 11 D_check.f D_check.fd ["machine", "frame", "statement"] (spAct K CS CF CM dCheck fun _ _ _ _ _ H Q => Q .non H) := by
  have G_fault := ok_fault (P := P) (w := w) (base := base) c_fault.F T
  have m_fault := c_fault.M
  have b_fault := c_fault.b
  have G_answer := (ok_answer (P := P) (w := w) (base := base) TR D_answer D_value_of D_cells_of D_compares 4).mono (show 8 ≤ 10 by decide)
  refine D_check.F.ok sc_check (fun vs H Q E h => ?_) (fun cdv A outer s H vs Q E hr h => ?_)
  · obtain ⟨a, f, v, e, nn, ln, la, rfl, _⟩ := h
    rfl
  · obtain ⟨a, f, v, e, nn, ln, la, rfl, hm, hf, st, hv, ⟨r, co, rfl, ht⟩, ft, q⟩ := h
    refine ⟨_, (pss_cons (ps_set (i := 3) sc_check.nd rfl (.inl rfl) (pe_call G_answer (hr.mono (by decide)) (by rfl) D_answer.g D_answer.F.kp D_answer.b .nil pass0 (pa_cons (pe_ix ix_tup (pv 2) pe_int (fun _ _ => rfl)) (pa_cons (pe_fld (pv 1) rfl) pa_nil))))
    (pss_one (ps_if (pt_cmpR op_isN (pv 3) pe_non (nomark _))
    (pss_one (ps_expr (pe_meth (pv 0) T.cMachine m_fault G_fault (hr.mono (by decide)) b_fault .nil pass0 (pa_cons (pe_ix ix_tup (pv 2) pe_int (fun _ _ => rfl)) (pa_cons pe_str pa_nil)))))
    (pss_one (ps_if (pt_not (pt_val (pv 3)))
    (pss_one (ps_expr (pe_meth (pv 0) T.cMachine m_fault G_fault (hr.mono (by decide)) b_fault .nil pass0 (pa_cons (pe_ix ix_tup (pv 2) pe_int (fun _ _ => rfl)) (pa_cons pe_str pa_nil)))))
    pss_nil))))), ?_⟩
    obtain ⟨b, v1, v2, v3, rfl, hb, h1, h2, h3⟩ := dp3 hv
    cases dp_str_inv h1
    cases dpi h2
    refine ⟨_, rfl, b, _, _, _, rfl, rfl, hb, atI_nat (j := 2) rfl, _, rfl, f.f, CF, f.dx, _, _, rfl, hf, T.cFrame, T.nFrame_state, frF_state _ _ _, ?_⟩
    refine ⟨v3, f.s, co, nn, ln, la, rfl, h3, st, ht, fun c => ?_, ?_⟩
    · refine ⟨_, rfl, rfl, _, rfl, iteF ?_⟩
      cases c with
      | true => exact ⟨_, rfl, _, rfl, iteF q⟩
      | false => exact ⟨_, rfl, _, rfl, iteT ⟨_, rfl, a.m, a.dx, _, rfl, hm, maF_no_fault _ _ _ _ _ _ _, _, rfl, b, _, _, _, rfl, rfl, hb, atI_nat (j := 1) rfl, ft.sp (E := E0) hm⟩⟩
    · refine ⟨_, rfl, rfl, _, rfl, iteT ?_⟩
      exact ⟨_, rfl, a.m, a.dx, _, rfl, hm, maF_no_fault _ _ _ _ _ _ _, _, rfl, b, _, _, _, rfl, rfl, hb, atI_nat (j := 1) rfl, ft.sp (E := E0) hm⟩
def dRet (nn ln : List PySem.Str) (e : PyData) : Prop := ∃ (r : Int) (t : Tm), e = .tuple [.str "return", .int r, t.enc] ∧ t.ok nn ln
theorem ok_skip (D_skip : Df K mg "_skip" s_skip ["machine", "frame", "statement"]) : FnOk P w K mg base CX0 1 D_skip.f D_skip.fd ["machine", "frame", "statement"] (fun vs H Q _ => ∃ a b c, vs = [a, b, c] ∧ Q .non H) := by
  refine D_skip.F.ok sc_skip (fun vs H Q E h => ?_) (fun cdv A outer s H vs Q E hr h => ?_)
  · obtain ⟨a, b, c, rfl, _⟩ := h
    rfl
  · obtain ⟨a, b, c, rfl, q⟩ := h
    exact ⟨_, (pss_one ps_pass), q⟩
end
end SW

namespace SW
open PySem PySem.Spec PyProof.Rows L2
abbrev s_if : Stmt := topS 25
theorem sc_if : FnScope ["machine", "frame", "statement", "answer"] ["machine", "frame", "statement"] (defScope s_if) := ⟨rfl, rfl, rfl, by decide +kernel, rfl, by decide +kernel, by decide +kernel⟩

abbrev s_choose : Stmt := topS 20
theorem sc_choose : FnScope ["machine", "frame", "statement", "_", "row", "name", "lo", "hi", "low", "many"] ["machine", "frame", "statement"] (defScope s_choose) := ⟨rfl, rfl, rfl, by decide +kernel, rfl, by decide +kernel, by decide +kernel⟩

/-! ### return, if, choose -/
section
variable {P : Program} {w : World} {K : PySem.W.Frag} {mg : PySem.Str → Option Value} {base : Heap} {CP CG pp gg CS CU CL CF CM pq gq : Addr}
theorem ok_return (T : TxM K mg CP CG pp gg CS CU CL CF CM) (TR : TxR K mg CS) (c_fault : CkM K CM "fault" "Machine.fault" s_Machine_fault ["self", "row", "kind"]) (c_finish : CkM K CM "finish" "Machine.finish" s_Machine_finish ["self", "value"]) (D_value_of : Df K mg "value_of" s_value_of ["term", "state"]) (D_cells_of : Df K mg "_cells_of" s_cells_of ["which", "state"]) (D_return : Df K mg "_return" s_return ["machine", "frame", "statement"]) : FnOk P w K mg base CX0 4 D_return.f D_return.fd ["machine", "frame", "statement"] (spAct K CS CF CM dRet fun a _ _ _ _ H Q => ∀ z : Int, spFinish K CS CF CM [.ref a.m, .int z] H Q E0) := by
  have G_fault := ok_fault (P := P) (w := w) (base := base) c_fault.F T
  have m_fault := c_fault.M
  have b_fault := c_fault.b
  have G_finish := ok_finish (P := P) (w := w) (base := base) c_finish.F T TR
  have m_finish := c_finish.M
  have b_finish := c_finish.b
  have G_value_of := ok_value_of (P := P) (w := w) (base := base) TR D_value_of D_cells_of
  refine D_return.F.ok sc_return (fun vs H Q E h => ?_) (fun cdv A outer s H vs Q E hr h => ?_)
  · obtain ⟨a, f, v, e, nn, ln, la, rfl, _⟩ := h
    rfl
  · obtain ⟨a, f, v, e, nn, ln, la, rfl, hm, hf, st, hv, ⟨r, t, rfl, ht⟩, ft, q⟩ := h
    refine ⟨_, (pss_cons (ps_set (i := 3) sc_return.nd rfl (.inl rfl) (pe_call G_value_of (hr.mono (by decide)) (by rfl) D_value_of.g D_value_of.F.kp D_value_of.b .nil pass0 (pa_cons (pe_ix ix_tup (pv 2) pe_int (fun _ _ => rfl)) (pa_cons (pe_fld (pv 1) rfl) pa_nil))))
    (pss_one (ps_if (pt_cmpR op_isN (pv 3) pe_non (nomark _))
    (pss_one (ps_expr (pe_meth (pv 0) T.cMachine m_fault G_fault (hr.mono (by decide)) b_fault .nil pass0 (pa_cons (pe_ix ix_tup (pv 2) pe_int (fun _ _ => rfl)) (pa_cons pe_str pa_nil)))))
    (pss_one (ps_expr (pe_meth (pv 0) T.cMachine m_finish G_finish (hr.mono (by decide)) b_finish .nil pass0 (pa_cons (pv 3) pa_nil))))))), ?_⟩
    obtain ⟨b, v1, v2, v3, rfl, hb, h1, h2, h3⟩ := dp3 hv
    cases dp_str_inv h1
    cases dpi h2
    refine ⟨_, rfl, b, _, _, _, rfl, rfl, hb, atI_nat (j := 2) rfl, _, rfl, f.f, CF, f.dx, _, _, rfl, hf, T.cFrame, T.nFrame_state, frF_state _ _ _, v3, f.s, t, nn, ln, la, rfl, h3, st, ht, fun z => ?_, fun _ => ?_⟩
    · refine ⟨_, rfl, rfl, _, rfl, iteF ?_⟩
      exact ⟨_, rfl, a.m, a.dx, _, rfl, hm, maF_no_finish _ _ _ _ _ _ _, _, rfl, q z⟩
    · refine ⟨_, rfl, rfl, _, rfl, iteT ?_⟩
      exact ⟨_, rfl, a.m, a.dx, _, rfl, hm, maF_no_fault _ _ _ _ _ _ _, _, rfl, b, _, _, _, rfl, rfl, hb, atI_nat (j := 1) rfl, ft.sp (E := E0) hm⟩
def dIf (nn ln : List PySem.Str) (e : PyData) : Prop := ∃ (r : Int) (co : CoD 4) (d1 d2 : PyData), e = .tuple [.str "if", .int r, encC 4 co, d1, d2] ∧ okC nn ln 4 co
theorem dp5 {K : PySem.W.Frag} {H : Hp} {v : V} {d1 d2 d3 d4 d5 : PyData} (h : Dp K H v (.tuple [d1, d2, d3, d4, d5])) : ∃ t v1 v2 v3 v4 v5, v = .ref t ∧ SqT K H t [v1, v2, v3, v4, v5] ∧ Dp K H v1 d1 ∧ Dp K H v2 d2 ∧ Dp K H v3 d3 ∧ Dp K H v4 d4 ∧ Dp K H v5 d5 := by
  obtain ⟨t, xs, rfl, ht, ha⟩ := dp_tup_inv h
  cases ha with
  | cons h1 ha => cases ha with
    | cons h2 ha => cases ha with
      | cons h3 ha => cases ha with
        | cons h4 ha => cases ha with
          | cons h5 ha =>
            cases ha
            exact ⟨t, _, _, _, _, _, rfl, ht, h1, h2, h3, h4, h5⟩
/-- one of the two blocks is entered -/
def rIf (K : PySem.W.Frag) (CF CL : Addr) (_ : Ma) (f : Fr) (_ _ : List PySem.Str) (e : PyData) (H : Hp) (Q : VK) : Prop := ∀ (d0 d1 d2 d3 d4 : PyData), e = .tuple [d0, d1, d2, d3, d4] → ∀ c, Dp K H c d3 ∨ Dp K H c d4 → spEnter CF CL [.ref f.f, c] H Q E0
theorem ok_if (T : TxM K mg CP CG pp gg CS CU CL CF CM) (TR : TxR K mg CS) (c_fault : CkM K CM "fault" "Machine.fault" s_Machine_fault ["self", "row", "kind"]) (c_Place : CkI K CL "Place.__init__" s_Place ["self", "block"]) (c_enter : CkM K CF "enter" "Frame.enter" s_Frame_enter ["self", "block"]) (D_value_of : Df K mg "value_of" s_value_of ["term", "state"]) (D_cells_of : Df K mg "_cells_of" s_cells_of ["which", "state"]) (D_compares : Df K mg "compares" s_compares ["sign", "left", "right"]) (D_answer : Df K mg "_answer" s_answer ["condition", "state"]) (D_if : Df K mg "_if" s_if ["machine", "frame", "statement"]) : FnOk P w K mg base CX0 11 D_if.f D_if.fd ["machine", "frame", "statement"] (spAct K CS CF CM dIf (rIf K CF CL)) := by
  have G_fault := ok_fault (P := P) (w := w) (base := base) c_fault.F T
  have m_fault := c_fault.M
  have b_fault := c_fault.b
  have G_enter := ok_enter (P := P) (w := w) (base := base) c_enter.F T c_Place
  have m_enter := c_enter.M
  have b_enter := c_enter.b
  have G_answer := (ok_answer (P := P) (w := w) (base := base) TR D_answer D_value_of D_cells_of D_compares 4).mono (show 8 ≤ 10 by decide)
  refine D_if.F.ok sc_if (fun vs H Q E h => ?_) (fun cdv A outer s H vs Q E hr h => ?_)
  · obtain ⟨a, f, v, e, nn, ln, la, rfl, _⟩ := h
    rfl
  · obtain ⟨a, f, v, e, nn, ln, la, rfl, hm, hf, st, hv, ⟨r, co, d1, d2, rfl, ht⟩, ft, q⟩ := h
    refine ⟨_, (pss_cons (ps_set (i := 3) sc_if.nd rfl (.inl rfl) (pe_call G_answer (hr.mono (by decide)) (by rfl) D_answer.g D_answer.F.kp D_answer.b .nil pass0 (pa_cons (pe_ix ix_tup (pv 2) pe_int (fun _ _ => rfl)) (pa_cons (pe_fld (pv 1) rfl) pa_nil))))
    (pss_one (ps_if (pt_cmpR op_isN (pv 3) pe_non (nomark _))
    (pss_one (ps_expr (pe_meth (pv 0) T.cMachine m_fault G_fault (hr.mono (by decide)) b_fault .nil pass0 (pa_cons (pe_ix ix_tup (pv 2) pe_int (fun _ _ => rfl)) (pa_cons pe_str pa_nil)))))
    (pss_one (ps_expr (pe_meth (pv 1) T.cFrame m_enter G_enter (hr.mono (by decide)) b_enter .nil pass0 (pa_cons (pe_ifExp (pt_val (pv 3)) (pe_ix ix_tup (pv 2) pe_int (fun _ _ => rfl)) (pe_ix ix_tup (pv 2) pe_int (fun _ _ => rfl))) pa_nil))))))), ?_⟩
    obtain ⟨b, v1, v2, v3, v4, v5, rfl, hb, h1, h2, h3, h4, h5⟩ := dp5 hv
    cases dp_str_inv h1
    cases dpi h2
    refine ⟨_, rfl, b, _, _, _, rfl, rfl, hb, atI_nat (j := 2) rfl, _, rfl, f.f, CF, f.dx, _, _, rfl, hf, T.cFrame, T.nFrame_state, frF_state _ _ _, ?_⟩
    refine ⟨v3, f.s, co, nn, ln, la, rfl, h3, st, ht, fun c => ?_, ?_⟩
    · refine ⟨_, rfl, rfl, _, rfl, iteF ?_⟩
      refine ⟨_, rfl, f.f, f.dx, _, rfl, hf, frF_no_enter _ _ _, ?_⟩
      cases c with
      | true => exact ⟨_, rfl, _, rfl, iteT ⟨_, rfl, b, _, _, _, rfl, rfl, hb, atI_nat (j := 3) rfl, q _ _ _ _ _ rfl v4 (.inl h4)⟩⟩
      | false => exact ⟨_, rfl, _, rfl, iteF ⟨_, rfl, b, _, _, _, rfl, rfl, hb, atI_nat (j := 4) rfl, q _ _ _ _ _ rfl v5 (.inr h5)⟩⟩
    · refine ⟨_, rfl, rfl, _, rfl, iteT ?_⟩
      exact ⟨_, rfl, a.m, a.dx, _, rfl, hm, maF_no_fault _ _ _ _ _ _ _, _, rfl, b, _, _, _, rfl, rfl, hb, atI_nat (j := 1) rfl, ft.sp (E := E0) hm⟩
end
end SW

namespace SW
open PySem PySem.Spec PyProof.Rows L2
abbrev s_put : Stmt := topS 18
theorem sc_put : FnScope ["machine", "frame", "statement", "_", "row", "name", "index", "term", "value", "cells", "at"] ["machine", "frame", "statement"] (defScope s_put) := ⟨rfl, rfl, rfl, by decide +kernel, rfl, by decide +kernel, by decide +kernel⟩

/-! ### put, swap -/
section
variable {P : Program} {w : World} {K : PySem.W.Frag} {mg : PySem.Str → Option Value} {base : Heap} {CP CG pp gg CS CU CL CF CM pq gq : Addr}
def spActL (K : PySem.W.Frag) (CS CF CM : Addr) (d : (nn ln : List PySem.Str) → PyData → Prop) (R : (PySem.Str → Addr) → PyData → Hp → VK → Prop) : Sp := fun vs H Q _ => ∃ (a : Ma) (f : Fr) (v : V) (e : PyData) (nn ln : List PySem.Str) (la : PySem.Str → Addr), vs = [.ref a.m, .ref f.f, v] ∧ a.At CM H ∧ f.At CF H ∧ SaAt CS H f.s nn ln la ∧ Dp K H v e ∧ d nn ln e ∧ FtK K CM a H Q ∧ R la e H Q
def dPut (nn ln : List PySem.Str) (e : PyData) : Prop := ∃ (r : Int) (x : PySem.Str) (i : Pl) (t : Tm), e = .tuple [.str "put", .int r, .str x, i.enc, t.enc] ∧ x ∈ ln ∧ i.ok nn ln ∧ t.ok nn ln
/-- a cell of the list x gets some value -/
def rPut (la : PySem.Str → Addr) (e : PyData) (H : Hp) (Q : VK) : Prop := ∀ (d0 d1 d3 d4 : PyData) (x : PySem.Str), e = .tuple [d0, d1, .str x, d3, d4] → ∀ (cs : List Int) (j : Nat) (z : Int), H (la x) = some (.lst (cs.map V.int)) → j < cs.length → Q .non (upd H (la x) (.lst ((cs.map V.int).set j (.int z))))
theorem ok_put (T : TxM K mg CP CG pp gg CS CU CL CF CM) (TR : TxR K mg CS) (c_fault : CkM K CM "fault" "Machine.fault" s_Machine_fault ["self", "row", "kind"]) (D_value_of : Df K mg "value_of" s_value_of ["term", "state"]) (D_cells_of : Df K mg "_cells_of" s_cells_of ["which", "state"]) (D_put : Df K mg "_put" s_put ["machine", "frame", "statement"]) : FnOk P w K mg base CX0 4 D_put.f D_put.fd ["machine", "frame", "statement"] (spActL K CS CF CM dPut rPut) := by
  have G_fault := ok_fault (P := P) (w := w) (base := base) c_fault.F T
  have m_fault := c_fault.M
  have b_fault := c_fault.b
  have G_value_of := ok_value_of (P := P) (w := w) (base := base) TR D_value_of D_cells_of
  refine D_put.F.ok sc_put (fun vs H Q E h => ?_) (fun cdv A outer s H vs Q E hr h => ?_)
  · obtain ⟨a, f, v, e, nn, ln, la, rfl, _⟩ := h
    rfl
  · obtain ⟨a, f, v, e, nn, ln, la, rfl, hm, hf, st, hv, ⟨r, x, i, t, rfl, hx, hi, ht⟩, ft, q⟩ := h
    refine ⟨_, (pss_cons (ps_asg (pv 2) (pg_tup (by rfl) (pgs_cons (pg_name (i := 3) sc_put.nd rfl (.inl rfl)) (pgs_cons (pg_name (i := 4) sc_put.nd rfl (.inl rfl)) (pgs_cons (pg_name (i := 5) sc_put.nd rfl (.inl rfl)) (pgs_cons (pg_name (i := 6) sc_put.nd rfl (.inl rfl)) (pgs_cons (pg_name (i := 7) sc_put.nd rfl (.inl rfl)) pgs_nil)))))))
    (pss_cons (ps_set (i := 8) sc_put.nd rfl (.inl rfl) (pe_call G_value_of (hr.mono (by decide)) (by rfl) D_value_of.g D_value_of.F.kp D_value_of.b .nil pass0 (pa_cons (pv 7) (pa_cons (pe_fld (pv 1) rfl) pa_nil))))
    (pss_cons (ps_set (i := 9) sc_put.nd rfl (.inl rfl) (pe_dget (hu_of hr) (pe_fld (pe_fld (pv 1) rfl) rfl) (pv 5) (fun _ _ => rfl)))
    (pss_cons (ps_set (i := 10) sc_put.nd rfl (.inl rfl) (pe_call G_value_of (hr.mono (by decide)) (by rfl) D_value_of.g D_value_of.F.kp D_value_of.b .nil pass0 (pa_cons (pv 6) (pa_cons (pe_fld (pv 1) rfl) pa_nil))))
    (pss_one (ps_if (PW.pt (pw_or (pt_cmpR op_isN (pv 8) pe_non (nomark _)) (pw_or1 (pt_not (pt_chain op_le op_lt pe_int (pv 10) (pe_callB call_len_seq (by rfl) T.n_len PySem.boot_len (pa_cons (pv 9) pa_nil)))))))
    (pss_one (ps_expr (pe_meth (pv 0) T.cMachine m_fault G_fault (hr.mono (by decide)) b_fault .nil pass0 (pa_cons (pv 4) (pa_cons pe_str pa_nil)))))
    (pss_one (ps_asg (pv 8) (pg_sub (pv 9) (pv 10) set_list))))))))), ?_⟩
    obtain ⟨b, v1, v2, v3, v4, v5, rfl, hb, h1, h2, h3, h4, h5⟩ := dp5 hv
    cases dp_str_inv h1
    cases dpi h2
    cases dp_str_inv h3
    obtain ⟨dn, dl, dx, fs, e, l1, l2, ⟨k1, e1, z1, f1⟩, k2, e2, f2⟩ := id st.ex
    obtain ⟨g1, cs, g2, g3⟩ := f2 x hx
    have rest : ∀ (u : V), (u = .non ∨ ∃ z : Int, u = .int z) → ∀ n : Int, True := fun _ _ _ => trivial
    refine ⟨_, rfl, b, _, rfl, hb, rfl, _, _, rfl, _, _, rfl, _, _, rfl, _, _, rfl, _, _, rfl, rfl, ?_⟩
    refine ⟨_, rfl, _, rfl, f.f, CF, f.dx, _, _, rfl, hf, T.cFrame, T.nFrame_state, frF_state _ _ _, v5, f.s, t, nn, ln, la, rfl, h5, st, ht, fun z => ?_, fun _ => ?_⟩
    · refine ⟨_, rfl, f.f, CF, f.dx, _, _, rfl, hf, T.cFrame, T.nFrame_state, frF_state _ _ _, f.s, CS, dx, fs, _, rfl, e, TR.cs, TR.s1, l2, _, rfl, dl, _, rfl, g1 ▸ DGet.k (k := .inr x) e2, ?_⟩
      refine ⟨_, rfl, _, rfl, f.f, CF, f.dx, _, _, rfl, hf, T.cFrame, T.nFrame_state, frF_state _ _ _, v4, f.s, .pl i, nn, ln, la, rfl, h4, st, hi, fun n => ?_, fun ⟨_, _, _, c⟩ => nomatch c⟩
      refine ⟨_, rfl, rfl, _, rfl, iteF ?_⟩
      refine ⟨_, rfl, _, _, rfl, rfl, _, rfl, ite2 (fun e3 => ?_) (fun e3 => ?_)⟩
      · have e3 := of_decide_eq_true e3
        refine ⟨_, rfl, la x, _, rfl, .inl (SqL.of g2), _, _, rfl, rfl, _, rfl, ?_⟩
        refine ite2 (fun e4 => ?_) (fun e4 => ?_)
        · exact ⟨_, rfl, a.m, a.dx, _, rfl, hm, maF_no_fault _ _ _ _ _ _ _, _, rfl, ft.sp (E := E0) hm⟩
        · obtain ⟨j, rfl⟩ : ∃ j : Nat, n = j := ⟨n.toNat, by omega⟩
          have hj : j < cs.length := by
            rw [List.length_map] at e4
            by_cases h : (j : Int) < (cs.length : Int)
            · omega
            · exact absurd (by rw [decide_eq_false h]; rfl) e4
          refine ⟨_, rfl, _, rfl, _, rfl, la x, _, (j : Int), j, rfl, rfl, g2, ?_, q _ _ _ _ x rfl cs j z g2 hj⟩
          unfold ixN
          rw [if_pos (by omega), if_pos (by rw [List.length_map]; omega), Int.toNat_natCast]
      · refine ⟨_, rfl, iteT ?_⟩
        exact ⟨_, rfl, a.m, a.dx, _, rfl, hm, maF_no_fault _ _ _ _ _ _ _, _, rfl, ft.sp (E := E0) hm⟩
    · refine ⟨_, rfl, f.f, CF, f.dx, _, _, rfl, hf, T.cFrame, T.nFrame_state, frF_state _ _ _, f.s, CS, dx, fs, _, rfl, e, TR.cs, TR.s1, l2, _, rfl, dl, _, rfl, g1 ▸ DGet.k (k := .inr x) e2, ?_⟩
      refine ⟨_, rfl, _, rfl, f.f, CF, f.dx, _, _, rfl, hf, T.cFrame, T.nFrame_state, frF_state _ _ _, v4, f.s, .pl i, nn, ln, la, rfl, h4, st, hi, fun n => ?_, fun ⟨_, _, _, c⟩ => nomatch c⟩
      refine ⟨_, rfl, rfl, _, rfl, iteT (iteT ?_)⟩
      exact ⟨_, rfl, a.m, a.dx, _, rfl, hm, maF_no_fault _ _ _ _ _ _ _, _, rfl, ft.sp (E := E0) hm⟩
end
end SW

namespace SW
open PySem PySem.Spec PyProof.Rows L2
abbrev s_swap : Stmt := topS 19
theorem sc_swap : FnScope ["machine", "frame", "statement", "_", "row", "name", "index", "other", "cells", "at", "to"] ["machine", "frame", "statement"] (defScope s_swap) := ⟨rfl, rfl, rfl, by decide +kernel, rfl, by decide +kernel, by decide +kernel⟩

/-! ### swap -/
section
variable {P : Program} {w : World} {K : PySem.W.Frag} {mg : PySem.Str → Option Value} {base : Heap} {CP CG pp gg CS CU CL CF CM pq gq : Addr}
def dSwap (nn ln : List PySem.Str) (e : PyData) : Prop := ∃ (r : Int) (x : PySem.Str) (i k : Pl), e = .tuple [.str "swap", .int r, .str x, i.enc, k.enc] ∧ x ∈ ln ∧ i.ok nn ln ∧ k.ok nn ln
/-- two cells of the list x change places -/
def rSwap (la : PySem.Str → Addr) (e : PyData) (H : Hp) (Q : VK) : Prop := ∀ (d0 d1 d3 d4 : PyData) (x : PySem.Str), e = .tuple [d0, d1, .str x, d3, d4] → ∀ (cs : List Int) (j k : Nat) (hj : j < cs.length) (hk : k < cs.length) (H' : Hp), H (la x) = some (.lst (cs.map V.int)) → Bu [la x] H H' → H' (la x) = some (.lst (((cs.set j cs[k]).set k cs[j]).map V.int)) → Q .non H'
theorem ok_swap (T : TxM K mg CP CG pp gg CS CU CL CF CM) (TR : TxR K mg CS) (c_fault : CkM K CM "fault" "Machine.fault" s_Machine_fault ["self", "row", "kind"]) (D_value_of : Df K mg "value_of" s_value_of ["term", "state"]) (D_cells_of : Df K mg "_cells_of" s_cells_of ["which", "state"]) (D_swap : Df K mg "_swap" s_swap ["machine", "frame", "statement"]) : FnOk P w K mg base CX0 4 D_swap.f D_swap.fd ["machine", "frame", "statement"] (spActL K CS CF CM dSwap rSwap) := by
  have G_fault := ok_fault (P := P) (w := w) (base := base) c_fault.F T
  have m_fault := c_fault.M
  have b_fault := c_fault.b
  have G_value_of := ok_value_of (P := P) (w := w) (base := base) TR D_value_of D_cells_of
  refine D_swap.F.ok sc_swap (fun vs H Q E h => ?_) (fun cdv A outer s H vs Q E hr h => ?_)
  · obtain ⟨a, f, v, e, nn, ln, la, rfl, _⟩ := h
    rfl
  · obtain ⟨a, f, v, e, nn, ln, la, rfl, hm, hf, st, hv, ⟨r, x, i, t, rfl, hx, hi, ht⟩, ft, q⟩ := h
    refine ⟨_, (pss_cons (ps_asg (pv 2) (pg_tup (by rfl) (pgs_cons (pg_name (i := 3) sc_swap.nd rfl (.inl rfl)) (pgs_cons (pg_name (i := 4) sc_swap.nd rfl (.inl rfl)) (pgs_cons (pg_name (i := 5) sc_swap.nd rfl (.inl rfl)) (pgs_cons (pg_name (i := 6) sc_swap.nd rfl (.inl rfl)) (pgs_cons (pg_name (i := 7) sc_swap.nd rfl (.inl rfl)) pgs_nil)))))))
    (pss_cons (ps_set (i := 8) sc_swap.nd rfl (.inl rfl) (pe_dget (hu_of hr) (pe_fld (pe_fld (pv 1) rfl) rfl) (pv 5) (fun _ _ => rfl)))
    (pss_cons (ps_set (i := 9) sc_swap.nd rfl (.inl rfl) (pe_call G_value_of (hr.mono (by decide)) (by rfl) D_value_of.g D_value_of.F.kp D_value_of.b .nil pass0 (pa_cons (pv 6) (pa_cons (pe_fld (pv 1) rfl) pa_nil))))
    (pss_cons (ps_set (i := 10) sc_swap.nd rfl (.inl rfl) (pe_call G_value_of (hr.mono (by decide)) (by rfl) D_value_of.g D_value_of.F.kp D_value_of.b .nil pass0 (pa_cons (pv 7) (pa_cons (pe_fld (pv 1) rfl) pa_nil))))
    (pss_one (ps_if (PW.pt (pw_and (pt_chain op_le op_lt pe_int (pv 9) (pe_callB call_len_seq (by rfl) T.n_len PySem.boot_len (pa_cons (pv 8) pa_nil))) (pw_and1 (pt_chain op_le op_lt pe_int (pv 10) (pe_callB call_len_seq (by rfl) T.n_len PySem.boot_len (pa_cons (pv 8) pa_nil))))))
    (pss_one (ps_asg (pe_tup (pa_cons (pe_ix ix_list (pv 8) (pv 10) (fun _ _ => rfl)) (pa_cons (pe_ix ix_list (pv 8) (pv 9) (fun _ _ => rfl)) pa_nil))) (pg_tup (by rfl) (pgs_cons (pg_sub (pv 8) (pv 9) set_list) (pgs_cons (pg_sub (pv 8) (pv 10) set_list) pgs_nil)))))
    (pss_one (ps_expr (pe_meth (pv 0) T.cMachine m_fault G_fault (hr.mono (by decide)) b_fault .nil pass0 (pa_cons (pv 4) (pa_cons pe_str pa_nil))))))))))), ?_⟩
    obtain ⟨b, v1, v2, v3, v4, v5, rfl, hb, h1, h2, h3, h4, h5⟩ := dp5 hv
    cases dp_str_inv h1
    cases dpi h2
    cases dp_str_inv h3
    obtain ⟨dn, dl, dx, fs, e, l1, l2, ⟨k1, e1, z1, f1⟩, k2, e2, f2⟩ := id st.ex
    obtain ⟨g1, cs, g2, g3⟩ := f2 x hx
    refine ⟨_, rfl, b, _, rfl, hb, rfl, _, _, rfl, _, _, rfl, _, _, rfl, _, _, rfl, _, _, rfl, rfl, ?_⟩
    refine ⟨_, rfl, f.f, CF, f.dx, _, _, rfl, hf, T.cFrame, T.nFrame_state, frF_state _ _ _, f.s, CS, dx, fs, _, rfl, e, TR.cs, TR.s1, l2, _, rfl, dl, _, rfl, g1 ▸ DGet.k (k := .inr x) e2, ?_⟩
    refine ⟨_, rfl, _, rfl, f.f, CF, f.dx, _, _, rfl, hf, T.cFrame, T.nFrame_state, frF_state _ _ _, v4, f.s, .pl i, nn, ln, la, rfl, h4, st, hi, fun n => ?_, fun ⟨_, _, _, c⟩ => nomatch c⟩
    refine ⟨_, rfl, _, rfl, f.f, CF, f.dx, _, _, rfl, hf, T.cFrame, T.nFrame_state, frF_state _ _ _, v5, f.s, .pl t, nn, ln, la, rfl, h5, st, ht, fun o => ?_, fun ⟨_, _, _, c⟩ => nomatch c⟩
    refine ⟨_, rfl, _, _, rfl, rfl, _, rfl, ite2 (fun e3 => ?_) (fun e3 => ?_)⟩
    · have e3 := of_decide_eq_true e3
      refine ⟨_, rfl, la x, _, rfl, .inl (SqL.of g2), _, _, rfl, rfl, _, rfl, ?_⟩
      refine ite2 (fun e4 => ?_) (fun e4 => ?_)
      · have e4 := of_decide_eq_true e4
        rw [List.length_map] at e4
        refine ⟨_, rfl, _, _, rfl, rfl, _, rfl, ite2 (fun e5 => ?_) (fun e5 => ?_)⟩
        · have e5 := of_decide_eq_true e5
          refine ⟨_, rfl, la x, _, rfl, .inl (SqL.of g2), _, _, rfl, rfl, _, rfl, ?_⟩
          refine ite2 (fun e6 => ?_) (fun e6 => ?_)
          · have e6 := of_decide_eq_true e6
            rw [List.length_map] at e6
            obtain ⟨j, rfl⟩ : ∃ j : Nat, n = j := ⟨n.toNat, by omega⟩
            obtain ⟨k, rfl⟩ : ∃ k : Nat, o = k := ⟨o.toNat, by omega⟩
            have hj : j < cs.length := by omega
            have hk : k < cs.length := by omega
            refine ⟨_, rfl, _, rfl, la x, _, _, .int cs[k], rfl, rfl, SqL.of g2, atI_nat (j := k) (by rw [List.getElem?_map, List.getElem?_eq_getElem hk]; rfl), ?_⟩
            refine ⟨_, rfl, _, rfl, la x, _, _, .int cs[j], rfl, rfl, SqL.of g2, atI_nat (j := j) (by rw [List.getElem?_map, List.getElem?_eq_getElem hj]; rfl), (by show 2 ≤ sizeLine; rw [sizeLine_eq]; omega), fun p np => ?_⟩
            have pl : la x ≠ p := ne_of_none g2 np
            refine ⟨p, _, rfl, SqT.of upd_same, rfl, ?_⟩
            have b1 : Bu [la x] H (upd H p (.tup [.int cs[k], .int cs[j]])) := Bu.upd (.same (.refl _)) (.inr np)
            have c1 : upd H p (.tup [.int cs[k], .int cs[j]]) (la x) = some (.lst (cs.map V.int)) := (upd_ne pl).trans g2
            generalize upd H p (.tup [.int cs[k], .int cs[j]]) = G1 at b1 c1
            refine ⟨_, _, rfl, _, rfl, _, rfl, la x, _, (j : Int), j, rfl, rfl, c1, ixN_nat (by rw [List.length_map]; exact hj), ?_⟩
            have m1 : (cs.map V.int).set j (.int cs[k]) = (cs.set j cs[k]).map V.int := by rw [List.map_set]
            rw [m1]
            have b2 := b1.upd (p := la x) (o := .lst ((cs.set j cs[k]).map V.int)) (.inl (by simp))
            have c2 : upd G1 (la x) (.lst ((cs.set j cs[k]).map V.int)) (la x) = some (.lst ((cs.set j cs[k]).map V.int)) := upd_same
            generalize upd G1 (la x) (.lst ((cs.set j cs[k]).map V.int)) = G2 at b2 c2
            refine ⟨_, _, rfl, _, rfl, _, rfl, la x, _, (k : Int), k, rfl, rfl, c2, ixN_nat (by rw [List.length_map, List.length_set]; exact hk), ?_⟩
            have m2 : ((cs.set j cs[k]).map V.int).set k (.int cs[j]) = ((cs.set j cs[k]).set k cs[j]).map V.int := by simp only [List.map_set]
            rw [m2]
            exact ⟨rfl, q _ _ _ _ x rfl cs j k hj hk _ g2 (b2.upd (.inl (by simp))) upd_same⟩
          · exact ⟨_, rfl, a.m, a.dx, _, rfl, hm, maF_no_fault _ _ _ _ _ _ _, _, rfl, ft.sp (E := E0) hm⟩
        · refine ⟨_, rfl, iteF ?_⟩
          exact ⟨_, rfl, a.m, a.dx, _, rfl, hm, maF_no_fault _ _ _ _ _ _ _, _, rfl, ft.sp (E := E0) hm⟩
      · exact ⟨_, rfl, a.m, a.dx, _, rfl, hm, maF_no_fault _ _ _ _ _ _ _, _, rfl, ft.sp (E := E0) hm⟩
    · refine ⟨_, rfl, iteF ?_⟩
      exact ⟨_, rfl, a.m, a.dx, _, rfl, hm, maF_no_fault _ _ _ _ _ _ _, _, rfl, ft.sp (E := E0) hm⟩
end
end SW

namespace SW
open PySem PySem.Spec PyProof.Rows L2
/-! ### choose -/
section
variable {P : Program} {w : World} {K : PySem.W.Frag} {mg : PySem.Str → Option Value} {base : Heap} {CP CG pp gg CS CU CL CF CM pq gq : Addr}
theorem frF_no_program (v0 v1 v2 : V) : (frF v0 v1 v2).lookup ("program" : PySem.Str) = none := by
  unfold frF
  simp only [lookup_putF]
  rw [if_neg (by decide +kernel), if_neg (by decide +kernel), if_neg (by decide +kernel)]
  rfl
theorem maF_no_numbers (v0 v1 v2 v3 v4 v5 v6 : V) : (maF v0 v1 v2 v3 v4 v5 v6).lookup ("numbers" : PySem.Str) = none := by
  unfold maF
  simp only [lookup_putF]
  rw [if_neg (by decide +kernel), if_neg (by decide +kernel), if_neg (by decide +kernel), if_neg (by decide +kernel), if_neg (by decide +kernel), if_neg (by decide +kernel), if_neg (by decide +kernel)]
  rfl
theorem Fr.ne {H : Hp} {a : Ma} {f : Fr} (hm : a.At CM H) (hf : f.At CF H) : f.f ≠ a.m := fun z => by
  have h1 : H a.m = some (.ins CF f.dx (frF (.ref f.s) f.tg (.ref f.pl))) := z ▸ hf
  rw [show H a.m = _ from hm] at h1
  injection h1 with h1
  injection h1 with _ _ h1
  have h2 := maF_program (.ref a.pg) (.ref a.ch) (.int a.k) (.int a.st) (.ref a.fr) (.ref a.tu) a.out
  rw [show maF _ _ _ _ _ _ _ = _ from h1, frF_no_program] at h2
  cases h2
theorem St.ne {H : Hp} {a : Ma} {s dx dn : Addr} {fs : List (PySem.Str × V)} (hm : a.At CM H) (hs : H s = some (.ins CS dx fs)) (l : fs.lookup ("numbers" : PySem.Str) = some (.ref dn)) : s ≠ a.m := fun z => by
  rw [z, show H a.m = _ from hm] at hs
  injection hs with h1
  injection h1 with _ _ h1
  rw [← h1, show a.fs = maF _ _ _ _ _ _ _ from rfl, maF_no_numbers] at l
  cases l
def dChoose (nn ln : List PySem.Str) (e : PyData) : Prop := ∃ (r : Int) (x : PySem.Str) (i k : Pl), e = .tuple [.str "choose", .int r, .str x, i.enc, k.enc] ∧ i.ok nn ln ∧ k.ok nn ln
/-- the number x gets some value; a choice may be taken -/
def rChoose (CS CM : Addr) (a : Ma) (f : Fr) (_ _ : List PySem.Str) (e : PyData) (H : Hp) (Q : VK) : Prop := ∃ cs : List Int, H a.ch = some (.lst (cs.map V.int)) ∧ a.k ≤ cs.length ∧ cs.length ≤ 1000 ∧ ∀ (d0 d1 d3 d4 : PyData) (x : PySem.Str), e = .tuple [d0, d1, .str x, d3, d4] → ∀ (dx dn : Addr) (fs : List (PySem.Str × V)) (kvs : List (Key × V)) (z : Int) (k' : Nat) (H' : Hp), H f.s = some (.ins CS dx fs) → fs.lookup ("numbers" : PySem.Str) = some (.ref dn) → H dn = some (.dK kvs) → kvs.length ≤ 100 → Bu [a.m] H H' → Ma.At CM H' { a with k := k' } → k' ≤ cs.length → Q .non (upd H' dn (.dK (putK kvs (.inr x) (.int z))))
theorem ok_choose (T : TxM K mg CP CG pp gg CS CU CL CF CM) (TR : TxR K mg CS) (c_fault : CkM K CM "fault" "Machine.fault" s_Machine_fault ["self", "row", "kind"]) (c_choice : CkM K CM "choice" "Machine.choice" s_Machine_choice ["self"]) (D_value_of : Df K mg "value_of" s_value_of ["term", "state"]) (D_cells_of : Df K mg "_cells_of" s_cells_of ["which", "state"]) (D_choose : Df K mg "_choose" s_choose ["machine", "frame", "statement"]) : FnOk P w K mg base CX0 4 D_choose.f D_choose.fd ["machine", "frame", "statement"] (spAct K CS CF CM dChoose (rChoose CS CM)) := by
  have G_fault := ok_fault (P := P) (w := w) (base := base) c_fault.F T
  have m_fault := c_fault.M
  have b_fault := c_fault.b
  have G_choice := ok_choice (P := P) (w := w) (base := base) c_choice.F T
  have m_choice := c_choice.M
  have b_choice := c_choice.b
  have G_value_of := ok_value_of (P := P) (w := w) (base := base) TR D_value_of D_cells_of
  refine D_choose.F.ok sc_choose (fun vs H Q E h => ?_) (fun cdv A outer s H vs Q E hr h => ?_)
  · obtain ⟨a, f, v, e, nn, ln, la, rfl, _⟩ := h
    rfl
  · obtain ⟨a, f, v, e, nn, ln, la, rfl, hm, hf, st, hv, ⟨r, x, i, t, rfl, hi, ht⟩, ft, cs, hc, hk, hz, q⟩ := h
    refine ⟨_, (pss_cons (ps_asg (pv 2) (pg_tup (by rfl) (pgs_cons (pg_name (i := 3) sc_choose.nd rfl (.inl rfl)) (pgs_cons (pg_name (i := 4) sc_choose.nd rfl (.inl rfl)) (pgs_cons (pg_name (i := 5) sc_choose.nd rfl (.inl rfl)) (pgs_cons (pg_name (i := 6) sc_choose.nd rfl (.inl rfl)) (pgs_cons (pg_name (i := 7) sc_choose.nd rfl (.inl rfl)) pgs_nil)))))))
    (pss_cons (ps_set (i := 8) sc_choose.nd rfl (.inl rfl) (pe_call G_value_of (hr.mono (by decide)) (by rfl) D_value_of.g D_value_of.F.kp D_value_of.b .nil pass0 (pa_cons (pv 6) (pa_cons (pe_fld (pv 1) rfl) pa_nil))))
    (pss_cons (ps_set (i := 9) sc_choose.nd rfl (.inl rfl) (pe_op op_sub (pe_call G_value_of (hr.mono (by decide)) (by rfl) D_value_of.g D_value_of.F.kp D_value_of.b .nil pass0 (pa_cons (pv 7) (pa_cons (pe_fld (pv 1) rfl) pa_nil))) (pv 8)))
    (pss_one (ps_if (pt_cmpR op_le (pv 9) pe_int (nomark _))
    (pss_one (ps_expr (pe_meth (pv 0) T.cMachine m_fault G_fault (hr.mono (by decide)) b_fault .nil pass0 (pa_cons (pv 4) (pa_cons pe_str pa_nil)))))
    (pss_one (ps_dput (hu_of hr) (pe_fld (pe_fld (pv 1) rfl) rfl) (pv 5) (pe_op op_add (pv 8) (pe_op op_mod (pe_meth0 (pv 0) T.cMachine m_choice G_choice (hr.mono (by decide)) b_choice .nil pass0) (pv 9))) rfl))))))), ?_⟩
    obtain ⟨b, v1, v2, v3, v4, v5, rfl, hb, h1, h2, h3, h4, h5⟩ := dp5 hv
    cases dp_str_inv h1
    cases dpi h2
    cases dp_str_inv h3
    obtain ⟨dn, dl, dx, fs, e, l1, l2, ⟨k1, e1, z1, f1⟩, _⟩ := id st.ex
    refine ⟨_, rfl, b, _, rfl, hb, rfl, _, _, rfl, _, _, rfl, _, _, rfl, _, _, rfl, _, _, rfl, rfl, ?_⟩
    refine ⟨_, rfl, _, rfl, f.f, CF, f.dx, _, _, rfl, hf, T.cFrame, T.nFrame_state, frF_state _ _ _, v4, f.s, .pl i, nn, ln, la, rfl, h4, st, hi, fun n => ?_, fun ⟨_, _, _, c⟩ => nomatch c⟩
    refine ⟨_, rfl, _, rfl, f.f, CF, f.dx, _, _, rfl, hf, T.cFrame, T.nFrame_state, frF_state _ _ _, v5, f.s, .pl t, nn, ln, la, rfl, h5, st, ht, fun o => ?_, fun ⟨_, _, _, c⟩ => nomatch c⟩
    refine ⟨_, rfl, _, _, rfl, rfl, ?_⟩
    refine ⟨_, rfl, _, _, rfl, rfl, _, rfl, ite2 (fun e3 => ?_) (fun e3 => ?_)⟩
    · exact ⟨_, rfl, a.m, a.dx, _, rfl, hm, maF_no_fault _ _ _ _ _ _ _, _, rfl, ft.sp (E := E0) hm⟩
    · refine ⟨_, rfl, _, rfl, a.m, a.dx, _, rfl, hm, maF_no_choice _ _ _ _ _ _ _, ?_⟩
      refine ⟨a.m, a.dx, a.ch, a.k, cs, _, _, _, _, _, rfl, hm, hc, hk, hz, fun z k' H' b1 m1 hk' => ?_⟩
      have fm := Fr.ne hm hf
      have sm := St.ne hm e l1
      have hf' : f.At CF H' := b1 _ _ (by simpa using fm) hf
      have e' := b1 _ _ (by simpa using sm) e
      have nm : dn ≠ a.m := fun z => by
        rw [z, show H a.m = _ from hm] at e1
        cases e1
      have e1' := b1 _ _ (by simpa using nm) e1
      have pos : 0 < o - n := by
        by_cases h : o - n ≤ 0
        · exact absurd (decide_eq_true h) e3
        · omega
      refine ⟨_, rfl, _, _, rfl, rfl, pos, _, _, rfl, rfl, _, rfl, f.f, CF, f.dx, _, _, rfl, hf', T.cFrame, T.nFrame_state, frF_state _ _ _, f.s, CS, dx, fs, _, rfl, e', TR.cs, TR.s0, l1, _, rfl, dn, _, rfl, DPut.k (k := .inr x) e1' (small_sz (by omega)), ?_⟩
      exact q _ _ _ _ x rfl dx dn fs k1 _ k' H' e l1 e1 z1 b1 m1 hk'
end
end SW

namespace SW
open PySem PySem.Spec PyProof.Rows L2
abbrev s_while : Stmt := topS 26
theorem sc_while : FnScope ["machine", "frame", "statement", "_", "row", "condition", "falls", "body", "place", "answer"] ["machine", "frame", "statement"] (defScope s_while) := ⟨rfl, rfl, rfl, by decide +kernel, rfl, by decide +kernel, by decide +kernel⟩

/-! ### while -/
section
variable {P : Program} {w : World} {K : PySem.W.Frag} {mg : PySem.Str → Option Value} {base : Heap} {CP CG pp gg CS CU CL CF CM pq gq : Addr}
theorem dp6 {K : PySem.W.Frag} {H : Hp} {v : V} {d1 d2 d3 d4 d5 d6 : PyData} (h : Dp K H v (.tuple [d1, d2, d3, d4, d5, d6])) : ∃ t v1 v2 v3 v4 v5 v6, v = .ref t ∧ SqT K H t [v1, v2, v3, v4, v5, v6] ∧ Dp K H v1 d1 ∧ Dp K H v2 d2 ∧ Dp K H v3 d3 ∧ Dp K H v4 d4 ∧ Dp K H v5 d5 ∧ Dp K H v6 d6 := by
  obtain ⟨t, xs, rfl, ht, ha⟩ := dp_tup_inv h
  cases ha with
  | cons h1 ha => cases ha with
    | cons h2 ha => cases ha with
      | cons h3 ha => cases ha with
        | cons h4 ha => cases ha with
          | cons h5 ha => cases ha with
            | cons h6 ha =>
              cases ha
              exact ⟨t, _, _, _, _, _, _, rfl, ht, h1, h2, h3, h4, h5, h6⟩
structure Pw where
  q : Addr
  dx : Addr
  blk : V
  at_ : Int
  loop : V
def Pw.At (CL : Addr) (H : Hp) (a : Pw) : Prop := H a.q = some (.ins CL a.dx (plF a.blk (.int a.at_) a.loop))
theorem plF_no_numbers (v0 v1 v2 : V) : (plF v0 v1 v2).lookup ("numbers" : PySem.Str) = none := by
  unfold plF
  simp only [lookup_putF]
  rw [if_neg (by decide +kernel), if_neg (by decide +kernel), if_neg (by decide +kernel)]
  rfl
theorem plF_no_program (v0 v1 v2 : V) : (plF v0 v1 v2).lookup ("program" : PySem.Str) = none := by
  unfold plF
  simp only [lookup_putF]
  rw [if_neg (by decide +kernel), if_neg (by decide +kernel), if_neg (by decide +kernel)]
  rfl
theorem plF_no_state (v0 v1 v2 : V) : (plF v0 v1 v2).lookup ("state" : PySem.Str) = none := by
  unfold plF
  simp only [lookup_putF]
  rw [if_neg (by decide +kernel), if_neg (by decide +kernel), if_neg (by decide +kernel)]
  rfl
/-- a place written: the state is as it was -/
theorem SaAt.bu {H H' : Hp} {s : Addr} {nn ln : List PySem.Str} {la : PySem.Str → Addr} (st : SaAt CS H s nn ln la) {p : Pw} (hp : p.At CL H) (b : Bu [p.q] H H') : SaAt CS H' s nn ln la := by
  obtain ⟨dn, dl, dx, fs, e, l1, l2, ⟨k1, e1, z1, f1⟩, k2, e2, f2⟩ := st.ex
  have hp : H p.q = some (.ins CL p.dx (plF p.blk (.int p.at_) p.loop)) := hp
  have sp : s ≠ p.q := fun z => by
    rw [z, hp] at e
    injection e with e
    injection e with _ _ e
    rw [← e, plF_no_numbers] at l1
    cases l1
  have np : dn ≠ p.q := fun z => by rw [z, hp] at e1; cases e1
  have lp : dl ≠ p.q := fun z => by rw [z, hp] at e2; cases e2
  refine ⟨dn, dl, dx, fs, b _ _ (by simpa using sp) e, l1, l2, ⟨k1, b _ _ (by simpa using np) e1, z1, f1⟩, k2, b _ _ (by simpa using lp) e2, fun x hx => ?_⟩
  obtain ⟨g1, cs, g2, g3⟩ := f2 x hx
  have xp : la x ≠ p.q := fun z => by rw [z, hp] at g2; cases g2
  exact ⟨g1, cs, b _ _ (by simpa using xp) g2, g3⟩
theorem Pw.sqt {H H' : Hp} {p : Pw} (hp : p.At CL H) (b : Bu [p.q] H H') : ∀ c xs, SqT K H c xs → SqT K H' c xs := by
  have hp : H p.q = some (.ins CL p.dx (plF p.blk (.int p.at_) p.loop)) := hp
  intro c xs hs
  rcases hs with (hs | ⟨o, hs⟩) | hs
  · exact .inl (.inl (b _ _ (fun e => by rw [List.mem_singleton.mp e, hp] at hs; cases hs) hs))
  · exact .inl (.inr ⟨o, b _ _ (fun e => by rw [List.mem_singleton.mp e, hp] at hs; cases hs) hs⟩)
  · exact .inr hs
theorem Pw.dp {H H' : Hp} {p : Pw} (hp : p.At CL H) (b : Bu [p.q] H H') {d : PyData} {v : V} (n : noL d = true) (h : Dp K H v d) : Dp K H' v d := dp_tups (Pw.sqt hp b) d v n h
def dWhile (nn ln : List PySem.Str) (e : PyData) : Prop := ∃ (r : Int) (co : CoD 4) (ks d : PyData) (p1 p2 : Pl), e = .tuple [.str "while", .int r, encC 4 co, ks, .tuple [p1.enc, p2.enc], d] ∧ noL d = true ∧ okC nn ln 4 co ∧ p1.ok nn ln ∧ p2.ok nn ln
/-- the loop's list is there -/
structure LpAt (CL : Addr) (H H1 : Hp) (p : Pw) (lp : Addr) (x y : V) (k : Int) : Prop where
  bu : Bu [p.q] H H1
  at_ : Pw.At CL H1 { p with loop := .ref lp }
  ls : H1 lp = some (.lst [x, y, .int k])
  was : H lp = none ∨ p.loop = .ref lp
def rWhile (K : PySem.W.Frag) (CF CL CM : Addr) (a : Ma) (f : Fr) (nn ln : List PySem.Str) (e : PyData) (H : Hp) (Q : VK) : Prop := ∃ (p : Pw) (ps ts : List V), H f.pl = some (.lst (ps ++ [.ref p.q])) ∧ p.At CL H ∧ H a.tu = some (.lst ts) ∧ ts.length ≤ 10000 ∧ (p.loop = .non ∨ ∃ lp x y k, p.loop = .ref lp ∧ H lp = some (.lst [x, y, .int k])) ∧
  ∀ (H1 : Hp) (lp : Addr) (x y : V) (k : Int), LpAt CL H H1 p lp x y k → FtK K CM a H1 Q ∧
    (∀ (d0 d1 d2 d3 d4 d5 : PyData) (c : V), e = .tuple [d0, d1, d2, d3, d4, d5] → Dp K H1 c d5 → spEnter CF CL [.ref f.f, c] (upd H1 lp (.lst [x, y, .int (k + 1)])) Q E0) ∧
    (∀ (t : Addr) (H2 : Hp), Bu [p.q, a.tu] H H2 → Pw.At CL H2 { p with loop := .non, at_ := p.at_ + 1 } → H2 a.tu = some (.lst (ts ++ [.ref t])) → Q .non H2)
theorem ok_while (T : TxM K mg CP CG pp gg CS CU CL CF CM) (TR : TxR K mg CS) (c_fault : CkM K CM "fault" "Machine.fault" s_Machine_fault ["self", "row", "kind"]) (c_Place : CkI K CL "Place.__init__" s_Place ["self", "block"]) (c_enter : CkM K CF "enter" "Frame.enter" s_Frame_enter ["self", "block"]) (D_value_of : Df K mg "value_of" s_value_of ["term", "state"]) (D_cells_of : Df K mg "_cells_of" s_cells_of ["which", "state"]) (D_compares : Df K mg "compares" s_compares ["sign", "left", "right"]) (D_answer : Df K mg "_answer" s_answer ["condition", "state"]) (D_while : Df K mg "_while" s_while ["machine", "frame", "statement"]) : FnOk P w K mg base CX0 11 D_while.f D_while.fd ["machine", "frame", "statement"] (spAct K CS CF CM dWhile (rWhile K CF CL CM)) := by
  have G_fault := ok_fault (P := P) (w := w) (base := base) c_fault.F T
  have m_fault := c_fault.M
  have b_fault := c_fault.b
  have G_enter := ok_enter (P := P) (w := w) (base := base) c_enter.F T c_Place
  have m_enter := c_enter.M
  have b_enter := c_enter.b
  have G_value_of := ok_value_of (P := P) (w := w) (base := base) TR D_value_of D_cells_of
  have G_answer := (ok_answer (P := P) (w := w) (base := base) TR D_answer D_value_of D_cells_of D_compares 4).mono (show 8 ≤ 10 by decide)
  refine D_while.F.ok sc_while (fun vs H Q E h => ?_) (fun cdv A outer s H vs Q E hr h => ?_)
  · obtain ⟨a, f, v, e, nn, ln, la, rfl, _⟩ := h
    rfl
  · obtain ⟨a, f, v, e, nn, ln, la, rfl, hm, hf, st, hv, ⟨r, co, ks, d, p1, p2, rfl, nd, ht, hp1, hp2⟩, ft, p, ps, ts, hpl, hpq, htu, htl, hlo, q⟩ := h
    refine ⟨_, (pss_cons (ps_asg (pv 2) (pg_tup (by rfl) (pgs_cons (pg_name (i := 3) sc_while.nd rfl (.inl rfl)) (pgs_cons (pg_name (i := 4) sc_while.nd rfl (.inl rfl)) (pgs_cons (pg_name (i := 5) sc_while.nd rfl (.inl rfl)) (pgs_cons (pg_name (i := 3) sc_while.nd rfl (.inl rfl)) (pgs_cons (pg_name (i := 6) sc_while.nd rfl (.inl rfl)) (pgs_cons (pg_name (i := 7) sc_while.nd rfl (.inl rfl)) pgs_nil))))))))
    (pss_cons (ps_set (i := 8) sc_while.nd rfl (.inl rfl) (pe_ix ix_list (pe_fld (pv 1) rfl) (pe_un un_neg pe_int) (fun _ _ => rfl)))
    (Evl.pss_cut (ps_if (pt_cmpR op_isN (pe_fld (pv 8) rfl) pe_non (nomark _))
    (pss_one (ps_fld (pv 8) (pe_lst (pa_cons (pe_call G_value_of (hr.mono (by decide)) (by rfl) D_value_of.g D_value_of.F.kp D_value_of.b .nil pass0 (pa_cons (pe_ix ix_tup (pv 6) pe_int (fun _ _ => rfl)) (pa_cons (pe_fld (pv 1) rfl) pa_nil))) (pa_cons (pe_call G_value_of (hr.mono (by decide)) (by rfl) D_value_of.g D_value_of.F.kp D_value_of.b .nil pass0 (pa_cons (pe_ix ix_tup (pv 6) pe_int (fun _ _ => rfl)) (pa_cons (pe_fld (pv 1) rfl) pa_nil))) (pa_cons pe_int pa_nil)))) rfl))
    pss_nil)
    (pss_cons (ps_set (i := 9) sc_while.nd rfl (.inl rfl) (pe_call G_answer (hr.mono (by decide)) (by rfl) D_answer.g D_answer.F.kp D_answer.b .nil pass0 (pa_cons (pv 5) (pa_cons (pe_fld (pv 1) rfl) pa_nil))))
    (pss_one (ps_if (pt_cmpR op_isN (pv 9) pe_non (nomark _))
    (pss_one (ps_expr (pe_meth (pv 0) T.cMachine m_fault G_fault (hr.mono (by decide)) b_fault .nil pass0 (pa_cons (pv 4) (pa_cons pe_str pa_nil)))))
    (pss_one (ps_if (pt_val (pv 9))
    (pss_cons (ps_augS (pe_fld (pv 8) rfl) pe_int get_list pe_int ip_add set_list)
    (pss_one (ps_expr (pe_meth (pv 1) T.cFrame m_enter G_enter (hr.mono (by decide)) b_enter .nil pass0 (pa_cons (pv 7) pa_nil)))))
    (pss_cons (ps_expr (pe_bm PySem.F.plainAttrs_list PySem.F.slot_list_append PySem.F.type_list_append mt_append (pe_fld (pv 0) rfl) (pa_cons (pe_tup (pa_cons (pv 4) (pa_cons (pe_ix ix_list (pe_fld (pv 8) rfl) pe_int (fun _ _ => rfl)) (pa_cons (pe_ix ix_list (pe_fld (pv 8) rfl) pe_int (fun _ _ => rfl)) (pa_cons (pe_ix ix_list (pe_fld (pv 8) rfl) pe_int (fun _ _ => rfl)) pa_nil))))) pa_nil)))
    (pss_cons (ps_fld (pv 8) pe_non rfl)
    (pss_one (ps_fldaug (pv 8) pe_int in_add)))))))))))), ?_⟩
    obtain ⟨b, v1, v2, v3, v4, v5, v6, rfl, hb, h1, h2, h3, h4, h5, h6⟩ := dp6 hv
    cases dp_str_inv h1
    cases dpi h2
    refine ⟨_, rfl, b, _, rfl, hb, rfl, _, _, rfl, _, _, rfl, _, _, rfl, _, _, rfl, _, _, rfl, _, _, rfl, rfl, ?_⟩
    refine ⟨_, rfl, f.f, CF, f.dx, _, _, rfl, hf, T.cFrame, T.nFrame_places, frF_places _ _ _, 1, rfl, f.pl, _, _, .ref p.q, rfl, rfl, SqL.of hpl, atI_last ps _, ?_⟩
    have hpq' : H p.q = some (.ins CL p.dx (plF p.blk (.int p.at_) p.loop)) := hpq
    have hm' : H a.m = some (.ins CM a.dx (maF (.ref a.pg) (.ref a.ch) (.int a.k) (.int a.st) (.ref a.fr) (.ref a.tu) a.out)) := hm
    have hf' : H f.f = some (.ins CF f.dx (frF (.ref f.s) f.tg (.ref f.pl))) := hf
    have mp : a.m ≠ p.q := fun z => by
      rw [z, hpq'] at hm'
      injection hm' with hm'
      injection hm' with _ _ hm'
      have := maF_program (.ref a.pg) (.ref a.ch) (.int a.k) (.int a.st) (.ref a.fr) (.ref a.tu) a.out
      rw [← hm', plF_no_program] at this
      cases this
    have fp : f.f ≠ p.q := fun z => by
      rw [z, hpq'] at hf'
      injection hf' with hf'
      injection hf' with _ _ hf'
      have := frF_state (.ref f.s) f.tg (.ref f.pl)
      rw [← hf', plF_no_state] at this
      cases this
    have plp : f.pl ≠ p.q := fun z => by rw [z, hpq'] at hpl; cases hpl
    have tup : a.tu ≠ p.q := fun z => by rw [z, hpq'] at htu; cases htu
    refine ⟨fun σ G => σ = [some (.ref a.m), some (.ref f.f), some (.ref b), some v4, some (.int r), some v3, some v5, some v6, some (.ref p.q), none] ∧ ∃ (lp : Addr) (x y : V) (k : Int), LpAt CL H G p lp x y k, ?_, ?_⟩
    · refine ⟨_, rfl, p.q, CL, p.dx, _, _, rfl, hpq, T.cPlace, T.nPlace_loop, plF_loop _ _ _, rfl, _, rfl, ?_⟩
      rcases hlo with hlo | ⟨lp, x, y, k, hlo, hlp⟩
      · rw [hlo]
        refine iteT ?_
        obtain ⟨t5, w1, w2, rfl, ht5, g1, g2⟩ := dp_inv2 h5
        refine ⟨_, rfl, t5, _, _, _, rfl, rfl, ht5, atI_nat (j := 0) rfl, _, rfl, f.f, CF, f.dx, _, _, rfl, hf, T.cFrame, T.nFrame_state, frF_state _ _ _, w1, f.s, .pl p1, nn, ln, la, rfl, g1, st, hp1, fun z1 => ?_, fun ⟨_, _, _, c⟩ => nomatch c⟩
        refine ⟨_, rfl, t5, _, _, _, rfl, rfl, ht5, atI_nat (j := 1) rfl, _, rfl, f.f, CF, f.dx, _, _, rfl, hf, T.cFrame, T.nFrame_state, frF_state _ _ _, w2, f.s, .pl p2, nn, ln, la, rfl, g2, st, hp2, fun z2 => ?_, fun ⟨_, _, _, c⟩ => nomatch c⟩
        refine ⟨(by show 3 ≤ sizeLine; rw [sizeLine_eq]; omega), fun l nl => ?_⟩
        have lpq : l ≠ p.q := fun z => by rw [z, hpq'] at nl; cases nl
        refine ⟨_, rfl, p.q, CL, p.dx, _, rfl, (upd_ne (Ne.symm lpq)).trans hpq', T.cPlace, T.nPlace_loop, (by rw [plF_len]; decide), ?_⟩
        rw [plF_put_loop]
        exact ⟨rfl, l, .int z1, .int z2, 0, (Bu.upd (.same (.refl _)) (.inr nl)).upd (.inl (by simp)), upd_same, (upd_ne lpq).trans upd_same, .inl nl⟩
      · rw [hlo]
        refine iteF ?_
        refine ⟨rfl, lp, x, y, k, .same (.refl _), ?_, hlp, .inr hlo⟩
        show H p.q = some (.ins CL p.dx (plF p.blk (.int p.at_) (.ref lp)))
        rw [hpq', hlo]
    · rintro σ H1 ⟨rfl, lp, x, y, k, L⟩
      obtain ⟨q1, q2, q3⟩ := q H1 lp x y k L
      have L1 : H1 p.q = some (.ins CL p.dx (plF p.blk (.int p.at_) (.ref lp))) := L.at_
      have m1 : a.At CM H1 := L.bu _ _ (by simpa using mp) hm
      have f1 : f.At CF H1 := L.bu _ _ (by simpa using fp) hf
      have b1 : SqT K H1 b _ := Pw.sqt hpq L.bu _ _ hb
      have st1 := st.bu hpq L.bu
      refine ⟨_, rfl, _, rfl, f.f, CF, f.dx, _, _, rfl, f1, T.cFrame, T.nFrame_state, frF_state _ _ _, v3, f.s, co, nn, ln, la, rfl, Pw.dp hpq L.bu (noL_C 4 co) h3, st1, ht, fun c => ?_, ?_⟩
      · refine ⟨_, rfl, rfl, _, rfl, iteF ?_⟩
        cases c with
        | true =>
          refine ⟨_, rfl, _, rfl, iteT ?_⟩
          refine ⟨_, rfl, p.q, CL, p.dx, _, _, rfl, L1, T.cPlace, T.nPlace_loop, plF_loop _ _ _, ?_⟩
          refine ⟨lp, _, 2, .int k, rfl, rfl, SqL.of L.ls, rfl, ?_⟩
          refine ⟨_, _, rfl, rfl, lp, _, (2 : Int), 2, rfl, rfl, L.ls, rfl, ?_⟩
          have fl : f.f ≠ lp := fun z => by
            have e0 := L.ls
            rw [← z, show H1 f.f = _ from f1] at e0
            cases e0
          refine ⟨_, rfl, f.f, f.dx, _, rfl, (upd_ne fl).trans f1, frF_no_enter _ _ _, _, rfl, ?_⟩
          exact q2 _ _ _ _ _ _ v6 rfl (Pw.dp hpq L.bu nd h6)
        | false =>
          refine ⟨_, rfl, _, rfl, iteF ?_⟩
          have tu1 : H1 a.tu = some (.lst ts) := L.bu _ _ (by simpa using tup) htu
          refine ⟨_, rfl, a.m, CM, a.dx, _, _, rfl, m1, T.cMachine, T.nMachine_turns, maF_turns _ _ _ _ _ _ _, ?_⟩
          refine ⟨.inl ⟨rfl, _, SqL.of tu1⟩, ?_⟩
          refine ⟨_, rfl, _, rfl, p.q, CL, p.dx, _, _, rfl, L1, T.cPlace, T.nPlace_loop, plF_loop _ _ _, lp, _, _, x, rfl, rfl, SqL.of L.ls, atI_nat (j := 0) rfl, ?_⟩
          refine ⟨_, rfl, p.q, CL, p.dx, _, _, rfl, L1, T.cPlace, T.nPlace_loop, plF_loop _ _ _, lp, _, _, y, rfl, rfl, SqL.of L.ls, atI_nat (j := 1) rfl, ?_⟩
          refine ⟨_, rfl, p.q, CL, p.dx, _, _, rfl, L1, T.cPlace, T.nPlace_loop, plF_loop _ _ _, lp, _, _, .int k, rfl, rfl, SqL.of L.ls, atI_nat (j := 2) rfl, ?_⟩
          refine ⟨(by show 4 ≤ sizeLine; rw [sizeLine_eq]; omega), fun t nt => ?_⟩
          have tt : t ≠ a.tu := fun z => by rw [z, tu1] at nt; cases nt
          have tq : t ≠ p.q := fun z => by rw [z, L1] at nt; cases nt
          have nHt : H t = none := Bu.none L.bu nt (by simpa using tq)
          refine ⟨a.tu, ts, _, rfl, rfl, (upd_ne (Ne.symm tt)).trans tu1, small_sz5 (by omega), ?_⟩
          generalize hG : upd (upd H1 t _) a.tu _ = G
          have bG : Bu [p.q, a.tu] H G := by
            subst hG
            have b0 : Bu [p.q, a.tu] H H1 := fun b o hb e => L.bu b o (fun h => hb (by rw [List.mem_singleton.mp h]; simp)) e
            exact (b0.upd (.inr nHt)).upd (.inl (by simp))
          have eG : G p.q = some (.ins CL p.dx (plF p.blk (.int p.at_) (.ref lp))) := by
            subst hG
            exact (upd_ne (Ne.symm tup)).trans ((upd_ne (Ne.symm tq)).trans L1)
          have tG : G a.tu = some (.lst (ts ++ [.ref t])) := by
            subst hG
            exact upd_same
          refine ⟨_, rfl, p.q, CL, p.dx, _, rfl, eG, T.cPlace, T.nPlace_loop, (by rw [plF_len]; decide), ?_⟩
          rw [plF_put_loop]
          have e2 : upd G p.q (.ins CL p.dx (plF p.blk (.int p.at_) .non)) p.q = some (.ins CL p.dx (plF p.blk (.int p.at_) .non)) := upd_same
          refine ⟨_, rfl, p.q, CL, p.dx, _, _, rfl, e2, T.cPlace, T.nPlace_at, plF_at _ _ _, _, _, rfl, rfl, p.dx, _, e2, (by rw [plF_len]; decide), ?_⟩
          rw [plF_put_at]
          exact q3 t _ ((bG.upd (.inl (by simp))).upd (.inl (by simp))) upd_same ((upd_ne tup).trans ((upd_ne tup).trans tG))
      · refine ⟨_, rfl, rfl, _, rfl, iteT ?_⟩
        exact ⟨_, rfl, a.m, a.dx, _, rfl, m1, maF_no_fault _ _ _ _ _ _ _, _, rfl, q1.sp (E := E0) m1⟩
end
end SW

namespace SW
open PySem PySem.Spec PyProof.Rows L2
abbrev s_Machine_begin : Stmt := inClass (topS 14) 3
theorem sc_Machine_begin : FnScope ["self", "procedure", "numbers", "lists", "target", "named", "state", "row", "name", "term", "value"] ["self", "procedure", "numbers", "lists", "target"] (defScope s_Machine_begin) := ⟨rfl, rfl, rfl, by decide +kernel, rfl, by decide +kernel, by decide +kernel⟩

/-! ### a procedure begun -/
theorem putK_same {κ : Type} [DecidableEq κ] {kvs : List (κ × V)} {k : κ} {u : V} (v : V) (h : valV kvs k = some u) : (putK kvs k v).length = kvs.length := by
  unfold putK
  have e : (kvs.any fun kv => decide (kv.1 = k)) = true := by
    rw [valV_any, h]
    rfl
  rw [if_pos e, List.length_map]
theorem merge_in {k : Key} {v : V} : ∀ (more kvs : List (Key × V)), (∀ p, p ∈ more → p.1 ≠ k) → valV (mergeK kvs more) k = valV kvs k
  | [], _, _ => rfl
  | p :: r, kvs, h => by
    show valV (mergeK (putK kvs p.1 p.2) r) k = _
    rw [merge_in (v := v) r _ fun q hq => h q (List.mem_cons_of_mem _ hq), valV_put, if_neg fun e => h p List.mem_cons_self e.symm]
theorem merge_zip : ∀ (ws : List PySem.Str) (ys : List V) (kvs : List (Key × V)) (i : Nat) (x : PySem.Str) (v : V), ws.Nodup → ws[i]? = some x → ys[i]? = some v → valV (mergeK kvs ((ws.map Sum.inr).zip ys)) (.inr x) = some v
  | [], _, _, _, _, _, _, h, _ => by cases h
  | w :: ws, [], _, _, _, _, _, _, h => by cases h
  | w :: ws, y :: ys, kvs, 0, x, v, nd, h1, h2 => by
    cases h1
    cases h2
    show valV (mergeK (putK kvs (.inr w) y) _) _ = _
    rw [merge_in (v := y) _ _ fun p hp e => ?_, valV_put, if_pos rfl]
    have hp1 := (List.of_mem_zip (show (p.1, p.2) ∈ _ from hp)).1
    rw [e] at hp1
    obtain ⟨z, hz, e2⟩ := List.mem_map.mp hp1
    cases e2
    exact (List.nodup_cons.mp nd).1 hz
  | w :: ws, y :: ys, kvs, i + 1, x, v, nd, h1, h2 => merge_zip ws ys _ i x v (List.nodup_cons.mp nd).2 h1 h2
theorem sno {H H' : Hp} {x : Addr} (s : Same H H') (h : H' x = none) : H x = none := by
  cases e : H x with
  | none => rfl
  | some o =>
    rw [s _ _ e] at h
    cases h
theorem sne {H : Hp} {x y : Addr} {o : HO} (h : H x = none) (e : H y = some o) : x ≠ y := fun z => by
  rw [z, e] at h
  cases h
theorem prF_7 (v0 v1 v2 v3 v4 v5 v6 v7 v8 : V) : (prF v0 v1 v2 v3 v4 v5 v6 v7 v8).lookup ("lets" : PySem.Str) = some v7 := by
  unfold prF
  simp only [lookup_putF]
  rw [if_neg (by decide +kernel), if_pos trivial]
theorem Op_sqt2 {K : PySem.W.Frag} {H H' : Hp} {h b : Addr} {kvs : List (Key × V)} {xs : List V} (hl : H h = some (.dK kvs)) (s : But h H H') (hs : SqT K H b xs) : SqT K H' b xs := by
  rcases hs with (hs | ⟨o, hs⟩) | hs
  · exact .inl (.inl (s _ _ (fun e => by rw [e, hl] at hs; cases hs) hs))
  · exact .inl (.inr ⟨o, s _ _ (fun e => by rw [e, hl] at hs; cases hs) hs⟩)
  · exact .inr hs
/-- the list that a name stands for -/
def laOf (ws : List PySem.Str) (rs : List Addr) (y : PySem.Str) : Addr := rs.getD (ws.idxOf y) 0
theorem laOf_at {ws : List PySem.Str} {rs : List Addr} (hl : rs.length = ws.length) {y : PySem.Str} (h : y ∈ ws) : ∃ i : Nat, ws[i]? = some y ∧ rs[i]? = some (laOf ws rs y) := by
  have h1 : ws.idxOf y < ws.length := List.idxOf_lt_length_of_mem h
  refine ⟨ws.idxOf y, ?_, ?_⟩
  · rw [List.getElem?_eq_getElem h1, List.getElem_idxOf]
  · unfold laOf
    rw [List.getD_eq_getElem?_getD, List.getElem?_eq_getElem (by omega)]
    rfl
/-- the frame that is begun -/
structure BgAt (K : PySem.W.Frag) (CS CL CF : Addr) (H : Hp) (c : Pc) (c5 c6 : PySem.Str) (rs : List Addr) (tg : V) (f df s ds dn dl : Addr) (old : V) (pl q dq : Addr) (v8 : V) (H' : Hp) : Prop where
  nn : ∀ x, x ∈ [f, s, pl, dn, dl, q] → H x = none
  nd : [f, s, pl, dn, dl, q].Nodup
  f : H' f = some (.ins CF df (frF (.ref s) tg (.ref pl)))
  s : H' s = some (.ins CS ds (stF (.ref dn) (.ref dl) old))
  n : ∃ kvs : List (Key × V), H' dn = some (.dK kvs) ∧ kvs.length ≤ 100 ∧ ∀ y, y ∈ c5 :: c6 :: numN c.ps → ∃ z : Int, valV kvs (.inr y) = some (.int z)
  l : ∃ kvs : List (Key × V), H' dl = some (.dK kvs) ∧ ∀ (i : Nat) (y : PySem.Str) (r : Addr), (lnm c.ps)[i]? = some y → rs[i]? = some r → valV kvs (.inr y) = some (.ref r)
  pl : H' pl = some (.lst [.ref q])
  q : H' q = some (.ins CL dq (plF v8 (.int 0) .non))
  b : Dp K H v8 (blkE 5 c.body)
section
variable {P : Program} {w : World} {K : PySem.W.Frag} {mg : PySem.Str → Option Value} {base : Heap} {CP CG pp gg CS CU CL CF CM pq gq : Addr}
def spBegin (K : PySem.W.Frag) (CP CS CL CF CM : Addr) : Sp := fun vs H Q _ => ∃ (a : Ma) (c : Pc) (N L : Addr) (zs : List Int) (rs : List Addr) (tg : V) (xs : List V) (c5 c6 : PySem.Str) (t1 t2 : Tm) (r1 r2 : Int), vs = [.ref a.m, .ref c.p, .ref N, .ref L, tg] ∧ a.At CM H ∧ H a.fr = some (.lst xs) ∧ xs.length ≤ 10000 ∧ PcAt K CP H c ∧ c.ps.length ≤ 20 ∧ (c.ps.map Prod.fst).Nodup ∧
  c.lt = [(r1, c5, t1), (r2, c6, t2)] ∧ t1.ok (numN c.ps) (lnm c.ps) ∧ t2.ok (c5 :: numN c.ps) (lnm c.ps) ∧ H N = some (.lst (zs.map V.int)) ∧ zs.length = (numN c.ps).length ∧ H L = some (.lst (rs.map V.ref)) ∧ rs.length = (lnm c.ps).length ∧ (∀ r, r ∈ rs → r ≠ a.fr ∧ ∃ cs : List Int, H r = some (.lst (cs.map V.int)) ∧ cs.length ≤ 100) ∧
  (∀ (f df s ds dn dl : Addr) (old : V) (pl q dq : Addr) (v8 : V) (H' : Hp), Bu [a.fr] H H' → H' a.fr = some (.lst (xs ++ [.ref f])) → BgAt K CS CL CF H c c5 c6 rs tg f df s ds dn dl old pl q dq v8 H' → Q .non H') ∧
  (∀ (t : Addr) (r : Int) (z : PySem.Str) (H' : Hp), Bu [a.m, a.fr] H H' → Ma.At CM H' { a with out := .ref t } → SqT K H' t [.str "fault", .int r, .str z] → Q .non H')
theorem ok_begin {f : Addr} {fd fdl fdn : FuncData} (F : Fun K "begin" "Machine.begin" s_Machine_begin f fd) (T : TxN K mg CP CG pp gg CS CU CL CF CM pq gq) (TR : TxR K mg CS) (c_fault : CkM K CM "fault" "Machine.fault" s_Machine_fault ["self", "row", "kind"]) (c_Place : CkI K CL "Place.__init__" s_Place ["self", "block"]) (c_Frame : CkI K CF "Frame.__init__" s_Frame ["self", "state", "target", "body"]) (c_State : CkI K CS "State.__init__" s_State ["self", "numbers", "lists", "old"])
    (F_list : Fun K "list_names" "Procedure.list_names" s_list_names gg fdl) (b_list_names : Binds K fdl ["self"] []) (F_num : Fun K "number_names" "Procedure.number_names" s_number_names gq fdn) (b_number_names : Binds K fdn ["self"] []) (D_value_of : Df K mg "value_of" s_value_of ["term", "state"]) (D_cells_of : Df K mg "_cells_of" s_cells_of ["which", "state"]) : FnOk P w K mg base CX0 5 f fd ["self", "procedure", "numbers", "lists", "target"] (spBegin K CP CS CL CF CM) := by
  have G_fault := ok_fault (P := P) (w := w) (base := base) c_fault.F T.toTxM
  have m_fault := c_fault.M
  have b_fault := c_fault.b
  have G_Frame := ok_Frame (P := P) (w := w) (base := base) c_Frame.F T.toTxM c_Place
  have M_Frame := c_Frame.M
  have b_Frame := c_Frame.b
  have G_State := ok_State (P := P) (w := w) (base := base) c_State.F T.toTxM
  have M_State := c_State.M
  have b_State := c_State.b
  have G_list_names := ok_list_names (P := P) (w := w) (base := base) F_list T.toTxQ
  have G_number_names := ok_number_names (P := P) (w := w) (base := base) F_num T.toTxQ
  have G_value_of := ok_value_of (P := P) (w := w) (base := base) TR D_value_of D_cells_of
  refine F.ok sc_Machine_begin (fun vs H Q E h => ?_) (fun cdv A outer s H vs Q E hr h => ?_)
  · obtain ⟨a, c, N, L, zs, rs, tg, xs, c5, c6, t1, t2, r1, r2, rfl, _⟩ := h
    rfl
  · obtain ⟨a, c, N, L, zs, rs, tg, xs, c5, c6, t1, t2, r1, r2, rfl, hm, hfr, hxs, hc, hpl, hnd, hlt, ht1, ht2, hN, hzl, hL, hrl, hrs, q1, q2⟩ := h
    refine ⟨_, (pss_cons (ps_set (i := 5) sc_Machine_begin.nd rfl (.inl rfl) (pe_dictZip rfl (by rfl) T.n_dict (by rfl) T.n_zip (pa_cons (pe_prop (pv 1) T.cp T.pn G_number_names (hr.mono (by decide)) b_number_names .nil pass0 rfl) (pa_cons (pv 2) pa_nil))))
    (pss_cons (ps_set (i := 6) sc_Machine_begin.nd rfl (.inl rfl) (pe_make M_State G_State (hr.mono (by decide)) rfl T.mg_State b_State .nil pass0 (pa_cons (pv 5) (pa_cons (pe_dictZip rfl (by rfl) T.n_dict (by rfl) T.n_zip (pa_cons (pe_prop (pv 1) T.cp T.pr G_list_names (hr.mono (by decide)) b_list_names .nil pass0 rfl) (pa_cons (pv 3) pa_nil))) (pa_cons pe_dnewK pa_nil)))))
    (pss_cons (ps_expr (pe_bm PySem.F.plainAttrs_list PySem.F.slot_list_append PySem.F.type_list_append mt_append (pe_fld (pv 0) rfl) (pa_cons (pe_make M_Frame G_Frame (hr.mono (by decide)) rfl T.mg_Frame b_Frame .nil pass0 (pa_cons (pv 6) (pa_cons (pv 4) (pa_cons (pe_fld (pv 1) rfl) pa_nil)))) pa_nil)))
    (pss_one (ps_for PassesOwn.never rfl (pi_tup (pe_fld (pv 1) rfl)) (pg_tup (by rfl) (pgs_cons (pg_name (i := 7) sc_Machine_begin.nd rfl (.inl rfl)) (pgs_cons (pg_name (i := 8) sc_Machine_begin.nd rfl (.inl rfl)) (pgs_cons (pg_name (i := 9) sc_Machine_begin.nd rfl (.inl rfl)) pgs_nil))))
    (pss_cons (ps_set (i := 10) sc_Machine_begin.nd rfl (.inl rfl) (pe_call G_value_of (hr.mono (by decide)) (by rfl) D_value_of.g D_value_of.F.kp D_value_of.b .nil pass0 (pa_cons (pv 9) (pa_cons (pv 6) pa_nil))))
    (pss_cons (ps_if (pt_cmpR op_isN (pv 10) pe_non (nomark _))
    (pss_cons (ps_expr (pe_meth (pv 0) T.cMachine m_fault G_fault (hr.mono (by decide)) b_fault .nil pass0 (pa_cons (pv 7) (pa_cons pe_str pa_nil))))
    (pss_one ps_retN))
    pss_nil)
    (pss_one (ps_dput (hu_of hr) (pv 5) (pv 8) (pv 10) rfl))))))))), ?_⟩
    obtain ⟨dc, v0, v2, v3, v4, v5, v6, v7, v8, hp, hps, hmv, hlts, hbd⟩ := hc.ex
    have kk : ∀ ws : List PySem.Str, (ws.map (Sum.inr : PySem.Str → Key)).map kV = ws.map V.str := fun ws => by
      rw [List.map_map]
      rfl
    have hnl : (numN c.ps).length ≤ 20 := by
      unfold numN
      rw [List.length_map]
      exact Nat.le_trans (List.length_filter_le _ _) hpl
    have nnd : (numN c.ps).Nodup := (List.Sublist.map _ List.filter_sublist).nodup hnd
    have lnd : (lnm c.ps).Nodup := (List.Sublist.map _ List.filter_sublist).nodup hnd
    refine ⟨_, rfl, c.p, dc, _, rfl, hp, c.p, dc, v0, _, v2, v3, v4, v5, v6, v7, v8, c.ps, rfl, hp, hps, by omega, fun F1 H1 s1 nF1 eF1 => ?_⟩
    refine ⟨_, rfl, F1, N, (numN c.ps).map .inr, zs.map V.int, rfl, SqL.of (by rw [kk]; exact eF1), SqL.of (s1 _ _ hN), by rw [List.length_map, List.length_map, hzl], fun dn ndn => ?_⟩
    generalize hk1 : mergeK [] (((numN c.ps).map (.inr : PySem.Str → Key)).zip (zs.map V.int)) = k1
    have zk1 : k1.length ≤ 20 := by
      rw [← hk1]
      refine Nat.le_trans (length_mergeK _ []) ?_
      rw [List.length_zip, List.length_map]
      show 0 + _ ≤ 20
      omega
    have vk1 : ∀ y, y ∈ numN c.ps → ∃ z : Int, valV k1 (.inr y) = some (.int z) := fun y hy => by
      obtain ⟨i, hi, e⟩ := List.mem_iff_getElem.mp hy
      have hi2 : i < zs.length := by omega
      refine ⟨zs[i], ?_⟩
      rw [← hk1]
      exact merge_zip _ _ _ i y _ nnd (by rw [List.getElem?_eq_getElem hi, e]) (by rw [List.getElem?_map, List.getElem?_eq_getElem hi2]; rfl)
    have s2 : Same H1 (upd H1 dn (.dK k1)) := same_new ndn
    have e2 : upd H1 dn (.dK k1) dn = some (.dK k1) := upd_same
    generalize upd H1 dn (.dK k1) = G1 at s2 e2
    have nHdn : H dn = none := sno s1 ndn
    have t1s := s1.trans s2
    have hp1 := t1s _ _ hp
    refine ⟨_, rfl, _, rfl, c.p, dc, _, rfl, hp1, c.p, dc, v0, _, v2, v3, v4, v5, v6, v7, v8, c.ps, rfl, hp1, hps.same t1s, by omega, fun F2 H2 s3 nF2 eF2 => ?_⟩
    have t2s := t1s.trans s3
    refine ⟨_, rfl, F2, L, (lnm c.ps).map .inr, rs.map V.ref, rfl, SqL.of (by rw [kk]; exact eF2), SqL.of (t2s _ _ hL), by rw [List.length_map, List.length_map, hrl], fun dl ndl => ?_⟩
    generalize hk2 : mergeK [] (((lnm c.ps).map (.inr : PySem.Str → Key)).zip (rs.map V.ref)) = k2
    have vk2 : ∀ (i : Nat) (y : PySem.Str) (r : Addr), (lnm c.ps)[i]? = some y → rs[i]? = some r → valV k2 (.inr y) = some (.ref r) := fun i y r h1 h2 => by
      rw [← hk2]
      exact merge_zip _ _ _ i y _ lnd h1 (by rw [List.getElem?_map, h2]; rfl)
    have s4 : Same H2 (upd H2 dl (.dK k2)) := same_new ndl
    have e4 : upd H2 dl (.dK k2) dl = some (.dK k2) := upd_same
    generalize upd H2 dl (.dK k2) = G2 at s4 e4
    have t4s := t2s.trans s4
    have nHdl : H dl = none := sno t2s ndl
    have e2' := s4 _ _ (s3 _ _ e2)
    have dnl : dl ≠ dn := sne ndl (s3 _ _ e2)
    refine fun ol nol => ?_
    have s5 : Same G2 (upd G2 ol (.dK [])) := same_new nol
    generalize upd G2 ol (.dK []) = G3 at s5
    have t5s := t4s.trans s5
    have e2'' := s5 _ _ e2'
    have e4' := s5 _ _ e4
    refine fun sx ds nsx nds nse => ⟨sx, ds, _, _, _, rfl, upd_same, fun H3 h1 h2 => ⟨rfl, ?_⟩⟩
    have nHs : H sx = none := sno t5s nsx
    have s6 : Same G3 H3 := fun b o e => h1 b o (Ne.symm (sne nsx e)) (by rw [upd_ne (Ne.symm (sne nsx e)), upd_ne (Ne.symm (sne nds e))]; exact e)
    have t6s := t5s.trans s6
    have en3 := s6 _ _ e2''
    have el3 := s6 _ _ e4'
    have hm3 : H3 a.m = some (.ins CM a.dx (maF (.ref a.pg) (.ref a.ch) (.int a.k) (.int a.st) (.ref a.fr) (.ref a.tu) a.out)) := t6s _ _ hm
    have hfr3 : H3 a.fr = some (.lst xs) := t6s _ _ hfr
    have sdn : sx ≠ dn := sne nsx e2''
    have sdl : sx ≠ dl := sne nsx e4'
    refine ⟨_, rfl, a.m, CM, a.dx, _, _, rfl, hm3, T.cMachine, T.nMachine_frames, maF_frames _ _ _ _ _ _ _, ?_⟩
    refine ⟨.inl ⟨rfl, _, SqL.of hfr3⟩, ?_⟩
    have hp3 := t6s _ _ hp
    refine ⟨_, rfl, _, rfl, _, rfl, c.p, CP, dc, _, _, rfl, hp3, T.cp, T.a8, prF_8 _ _ _ _ _ _ _ _ _, ?_⟩
    refine fun fx df nfx ndf nfe => ⟨fx, df, _, _, _, rfl, upd_same, fun H4 l q dq h3 h4 nl nq h5 h6 => ⟨rfl, ?_⟩⟩
    have e3f : ∀ {b : Addr} {o : HO}, H3 b = some o → upd (upd H3 df (.own fx)) fx (.ins CF df []) b = some o := fun {b o} e => by
      rw [upd_ne (Ne.symm (sne nfx e)), upd_ne (Ne.symm (sne ndf e))]
      exact e
    have gnone : ∀ {b : Addr}, upd (upd H3 df (.own fx)) fx (.ins CF df []) b = none → b ≠ fx ∧ H3 b = none := fun {b} e => by
      have h1 : b ≠ fx := fun z => by
        rw [z, upd_same] at e
        cases e
      rw [upd_ne h1] at e
      have h2 : b ≠ df := fun z => by
        rw [z, upd_same] at e
        cases e
      rw [upd_ne h2] at e
      exact ⟨h1, e⟩
    obtain ⟨lf, nl3⟩ := gnone nl
    obtain ⟨qf, nq3⟩ := gnone nq
    have s7 : Same H3 H4 := fun b o e => h3 b o (by simpa using Ne.symm (sne nfx e)) (e3f e)
    have t7s := t6s.trans s7
    have lq : l ≠ q := fun z => by
      rw [z, h6] at h5
      cases h5
    have nHf : H fx = none := sno t6s nfx
    have nHl : H l = none := sno t6s nl3
    have nHq : H q = none := sno t6s nq3
    have fr4 : H4 a.fr = some (.lst xs) := s7 _ _ hfr3
    refine ⟨a.fr, xs, _, rfl, rfl, fr4, small_sz5 (by omega), ?_⟩
    have en4 : H4 dn = some (.dK k1) := s7 _ _ en3
    have el4 : H4 dl = some (.dK k2) := s7 _ _ el3
    have es4 : H4 sx = some (.ins CS ds (stF (.ref dn) (.ref dl) (.ref ol))) := s7 _ _ h2
    generalize hG0 : upd H4 a.fr (.lst (xs ++ [.ref fx])) = G0
    have b0 : Bu [a.fr] H G0 := by
      subst hG0
      exact (Bu.same t7s).upd (.inl (by simp))
    have frn : ∀ {x : Addr}, H x = none → x ≠ a.fr := fun h => sne h hfr
    have g0 : ∀ {x : Addr} {o : HO}, H x = none → H4 x = some o → G0 x = some o := fun {x o} h e => by
      subst hG0
      exact (upd_ne (frn h)).trans e
    have efr : G0 a.fr = some (.lst (xs ++ [.ref fx])) := by
      subst hG0
      exact upd_same
    have en0 := g0 nHdn en4
    have el0 := g0 nHdl el4
    have es0 := g0 nHs es4
    have ef0 := g0 nHf h4
    have ep0 := g0 nHl h5
    have eq0 := g0 nHq h6
    have mf : a.m ≠ a.fr := fun z => by
      rw [← z, show H a.m = _ from hm] at hfr
      cases hfr
    have hm0 : a.At CM G0 := b0 _ _ (by simpa using mf) hm
    have pf : c.p ≠ a.fr := fun z => by
      rw [← z, hp] at hfr
      cases hfr
    have hp0 := b0 _ _ (by simpa using pf) hp
    have m0 : TM8 K H G0 := fun b us hs => by
      rcases hs with (hs | ⟨o, hs⟩) | hs
      · exact .inl (.inl (b0 _ _ (fun e => by rw [List.mem_singleton.mp e, hfr] at hs; cases hs) hs))
      · exact .inl (.inr ⟨o, b0 _ _ (fun e => by rw [List.mem_singleton.mp e, hfr] at hs; cases hs) hs⟩)
      · exact .inr hs
    have hlt0 := dp_tups m0 _ _ (ltE_noL _) hlts
    rw [hlt] at hlt0
    obtain ⟨t7, w1, w2, rfl, ht7, d1, d2⟩ := dp_inv2 hlt0
    have rs0 : ∀ r, r ∈ rs → ∃ cs : List Int, G0 r = some (.lst (cs.map V.int)) ∧ cs.length ≤ 100 := fun r hr => by
      obtain ⟨h1, cs, h2, h3⟩ := hrs r hr
      exact ⟨cs, b0 _ _ (by simpa using h1) h2, h3⟩
    clear hG0
    refine ⟨_, rfl, c.p, CP, dc, _, _, rfl, hp0, T.cp, T.a7, prF_7 _ _ _ _ _ _ _ _ _, t7, rfl, ⟨_, ht7⟩, ?_⟩
    refine for_tup (K := K) (a := t7) (xs := [w1, w2]) (fun i σ G => ∃ y7 y8 y9 y10 : Option V, σ = [some (.ref a.m), some (.ref c.p), some (.ref N), some (.ref L), some tg, some (.ref dn), some (.ref sx), y7, y8, y9, y10] ∧ But dn G0 G ∧ ∃ kvs : List (Key × V), G dn = some (.dK kvs) ∧ kvs.length ≤ 20 + i ∧ ∀ y, y ∈ [c5, c6].take i ++ numN c.ps → ∃ z : Int, valV kvs (.inr y) = some (.int z)) ⟨_, _, _, _, rfl, fun b o _ e => e, k1, en0, zk1, vk1⟩ (fun i σ G _ hP => ?_) (fun i v σ G hv hP => ?_) (fun σ G hP => ?_)
    · obtain ⟨y7, y8, y9, y10, rfl, bG, kvs, e1, z1, f1⟩ := hP
      exact Op_sqt2 en0 bG ht7
    · obtain ⟨y7, y8, y9, y10, rfl, bG, kvs, e1, z1, f1⟩ := hP
      have hi : i < 2 := (List.getElem?_eq_some_iff.mp hv).1
      have mG : TM8 K G0 G := fun b us hs => Op_sqt2 en0 bG hs
      have nfs : ∀ {x : Addr} {C dx : Addr} {fs : List (PySem.Str × V)}, G0 x = some (.ins C dx fs) → G x = some (.ins C dx fs) := fun {x C dx fs} e => bG _ _ (fun z => by rw [z, en0] at e; cases e) e
      have hmG : a.At CM G := nfs hm0
      have sa : SaAt CS G sx ([c5, c6].take i ++ numN c.ps) (lnm c.ps) (laOf (lnm c.ps) rs) := by
        refine ⟨dn, dl, ds, _, nfs es0, stF_numbers _ _ _, stF_lists _ _ _, ⟨kvs, e1, by omega, f1⟩, k2, bG _ _ dnl el0, fun x hx => ?_⟩
        obtain ⟨j, h1, h2⟩ := laOf_at hrl hx
        obtain ⟨cs, h3, h4⟩ := rs0 _ (List.mem_of_getElem? h2)
        exact ⟨vk2 _ _ _ h1 h2, cs, bG _ _ (fun z => by rw [z, en0] at h3; cases h3) h3, h4⟩
      have key : ∃ (r : Int) (x : PySem.Str) (t : Tm), Dp K G v (encL (r, x, t)) ∧ t.ok ([c5, c6].take i ++ numN c.ps) (lnm c.ps) ∧ [c5, c6].take (i + 1) = [c5, c6].take i ++ [x] := by
        rcases i with _ | _ | i
        · cases hv
          exact ⟨r1, c5, t1, dp_tups mG _ _ (encL_noL _) d1, ht1, rfl⟩
        · cases hv
          exact ⟨r2, c6, t2, dp_tups mG _ _ (encL_noL _) d2, ht2, rfl⟩
        · omega
      obtain ⟨r, x, t, dv, tok, etk⟩ := key
      obtain ⟨t3, u1, u2, u3, rfl, ht3, g1, g2, g3⟩ := dp3 dv
      cases dpi g1
      cases dp_str_inv g2
      refine ⟨t3, _, rfl, ht3, rfl, _, _, rfl, _, _, rfl, _, _, rfl, rfl, ?_⟩
      refine ⟨_, rfl, _, rfl, u3, sx, t, _, _, _, rfl, g3, sa, tok, fun z => ?_, fun _ => ?_⟩
      · refine ⟨_, rfl, rfl, _, rfl, iteF ?_⟩
        refine ⟨_, rfl, _, rfl, _, rfl, dn, _, rfl, DPut.k (k := .inr x) e1 (small_sz (by omega)), ?_⟩
        refine ⟨_, _, _, _, rfl, fun b o hb e => (upd_ne hb).trans (bG _ _ hb e), _, upd_same, ?_, fun y hy => ?_⟩
        · have := length_putK kvs (.inr x) (.int z)
          omega
        · rw [valV_put]
          by_cases hyx : y = x
          · exact ⟨z, by rw [if_pos (by rw [hyx])]⟩
          · rw [if_neg fun e => hyx (by cases e; rfl)]
            refine f1 y ?_
            rw [etk] at hy
            simp only [List.mem_append, List.mem_singleton] at hy ⊢
            rcases hy with (hy | hy) | hy
            · exact .inl hy
            · exact absurd hy hyx
            · exact .inr hy
      · refine ⟨_, rfl, rfl, _, rfl, iteT ?_⟩
        refine ⟨_, rfl, a.m, a.dx, _, rfl, hmG, maF_no_fault _ _ _ _ _ _ _, _, rfl, ?_⟩
        refine ⟨a.m, a.dx, r, _, _, _, _, _, _, _, _, rfl, hmG, fun t H' k1 k2 k3 k4 => ?_⟩
        refine q2 t r _ H' (fun b o hb e => ?_) k3 k4
        have hb1 : b ≠ a.m := fun z => hb (by rw [z]; simp)
        have hb2 : b ≠ a.fr := fun z => hb (by rw [z]; simp)
        exact k1 _ _ (by simpa using hb1) (bG _ _ (Ne.symm (sne nHdn e)) (b0 _ _ (by simpa using hb2) e))
    · obtain ⟨y7, y8, y9, y10, rfl, bG, kvs, e1, z1, f1⟩ := hP
      have gg : ∀ {x : Addr} {o : HO}, x ≠ dn → G0 x = some o → G x = some o := fun {x o} h e => bG _ _ h e
      have ifn : fx ≠ dn := fun z => by rw [z, en0] at ef0; cases ef0
      have pln : l ≠ dn := fun z => by rw [z, en0] at ep0; cases ep0
      have pdl : l ≠ dl := fun z => by rw [z, el0] at ep0; cases ep0
      have qdn : q ≠ dn := fun z => by rw [z, en0] at eq0; cases eq0
      have qdl : q ≠ dl := fun z => by rw [z, el0] at eq0; cases eq0
      have fdl : fx ≠ dl := fun z => by rw [z, el0] at ef0; cases ef0
      have fsx : fx ≠ sx := sne nfx h2
      have qsx : q ≠ sx := fun z => by rw [z, h2] at nq3; cases nq3
      have lsx : l ≠ sx := fun z => by rw [z, h2] at nl3; cases nl3
      refine q1 fx df sx ds dn dl (.ref ol) l q dq v8 G (fun b o hb e => ?_) (gg (fun z => by rw [z, en0] at efr; cases efr) efr) ⟨?_, ?_, gg ifn ef0, gg sdn es0, ⟨kvs, e1, Nat.le_trans (show kvs.length ≤ 20 + 2 from z1) (by decide), fun y hy => f1 y (by simp only [List.length_cons, List.length_nil]; simpa using hy)⟩, ⟨k2, gg dnl el0, vk2⟩, gg pln ep0, gg qdn eq0, hbd⟩
      · exact bG _ _ (Ne.symm (sne nHdn e)) (b0 _ _ hb e)
      · intro x hx
        simp only [List.mem_cons, List.not_mem_nil, or_false] at hx
        rcases hx with rfl | rfl | rfl | rfl | rfl | rfl <;> assumption
      · simp only [List.nodup_cons, List.mem_cons, List.not_mem_nil, or_false, not_or, List.nodup_nil, and_true, not_false_eq_true]
        exact ⟨⟨fsx, Ne.symm lf, ifn, fdl, Ne.symm qf⟩, ⟨Ne.symm lsx, sdn, sdl, Ne.symm qsx⟩, ⟨pln, pdl, lq⟩, ⟨Ne.symm dnl, Ne.symm qdn⟩, Ne.symm qdl⟩
end
end SW

namespace SW
open PySem PySem.Spec PyProof.Rows L2
abbrev s_call : Stmt := topS 21
theorem sc_call : FnScope ["machine", "frame", "statement", "_", "target", "name", "arguments", "numbers", "argument", "lists"] ["machine", "frame", "statement"] (defScope s_call) := ⟨rfl, rfl, rfl, by decide +kernel, rfl, by decide +kernel, by decide +kernel⟩

/-! ### a call -/
theorem pe_fldK {X : Cx} {K : PySem.W.Frag} {e : Expr} {f : PySem.Str} {pos : Pos} {ta : TE} (hK : X.K = K) (he : PE X e ta) (hb : attributeBase e f X.env (eval e X.env) = eval e X.env) : PE X (.Attribute e f pos) (tFld K ta f) := by
  subst hK
  exact pe_fld he hb
def argT (nn ln : List PySem.Str) (a : Ar) : Prop := (∃ z, a = .ls z ∧ z ∈ ln) ∨ (∃ (t : Pl) (h : PySem.Str) (ds : List PyData), a = .pl h ds ∧ a.enc = t.enc ∧ t.ok nn ln)
theorem pl_head (t : Pl) : ∃ (z : PySem.Str) (es : List PyData), t.enc = .tuple (.str z :: es) ∧ z ≠ "list" := by
  obtain ⟨z, es, h1, _, h2⟩ := pl_opl t
  exact ⟨z, es, h1, h2⟩
theorem dp_hd {K : PySem.W.Frag} {H : Hp} {v : V} {z : PySem.Str} {es : List PyData} (h : Dp K H v (.tuple (.str z :: es))) : ∃ t us, v = .ref t ∧ SqT K H t (.str z :: us) ∧ DpAll K H us es := by
  obtain ⟨t, xs, rfl, ht, ha⟩ := dp_tup_inv h
  cases ha with
  | cons h1 ha =>
    cases dp_str_inv h1
    exact ⟨t, _, rfl, ht, ha⟩
section
variable {P : Program} {w : World} {K : PySem.W.Frag} {mg : PySem.Str → Option Value} {base : Heap} {CP CG pp gg CS CU CL CF CM pq gq : Addr}
theorem SaAt.same {H H' : Hp} {s : Addr} {nn ln : List PySem.Str} {la : PySem.Str → Addr} (st : SaAt CS H s nn ln la) (b : Same H H') : SaAt CS H' s nn ln la := by
  obtain ⟨dn, dl, dx, fs, e, l1, l2, ⟨k1, e1, z1, f1⟩, k2, e2, f2⟩ := st.ex
  refine ⟨dn, dl, dx, fs, b _ _ e, l1, l2, ⟨k1, b _ _ e1, z1, f1⟩, k2, b _ _ e2, fun x hx => ?_⟩
  obtain ⟨g1, cs, g2, g3⟩ := f2 x hx
  exact ⟨g1, cs, b _ _ g2, g3⟩
def spCallA (K : PySem.W.Frag) (CP CG CS CL CF CM : Addr) : Sp := fun vs H Q _ => ∃ (a : Ma) (f : Fr) (v : V) (r : Int) (y z : PySem.Str) (as : List Ar) (cs : List Pc) (c : Pc) (nn ln : List PySem.Str) (la : PySem.Str → Addr), vs = [.ref a.m, .ref f.f, v] ∧ a.At CM H ∧ f.At CF H ∧ SaAt CS H f.s nn ln la ∧ Dp K H v (.tuple [.str "call", .int r, .str y, .str z, .tuple (as.map Ar.enc)]) ∧ (∀ a, a ∈ as → argT nn ln a) ∧ as.length ≤ 20 ∧ PgAt K CP CG H a.pg cs ∧ fnd cs z = some c ∧
  ∀ (N L : Addr) (zs : List Int) (H1 : Hp), Same H H1 → H1 N = some (.lst (zs.map V.int)) → zs.length = (as.filter fun x => x.nm.isNone).length → H1 L = some (.lst (((as.filterMap Ar.nm).map la).map V.ref)) → spBegin K CP CS CL CF CM [.ref a.m, .ref c.p, .ref N, .ref L, .str y] H1 Q E0
theorem ok_call (T : TxN K mg CP CG pp gg CS CU CL CF CM pq gq) (TR : TxR K mg CS) (c_fault : CkM K CM "fault" "Machine.fault" s_Machine_fault ["self", "row", "kind"]) (c_begin : CkM K CM "begin" "Machine.begin" s_Machine_begin ["self", "procedure", "numbers", "lists", "target"]) (c_called : CkM K CG "called" "Program.called" s_called ["self", "name"]) (c_Place : CkI K CL "Place.__init__" s_Place ["self", "block"]) (c_Frame : CkI K CF "Frame.__init__" s_Frame ["self", "state", "target", "body"]) (c_State : CkI K CS "State.__init__" s_State ["self", "numbers", "lists", "old"])
    {fdl fdn : FuncData} (F_list : Fun K "list_names" "Procedure.list_names" s_list_names gg fdl) (b_list_names : Binds K fdl ["self"] []) (F_num : Fun K "number_names" "Procedure.number_names" s_number_names gq fdn) (b_number_names : Binds K fdn ["self"] []) (D_value_of : Df K mg "value_of" s_value_of ["term", "state"]) (D_cells_of : Df K mg "_cells_of" s_cells_of ["which", "state"]) (D_call : Df K mg "_call" s_call ["machine", "frame", "statement"]) : FnOk P w K mg base CX0 8 D_call.f D_call.fd ["machine", "frame", "statement"] (spCallA K CP CG CS CL CF CM) := by
  have G_begin := ok_begin (P := P) (w := w) (base := base) c_begin.F T TR c_fault c_Place c_Frame c_State F_list b_list_names F_num b_number_names D_value_of D_cells_of
  have m_begin := c_begin.M
  have b_begin := c_begin.b
  have G_called := ok_called (P := P) (w := w) (base := base) c_called.F T.toTxQ
  have m_called := c_called.M
  have b_called := c_called.b
  have G_value_of := ok_value_of (P := P) (w := w) (base := base) TR D_value_of D_cells_of
  refine D_call.F.ok sc_call (fun vs H Q E h => ?_) (fun cdv A outer s H vs Q E hr h => ?_)
  · obtain ⟨a, f, v, r, y, z, as, cs, c, nn, ln, la, rfl, _⟩ := h
    rfl
  · obtain ⟨a, f, v, r, y, z, as, cs, c, nn, ln, la, rfl, hm, hf, st, hv, has, hal, hpg, hfnd, q⟩ := h
    refine ⟨_, (pss_cons (ps_asg (pv 2) (pg_tup (by rfl) (pgs_cons (pg_name (i := 3) sc_call.nd rfl (.inl rfl)) (pgs_cons (pg_name (i := 3) sc_call.nd rfl (.inl rfl)) (pgs_cons (pg_name (i := 4) sc_call.nd rfl (.inl rfl)) (pgs_cons (pg_name (i := 5) sc_call.nd rfl (.inl rfl)) (pgs_cons (pg_name (i := 6) sc_call.nd rfl (.inl rfl)) pgs_nil)))))))
    (pss_cons (ps_setLc (i := 7) (own := [("argument", 8)]) (g := gName 8) (by rfl) sc_call.nd rfl rfl (sw_true rfl rfl rfl (by decide +kernel)) (pi_tup (pv 6)) (blkOk_by (own := [("argument", 8)]) (N := ["machine", "frame", "statement", "_", "target", "name", "arguments", "numbers", "argument", "lists"]) (sc := defScope s_call) (by decide +kernel)) (fun _ _ _ _ _ => pg_name (i := 8) sc_call.nd rfl (Or.inl rfl)) (fun _ _ _ _ _ => pts_one (pt_cmpR op_ne (pe_ix (show IxR _ (rIxT K) from ix_tup) (pv 8) pe_int (fun _ _ => rfl)) pe_str (nomark _))) (fun _ _ _ _ _ => (pe_call G_value_of (hr.mono (by decide)) (by rfl) D_value_of.g D_value_of.F.kp D_value_of.b .nil pass0 (pa_cons (pv 8) (pa_cons (pe_fldK (K := K) rfl (pv 1) rfl) pa_nil)))))
    (pss_cons (ps_setLc (i := 9) (own := [("argument", 8)]) (g := gName 8) (by rfl) sc_call.nd rfl rfl (sw_true rfl rfl rfl (by decide +kernel)) (pi_tup (pv 6)) (blkOk_by (own := [("argument", 8)]) (N := ["machine", "frame", "statement", "_", "target", "name", "arguments", "numbers", "argument", "lists"]) (sc := defScope s_call) (by decide +kernel)) (fun _ _ _ _ _ => pg_name (i := 8) sc_call.nd rfl (Or.inl rfl)) (fun _ _ _ _ _ => pts_one (pt_cmpR op_eq (pe_ix (show IxR _ (rIxT K) from ix_tup) (pv 8) pe_int (fun _ _ => rfl)) pe_str (nomark _))) (fun _ _ _ _ _ => (pe_dget (hu_of hr) (pe_fldK (K := K) rfl (pe_fldK (K := K) rfl (pv 1) rfl) rfl) (pe_ix (show IxR _ (rIxT K) from ix_tup) (pv 8) pe_int (fun _ _ => rfl)) (fun _ _ => rfl))))
    (pss_one (ps_expr (pe_meth (pv 0) T.cMachine m_begin G_begin (hr.mono (by decide)) b_begin .nil pass0 (pa_cons (pe_meth (pe_fld (pv 0) rfl) T.cl m_called G_called (hr.mono (by decide)) b_called .nil pass0 (pa_cons (pv 5) pa_nil)) (pa_cons (pv 7) (pa_cons (pv 9) (pa_cons (pv 4) pa_nil)))))))))), ?_⟩
    obtain ⟨b, v1, v2, v3, v4, v5, rfl, hb, h1, h2, h3, h4, h5⟩ := dp5 hv
    cases dp_str_inv h1
    cases dpi h2
    cases dp_str_inv h3
    cases dp_str_inv h4
    obtain ⟨t, us, rfl, ht, hus⟩ := dp_tup_inv h5
    have hul : us.length = as.length := by rw [dpa_len hus, List.length_map]
    refine ⟨_, rfl, b, _, rfl, hb, rfl, _, _, rfl, _, _, rfl, _, _, rfl, _, _, rfl, _, _, rfl, rfl, ?_⟩
    refine ⟨_, rfl, t, rfl, ⟨_, ht⟩, fun N nN => ?_⟩
    refine lc_tup (K := K) (a := t) (xs := us) (fun i G => Same H G ∧ ∃ zs : List Int, G N = some (.lst (zs.map V.int)) ∧ zs.length = ((as.take i).filter fun x => x.nm.isNone).length) ⟨same_new nN, [], upd_same, rfl⟩ (fun i G _ hP => sqt_same hP.1 ht) (fun i u G hu hP => ?_) (fun G hP => ?_)
    · obtain ⟨sG, zs, eN, zl⟩ := hP
      have hi : i < as.length := by
        rw [← hul]
        exact (List.getElem?_eq_some_iff.mp hu).1
      obtain ⟨u', g1, d1⟩ := dp_mem hus hi
      rw [hu] at g1
      cases g1
      have htk : as.take (i + 1) = as.take i ++ [as[i]] := List.take_succ_eq_append_getElem hi
      have ham : as[i] ∈ as := List.getElem_mem hi
      have zl2 : zs.length ≤ 20 := by
        rw [zl]
        refine Nat.le_trans (List.length_filter_le _ _) ?_
        rw [List.length_take]
        omega
      rcases has _ ham with ⟨x, e, hx⟩ | ⟨p, h, ds, e, e2, hp⟩
      · have d2 := d1.same sG
        rw [e] at d2
        obtain ⟨t2, w1, w2, rfl, ht2, g1, g2⟩ := dp_inv2 d2
        cases dp_str_inv g1
        refine ⟨rfl, _, rfl, t2, _, _, _, rfl, rfl, ht2, atI_nat (j := 0) rfl, rfl, _, rfl, ?_⟩
        refine ite2 (fun e9 => ?_) (fun _ => ⟨sG, zs, eN, ?_⟩)
        · rw [decide_eq_true rfl] at e9
          cases e9
        · rw [htk, List.filter_append, List.filter_cons, e]
          show _ = (_ ++ []).length
          rw [List.append_nil, zl]
      · have d2 := d1.same sG
        obtain ⟨z0, es, e3, hne⟩ := pl_head p
        rw [e2, e3] at d2
        obtain ⟨t2, ws, rfl, ht2, _⟩ := dp_hd d2
        have d3 := d1.same sG
        rw [e2] at d3
        refine ⟨rfl, _, rfl, t2, _, _, _, rfl, rfl, ht2, atI_nat (j := 0) rfl, rfl, _, rfl, ?_⟩
        refine ite2 (fun _ => ?_) (fun e9 => ?_)
        · refine ⟨_, rfl, _, rfl, f.f, CF, f.dx, _, _, rfl, sG _ _ hf, T.cFrame, T.nFrame_state, frF_state _ _ _, .ref t2, f.s, .pl p, nn, ln, la, rfl, d3, st.same sG, hp, fun zz => ?_, fun ⟨_, _, _, c⟩ => nomatch c⟩
          refine ⟨_, eN, small_sz5 (by rw [List.length_map]; omega), same_mut sG nN, zs ++ [zz], ?_, ?_⟩
          · rw [upd_same, List.map_append]
            rfl
          · rw [htk, List.filter_append, List.filter_cons, e, List.length_append, List.length_append, zl]
            rfl
        · refine absurd ?_ e9
          rw [str_dec, decide_eq_false hne]
          rfl
    · obtain ⟨sG, zs, eN, zl⟩ := hP
      rw [List.take_of_length_le (by omega)] at zl
      refine ⟨_, rfl, t, rfl, ⟨_, sqt_same sG ht⟩, fun L nL => ?_⟩
      refine lc_tup (K := K) (a := t) (xs := us) (fun i G' => Same G G' ∧ G' L = some (.lst ((((as.take i).filterMap Ar.nm).map la).map V.ref))) ⟨same_new nL, upd_same⟩ (fun i G' _ hP => sqt_same hP.1 (sqt_same sG ht)) (fun i u G' hu hP => ?_) (fun G' hP => ?_)
      · obtain ⟨sG', eL⟩ := hP
        have sH := sG.trans sG'
        have hi : i < as.length := by
          rw [← hul]
          exact (List.getElem?_eq_some_iff.mp hu).1
        obtain ⟨u', g1, d1⟩ := dp_mem hus hi
        rw [hu] at g1
        cases g1
        have htk : as.take (i + 1) = as.take i ++ [as[i]] := List.take_succ_eq_append_getElem hi
        have ham : as[i] ∈ as := List.getElem_mem hi
        rcases has _ ham with ⟨x, e, hx⟩ | ⟨p, h, ds, e, e2, hp⟩
        · have d2 := d1.same sH
          rw [e] at d2
          obtain ⟨t2, w1, w2, rfl, ht2, g1, g2⟩ := dp_inv2 d2
          cases dp_str_inv g1
          cases dp_str_inv g2
          obtain ⟨dn, dl, dx, fs, e0, l1, l2, _, k2, e3, f2⟩ := (st.same sH).ex
          refine ⟨rfl, _, rfl, t2, _, _, _, rfl, rfl, ht2, atI_nat (j := 0) rfl, rfl, _, rfl, ?_⟩
          refine ite2 (fun _ => ?_) (fun e9 => ?_)
          · refine ⟨_, rfl, f.f, CF, f.dx, _, _, rfl, sH _ _ hf, T.cFrame, T.nFrame_state, frF_state _ _ _, f.s, CS, dx, fs, _, rfl, e0, TR.cs, TR.s1, l2, _, rfl, t2, _, _, _, rfl, rfl, ht2, atI_nat (j := 1) rfl, dl, _, rfl, (f2 x hx).1 ▸ DGet.k (k := .inr x) e3, ?_⟩
            refine ⟨_, eL, small_sz5 ?_, same_mut sG' nL, ?_⟩
            · rw [List.length_map, List.length_map]
              refine Nat.le_trans (List.length_filterMap_le _ _) ?_
              rw [List.length_take]
              omega
            · rw [upd_same, htk, List.filterMap_append, List.map_append, List.map_append, List.filterMap_cons, e]
              rfl
          · exact absurd (by rw [decide_eq_true rfl]) e9
        · have d2 := d1.same sH
          obtain ⟨z0, es, e3, hne⟩ := pl_head p
          rw [e2, e3] at d2
          obtain ⟨t2, ws, rfl, ht2, _⟩ := dp_hd d2
          refine ⟨rfl, _, rfl, t2, _, _, _, rfl, rfl, ht2, atI_nat (j := 0) rfl, rfl, _, rfl, ?_⟩
          refine ite2 (fun e9 => ?_) (fun _ => ⟨sG', ?_⟩)
          · rw [str_dec, decide_eq_false hne] at e9
            cases e9
          · rw [htk, List.filterMap_append, List.filterMap_cons, e]
            show _ = some (HO.lst (List.map V.ref (List.map la (_ ++ []))))
            rw [List.append_nil]
            exact eL
      · obtain ⟨sG', eL⟩ := hP
        rw [List.take_of_length_le (by omega)] at eL
        have sH := sG.trans sG'
        obtain ⟨dg, tg', hg1, hg2⟩ := hpg.ex
        have hg1' := sH _ _ hg1
        refine ⟨_, rfl, a.m, a.dx, _, rfl, sH _ _ hm, maF_no_begin _ _ _ _ _ _ _, ?_⟩
        refine ⟨_, rfl, a.m, CM, a.dx, _, _, rfl, sH _ _ hm, T.cMachine, T.nMachine_program, maF_program _ _ _ _ _ _ _, a.pg, dg, _, rfl, hg1', rfl, _, rfl, ?_⟩
        refine ⟨a.pg, cs, z, rfl, ⟨⟨dg, tg', hg1', sqt_same sH hg2⟩, fun c hc => (hpg.at_ c hc).same sH⟩, fun c' hc' => ?_, fun hn => ?_⟩
        · rw [hfnd] at hc'
          cases hc'
          exact ⟨_, rfl, _, rfl, _, rfl, q N L zs G' sH (sG' _ _ eN) zl eL⟩
        · rw [hfnd] at hn
          cases hn
end
end SW

namespace SW
open PySem PySem.Spec PyProof.Rows L2
/-! ### statements typed at any depth; how a block ends -/
def TyD (nn ln mv : List PySem.Str) (kn : List Kn) : (n : Nat) → BD n → Prop
  | 0, s => nomatch s
  | n + 1, s => TyS nn ln mv kn (B := BD n) s ∧ ∀ b, b ∈ Sf.subs (B := BD n) s → ∀ t, t ∈ b → TyD nn ln mv kn n t
def EnD : (n : Nat) → BD n → Prop
  | 0, s => nomatch s
  | n + 1, s => match (show Sf (BD n) from s) with
    | .oth k _ _ => k = "return"
    | .iff _ _ a b => (∃ l t, a = l ++ [t] ∧ EnD n t) ∧ ∃ l t, b = l ++ [t] ∧ EnD n t
    | _ => False
def EnB (n : Nat) (b : List (BD n)) : Prop := ∃ l t, b = l ++ [t] ∧ EnD n t
theorem EnB.not_last {n : Nat} {b : List (BD n)} (h : EnB n b) {i : Nat} {s : BD n} (hs : b[i]? = some s) (hn : ¬ EnD n s) : i + 1 < b.length := by
  obtain ⟨l, t, rfl, ht⟩ := h
  have hi := (List.getElem?_eq_some_iff.mp hs).1
  rw [List.length_append] at hi ⊢
  have hi : i < l.length + 1 := hi
  show i + 1 < l.length + 1
  rcases Nat.lt_or_ge i l.length with h | h
  · omega
  · have : i = l.length := by omega
    rw [this, List.getElem?_append_right (Nat.le_refl _), Nat.sub_self] at hs
    cases hs
    exact absurd ht hn
/-! ### what stands on the heap while it runs -/
structure Plr where
  q : Addr
  dx : Addr
  blk : V
  n : Nat
  b : List (BD n)
  i : Nat
  lp : V
def lpo : V → List Addr
  | .ref l => [l]
  | _ => []
def Plr.own (p : Plr) : List Addr := p.q :: lpo p.lp
structure Fm where
  fr : Fr
  ds : Addr
  dn : Addr
  dl : Addr
  old : V
  c : Pc
  c5 : PySem.Str
  c6 : PySem.Str
  la : PySem.Str → Addr
  ps : List Plr
def Fm.nn (f : Fm) : List PySem.Str := f.c5 :: f.c6 :: numN f.c.ps
def Fm.ln (f : Fm) : List PySem.Str := lnm f.c.ps
def Fm.own (f : Fm) : List Addr := f.fr.f :: f.fr.s :: f.fr.pl :: f.dn :: f.dl :: f.ps.flatMap Plr.own
/-- what does not change while it runs -/
structure Wk where
  H0 : Hp
  m : Addr
  pg : Addr
  ch : Addr
  fr : Addr
  tu : Addr
  cs : List Pc
  hs : List Int
  Z : List Addr
  pr : List Addr
def Wk.kn (x : Wk) : List Kn := x.cs.map Pc.kn
def Wk.S0 (x : Wk) : List Addr := x.m :: x.fr :: x.tu :: x.Z
structure PcD (kn : List Kn) (c : Pc) : Prop where
  ex : ∃ (c5 c6 : PySem.Str) (t1 t2 : Tm) (r1 r2 : Int), c.lt = [(r1, c5, t1), (r2, c6, t2)] ∧ t1.ok (numN c.ps) (lnm c.ps) ∧ t2.ok (c5 :: numN c.ps) (lnm c.ps) ∧ ∀ s, s ∈ c.body → TyD (c5 :: c6 :: numN c.ps) (lnm c.ps) c.mv kn 5 s
  en : EnB 5 c.body
structure WkOk (K : PySem.W.Frag) (CP CG CM : Addr) (x : Wk) : Prop where
  pga : PgAt K CP CG x.H0 x.pg x.cs
  ok : ∀ c, c ∈ x.cs → c.ok
  ty : ∀ c, c ∈ x.cs → PcD x.kn c
  nd : (x.cs.map fun c => c.nm).Nodup
  pn : ∀ c, c ∈ x.cs → (c.ps.map Prod.fst).Nodup ∧ c.ps.length ≤ 20
  m0 : ∃ (a : Ma), a.m = x.m ∧ a.At CM x.H0
  f0 : ∃ xs, x.H0 x.fr = some (.lst xs)
  t0 : ∃ xs, x.H0 x.tu = some (.lst xs)
  z0 : ∀ z, z ∈ x.Z → ∃ l : List Int, x.H0 z = some (.lst (l.map V.int)) ∧ l.length ≤ 100
  h0 : x.H0 x.ch = some (.lst (x.hs.map V.int))
  hl : x.hs.length ≤ 1000
  n0 : (x.fr :: x.tu :: x.ch :: x.Z).Nodup
structure PlAt (K : PySem.W.Frag) (CL : Addr) (H : Hp) (p : Plr) : Prop where
  q : H p.q = some (.ins CL p.dx (plF p.blk (.int p.i) p.lp))
  d : Dp K H p.blk (blkE p.n p.b)
  ok : ∀ s, s ∈ p.b → okD p.n s
  lp : p.lp = .non ∨ ∃ l x y k, p.lp = .ref l ∧ H l = some (.lst [x, y, .int k])
structure PlOk (x : Wk) (f : Fm) (p : Plr) : Prop where
  ty : ∀ s, s ∈ p.b → TyD f.nn f.ln f.c.mv x.kn p.n s
  le : p.i ≤ p.b.length
structure FmAt (K : PySem.W.Frag) (CS CL CF : Addr) (x : Wk) (H : Hp) (f : Fm) : Prop where
  at_ : f.fr.At CF H
  s : H f.fr.s = some (.ins CS f.ds (stF (.ref f.dn) (.ref f.dl) f.old))
  n : ∃ kvs : List (Key × V), H f.dn = some (.dK kvs) ∧ kvs.length ≤ 100 ∧ ∀ y, y ∈ f.nn → ∃ z : Int, valV kvs (.inr y) = some (.int z)
  l : ∃ kvs : List (Key × V), H f.dl = some (.dK kvs) ∧ ∀ y, y ∈ f.ln → valV kvs (.inr y) = some (.ref (f.la y))
  lz : ∀ y, y ∈ f.ln → f.la y ∈ x.Z ∧ (f.la y ∈ x.pr → y ∈ f.c.mv)
  pl : H f.fr.pl = some (.lst (f.ps.map fun p => V.ref p.q))
  ps : ∀ p, p ∈ f.ps → PlAt K CL H p
  po : ∀ p, p ∈ f.ps → PlOk x f p
def Fm.Live (f : Fm) : Prop := ∃ p, p ∈ f.ps ∧ p.i < p.b.length ∧ EnB p.n p.b
def Chn : List Fm → Prop
  | f :: g :: r => (∃ y, f.fr.tg = .str y ∧ y ∈ g.nn) ∧ Chn (g :: r)
  | _ => True
def npl (st : List Fm) : Nat := (st.map fun f => f.ps.length).sum
def ZAt (x : Wk) (H : Hp) : Prop := ∀ z, z ∈ x.Z → ∃ l0 l : List Int, x.H0 z = some (.lst (l0.map V.int)) ∧ H z = some (.lst (l.map V.int)) ∧ l.length = l0.length ∧ (z ∈ x.pr → l.Perm l0)
structure MaOk (CM : Addr) (x : Wk) (H : Hp) (a : Ma) : Prop where
  m : a.m = x.m
  pg : a.pg = x.pg
  ch : a.ch = x.ch
  fr : a.fr = x.fr
  tu : a.tu = x.tu
  at_ : a.At CM H
  k : a.k ≤ x.hs.length
structure Sv (K : PySem.W.Frag) (CS CL CF CM : Addr) (x : Wk) (H : Hp) (a : Ma) (st : List Fm) (ts : List V) : Prop where
  bu : Bu x.S0 x.H0 H
  ma : MaOk CM x H a
  frs : H x.fr = some (.lst ((st.map fun f => V.ref f.fr.f).reverse))
  tus : H x.tu = some (.lst ts)
  z : ZAt x H
  fm : ∀ f, f ∈ st → FmAt K CS CL CF x H f
  nd : (st.flatMap Fm.own).Nodup
  new : ∀ f, f ∈ st → ∀ y, y ∈ f.own → x.H0 y = none
  lv : ∀ f, f ∈ st.tail → f.Live
  ch : Chn st
  sz : st.length + ts.length + npl st + 2 * a.st.toNat ≤ 1000
section
variable {K : PySem.W.Frag} {CP CG CS CU CL CF CM : Addr} {x : Wk} {H H' : Hp} {a a' : Ma} {f f' g : Fm} {r st : List Fm} {ts ts' : List V} {S : List Addr}
theorem PlAt.bu {p : Plr} (h : PlAt K CL H p) (b : Bu S H H') (m : TM8 K H H') (hS : ∀ y, y ∈ p.own → y ∉ S) : PlAt K CL H' p := by
  refine ⟨b _ _ (hS _ List.mem_cons_self) h.q, dp_tups m _ _ (noL_blk h.ok) h.d, h.ok, ?_⟩
  rcases h.lp with h1 | ⟨l, u, v, k, h1, h2⟩
  · exact .inl h1
  · refine .inr ⟨l, u, v, k, h1, b _ _ (hS _ ?_) h2⟩
    unfold Plr.own
    rw [h1]
    exact List.mem_cons_of_mem _ List.mem_cons_self
theorem FmAt.bu (h : FmAt K CS CL CF x H f) (b : Bu S H H') (m : TM8 K H H') (hS : ∀ y, y ∈ f.own → y ∉ S) : FmAt K CS CL CF x H' f := by
  have o : ∀ {y : Addr}, y ∈ [f.fr.f, f.fr.s, f.fr.pl, f.dn, f.dl] → y ∉ S := fun {y} hy => hS y (List.mem_append_left (f.ps.flatMap Plr.own) hy)
  obtain ⟨k1, e1, z1⟩ := h.n
  obtain ⟨k2, e2, z2⟩ := h.l
  exact ⟨b _ _ (o (by simp)) h.at_, b _ _ (o (by simp)) h.s, ⟨k1, b _ _ (o (by simp)) e1, z1⟩, ⟨k2, b _ _ (o (by simp)) e2, z2⟩, h.lz, b _ _ (o (by simp)) h.pl,
    fun p hp => (h.ps p hp).bu b m fun y hy => hS y (List.mem_append_right [f.fr.f, f.fr.s, f.fr.pl, f.dn, f.dl] (List.mem_flatMap.mpr ⟨p, hp, hy⟩)), h.po⟩
/-- a list, a dict or an object stands there -/
def Mu (H : Hp) (y : Addr) : Prop := (∃ us, H y = some (.lst us)) ∨ (∃ kvs : List (Key × V), H y = some (.dK kvs)) ∨ ∃ C dx fs, H y = some (.ins C dx fs)
theorem Mu.is {y : Addr} (h : Mu H y) : H y ≠ none := by
  rcases h with ⟨us, e⟩ | ⟨k, e⟩ | ⟨C, d, fs, e⟩ <;> rw [e] <;> exact fun e => by cases e
theorem tm_mu (b : Bu S H H') (hS : ∀ y, y ∈ S → Mu H y) : TM8 K H H' := fun c xs hs => by
  have ns : ∀ {o : HO}, H c = some o → (∀ us, o ≠ .lst us) → (∀ C dx fs, o ≠ .ins C dx fs) → (∀ k : List (Key × V), o ≠ .dK k) → c ∉ S := fun {o} e n1 n2 n3 hc => by
    rcases hS c hc with ⟨us, h⟩ | ⟨k, h⟩ | ⟨C, d, fs, h⟩
    · rw [h] at e
      cases e
      exact n1 _ rfl
    · rw [h] at e
      cases e
      exact n3 _ rfl
    · rw [h] at e
      cases e
      exact n2 _ _ _ rfl
  rcases hs with (hs | ⟨o, hs⟩) | hs
  · exact .inl (.inl (b _ _ (ns hs (fun _ e => by cases e) (fun _ _ _ e => by cases e) (fun _ e => by cases e)) hs))
  · exact .inl (.inr ⟨o, b _ _ (ns hs (fun _ e => by cases e) (fun _ _ _ e => by cases e) (fun _ e => by cases e)) hs⟩)
  · exact .inr hs
theorem PlAt.mu {p : Plr} (h : PlAt K CL H p) {y : Addr} (hy : y ∈ p.own) : Mu H y := by
  rcases List.mem_cons.mp hy with rfl | hy
  · exact .inr (.inr ⟨_, _, _, h.q⟩)
  · rcases h.lp with h1 | ⟨l, u, v, k, h1, h2⟩
    · rw [h1] at hy
      cases hy
    · rw [h1] at hy
      rw [List.mem_singleton.mp hy]
      exact .inl ⟨_, h2⟩
theorem FmAt.mu (h : FmAt K CS CL CF x H f) {y : Addr} (hy : y ∈ f.own) : Mu H y := by
  have hy : y ∈ [f.fr.f, f.fr.s, f.fr.pl, f.dn, f.dl] ++ f.ps.flatMap Plr.own := hy
  rcases List.mem_append.mp hy with hy | hy
  · simp only [List.mem_cons, List.not_mem_nil, or_false] at hy
    obtain ⟨k1, e1, z1⟩ := h.n
    obtain ⟨k2, e2, z2⟩ := h.l
    rcases hy with rfl | rfl | rfl | rfl | rfl
    · exact .inr (.inr ⟨_, _, _, h.at_⟩)
    · exact .inr (.inr ⟨_, _, _, h.s⟩)
    · exact .inl ⟨_, h.pl⟩
    · exact .inr (.inl ⟨_, e1⟩)
    · exact .inr (.inl ⟨_, e2⟩)
  · obtain ⟨p, hp, hy⟩ := List.mem_flatMap.mp hy
    exact (h.ps p hp).mu hy
theorem FmAt.is (h : FmAt K CS CL CF x H f) {y : Addr} (hy : y ∈ f.own) : H y ≠ none := (h.mu hy).is
theorem Sv.mu0 (h : Sv K CS CL CF CM x H a st ts) {y : Addr} (hy : y ∈ x.S0) : Mu H y := by
  have hm : H a.m = _ := h.ma.at_
  unfold Wk.S0 at hy
  simp only [List.mem_cons] at hy
  rcases hy with rfl | rfl | rfl | hy
  · exact .inr (.inr ⟨_, _, _, by rw [← h.ma.m, hm]⟩)
  · exact .inl ⟨_, h.frs⟩
  · exact .inl ⟨_, h.tus⟩
  · obtain ⟨l0, l, _, e, _⟩ := h.z y hy
    exact .inl ⟨_, e⟩
theorem Sv.s0 (h : Sv K CS CL CF CM x H a st ts) {y : Addr} (hy : y ∈ x.S0) : H y ≠ none := (h.mu0 hy).is
theorem Sv.tmS (h : Sv K CS CL CF CM x H a st ts) (b : Bu S H H') (hS : ∀ y, y ∈ S → (∃ f, f ∈ st ∧ y ∈ f.own) ∨ y ∈ x.S0) : TM8 K H H' := tm_mu b fun y hy => by
  rcases hS y hy with ⟨f, hf, h1⟩ | h1
  · exact (h.fm f hf).mu h1
  · exact h.mu0 h1
theorem Sv.h0 (h : Sv K CS CL CF CM x H a st ts) {y : Addr} (hy : H y = none) : x.H0 y = none := by
  cases e : x.H0 y with
  | none => rfl
  | some o =>
    by_cases hs : y ∈ x.S0
    · exact absurd hy (h.s0 hs)
    · rw [h.bu _ _ hs e] at hy
      cases hy
theorem WkOk.s0 (w : WkOk K CP CG CM x) {y : Addr} (hy : y ∈ x.S0) : x.H0 y ≠ none := by
  unfold Wk.S0 at hy
  simp only [List.mem_cons] at hy
  rcases hy with rfl | rfl | rfl | hy
  · obtain ⟨a, e, h⟩ := w.m0
    rw [← e, show x.H0 a.m = _ from h]; exact fun e => by cases e
  · obtain ⟨a, h⟩ := w.f0
    rw [h]; exact fun e => by cases e
  · obtain ⟨a, h⟩ := w.t0
    rw [h]; exact fun e => by cases e
  · obtain ⟨l, h, _⟩ := w.z0 y hy
    rw [h]; exact fun e => by cases e
theorem WkOk.mu (w : WkOk K CP CG CM x) {y : Addr} (hy : y ∈ x.S0) : Mu x.H0 y := by
  unfold Wk.S0 at hy
  simp only [List.mem_cons] at hy
  rcases hy with rfl | rfl | rfl | hy
  · obtain ⟨a, e, h⟩ := w.m0
    exact .inr (.inr ⟨_, _, _, by rw [← e, show x.H0 a.m = _ from h]⟩)
  · obtain ⟨a, h⟩ := w.f0
    exact .inl ⟨_, h⟩
  · obtain ⟨a, h⟩ := w.t0
    exact .inl ⟨_, h⟩
  · obtain ⟨l, h, _⟩ := w.z0 y hy
    exact .inl ⟨_, h⟩
/-- the program's data stand as they did -/
theorem Sv.tm (w : WkOk K CP CG CM x) (b : Bu x.S0 x.H0 H) : TM8 K x.H0 H := tm_mu b fun y hy => w.mu hy
end
end SW

namespace SW
open PySem PySem.Spec PyProof.Rows L2
/-! ### the invariant, kept -/
section
variable {K : PySem.W.Frag} {CP CG CS CU CL CF CM : Addr} {x : Wk} {H H' : Hp} {a a' : Ma} {f f' g : Fm} {r st : List Fm} {ts ts' : List V} {S : List Addr}
theorem Sv.apart (h : Sv K CS CL CF CM x H a st ts) (w : WkOk K CP CG CM x) (hf : f ∈ st) {y : Addr} (hy : y ∈ f.own) : y ∉ x.S0 := fun hs => w.s0 hs (h.new f hf y hy)
theorem Sv.bu2 (h : Sv K CS CL CF CM x H a st ts) (b : Bu S H H') (hS : ∀ y, y ∈ S → y ∈ x.S0 ∨ x.H0 y = none) : Bu x.S0 x.H0 H' := fun c o hc e => by
  refine b c o (fun hs => ?_) (h.bu c o hc e)
  rcases hS c hs with h1 | h1
  · exact hc h1
  · rw [h1] at e
    cases e
theorem Sv.zk (h : Sv K CS CL CF CM x H a st ts) (b : Bu S H H') (hS : ∀ z, z ∈ x.Z → z ∉ S) : ZAt x H' := fun z hz => by
  obtain ⟨l0, l, h1, h2, h3⟩ := h.z z hz
  exact ⟨l0, l, h1, b _ _ (hS z hz) h2, h3⟩
/-- the top frame, or what all share, is changed -/
theorem Sv.mv (h : Sv K CS CL CF CM x H a (f :: r) ts) (w : WkOk K CP CG CM x) (b : Bu S H H') (hS : ∀ y, y ∈ S → y ∈ f.own ∨ y ∈ x.S0) (m : MaOk CM x H' a') (frs : H' x.fr = some (.lst (((f' :: r).map fun f => V.ref f.fr.f).reverse))) (tus : H' x.tu = some (.lst ts')) (z : ZAt x H')
    (e : FmAt K CS CL CF x H' f') (hf : f'.fr = f.fr) (hn : f'.nn = f.nn) (ho : ∀ y, y ∈ f'.own → y ∈ f.own ∨ H y = none) (hnd : f'.own.Nodup) (sz : (f' :: r).length + ts'.length + npl (f' :: r) + 2 * a'.st.toNat ≤ 1000) : Sv K CS CL CF CM x H' a' (f' :: r) ts' := by
  have nd := h.nd
  rw [List.flatMap_cons] at nd
  obtain ⟨nd1, nd2, nd3⟩ := List.nodup_append.mp nd
  have hr : ∀ g, g ∈ r → ∀ y, y ∈ g.own → y ∉ S := fun g hg y hy hs => by
    rcases hS y hs with h1 | h1
    · exact nd3 y h1 y (List.mem_flatMap.mpr ⟨g, hg, hy⟩) rfl
    · exact h.apart w (List.mem_cons_of_mem _ hg) hy h1
  have tm : TM8 K H H' := h.tmS b fun y hy => by
    rcases hS y hy with h1 | h1
    · exact .inl ⟨f, List.mem_cons_self, h1⟩
    · exact .inr h1
  refine ⟨h.bu2 b fun y hy => ?_, m, frs, tus, z, fun g hg => ?_, ?_, fun g hg y hy => ?_, fun g hg => h.lv g hg, ?_, sz⟩
  · rcases hS y hy with h1 | h1
    · exact .inr (h.new f List.mem_cons_self y h1)
    · exact .inl h1
  · rcases List.mem_cons.mp hg with rfl | hg
    · exact e
    · exact (h.fm g (List.mem_cons_of_mem _ hg)).bu b tm (hr g hg)
  · rw [List.flatMap_cons]
    refine List.nodup_append.mpr ⟨hnd, nd2, fun y hy u hu hyu => ?_⟩
    subst hyu
    rcases ho y hy with h1 | h1
    · exact nd3 y h1 y hu rfl
    · obtain ⟨g, hg, hy2⟩ := List.mem_flatMap.mp hu
      exact (h.fm g (List.mem_cons_of_mem _ hg)).is hy2 h1
  · rcases List.mem_cons.mp hg with rfl | hg
    · rcases ho y hy with h1 | h1
      · exact h.new f List.mem_cons_self y h1
      · exact h.h0 h1
    · exact h.new g (List.mem_cons_of_mem _ hg) y hy
  · have hc := h.ch
    cases r with
    | nil => trivial
    | cons g r =>
      obtain ⟨⟨y, h1, h2⟩, h3⟩ := hc
      exact ⟨⟨y, by rw [hf]; exact h1, h2⟩, h3⟩
theorem Sv.keep (h : Sv K CS CL CF CM x H a st ts) (w : WkOk K CP CG CM x) (hf : f ∈ st) (b : Bu S H H') (hS : ∀ y, y ∈ S → y ∈ f.own) : MaOk CM x H' a ∧ H' x.fr = some (.lst ((st.map fun f => V.ref f.fr.f).reverse)) ∧ H' x.tu = some (.lst ts) ∧ ZAt x H' := by
  have ns : ∀ {y : Addr}, y ∈ x.S0 → y ∉ S := fun {y} hy hs => h.apart w hf (hS y hs) hy
  refine ⟨⟨h.ma.m, h.ma.pg, h.ma.ch, h.ma.fr, h.ma.tu, b _ _ (ns (by rw [h.ma.m]; exact List.mem_cons_self)) h.ma.at_, h.ma.k⟩, b _ _ (ns (by simp [Wk.S0])) h.frs, b _ _ (ns (by simp [Wk.S0])) h.tus, h.zk b fun z hz => ns (by simp [Wk.S0, hz])⟩
/-- only the top frame is changed -/
theorem Sv.top (h : Sv K CS CL CF CM x H a (f :: r) ts) (w : WkOk K CP CG CM x) (b : Bu S H H') (hS : ∀ y, y ∈ S → y ∈ f.own)
    (e : FmAt K CS CL CF x H' f') (hf : f'.fr = f.fr) (hn : f'.nn = f.nn) (ho : ∀ y, y ∈ f'.own → y ∈ f.own ∨ H y = none) (hnd : f'.own.Nodup) (sz : (f' :: r).length + ts.length + npl (f' :: r) + 2 * a.st.toNat ≤ 1000) : Sv K CS CL CF CM x H' a (f' :: r) ts := by
  obtain ⟨h1, h2, h3, h4⟩ := h.keep w List.mem_cons_self b hS
  refine h.mv w b (fun y hy => .inl (hS y hy)) h1 ?_ h3 h4 e hf hn ho hnd sz
  rw [h2]
  simp only [List.map_cons, hf]
/-- what all share is changed, not the frames -/
theorem Sv.gl (h : Sv K CS CL CF CM x H a st ts) (w : WkOk K CP CG CM x) (b : Bu S H H') (hS : ∀ y, y ∈ S → y ∈ x.S0) (m : MaOk CM x H' a') (frs : H' x.fr = some (.lst ((st.map fun f => V.ref f.fr.f).reverse))) (tus : H' x.tu = some (.lst ts')) (z : ZAt x H') (sz : st.length + ts'.length + npl st + 2 * a'.st.toNat ≤ 1000) : Sv K CS CL CF CM x H' a' st ts' :=
  ⟨h.bu2 b fun y hy => .inl (hS y hy), m, frs, tus, z, fun g hg => (h.fm g hg).bu b (h.tmS b fun y hy => .inr (hS y hy)) fun y hy hs => h.apart w hg hy (hS y hs), h.nd, h.new, h.lv, h.ch, sz⟩
/-- the top frame ends -/
theorem Sv.pop (h : Sv K CS CL CF CM x H a (f :: r) ts) (w : WkOk K CP CG CM x) {L : List V} (hL : L = (r.map fun f => V.ref f.fr.f).reverse) : Sv K CS CL CF CM x (upd H x.fr (.lst L)) a r ts := by
  subst hL
  have b : Bu [x.fr] H (upd H x.fr (.lst ((r.map fun f => V.ref f.fr.f).reverse))) := Bu.upd (.same (.refl _)) (.inl (by simp))
  have hS : ∀ y, y ∈ [x.fr] → y ∈ x.S0 := fun y hy => by
    rw [List.mem_singleton.mp hy]
    simp [Wk.S0]
  have nd := h.nd
  rw [List.flatMap_cons] at nd
  obtain ⟨nd1, nd2, nd3⟩ := List.nodup_append.mp nd
  have n0 := w.n0
  simp only [List.nodup_cons, List.mem_cons, not_or] at n0
  obtain ⟨⟨n1, n2, n3⟩, ⟨n4, n5⟩, n6, n7⟩ := n0
  have mf : a.m ≠ x.fr := fun e => by
    have hm : H a.m = _ := h.ma.at_
    rw [e, h.frs] at hm
    cases hm
  have hsz := h.sz
  refine ⟨h.bu2 b fun y hy => .inl (hS y hy), ⟨h.ma.m, h.ma.pg, h.ma.ch, h.ma.fr, h.ma.tu, b _ _ (by simpa using mf) h.ma.at_, h.ma.k⟩, upd_same, b _ _ (by simpa using Ne.symm n1) h.tus, h.zk b fun z hz e => ?_, fun g hg => (h.fm g (List.mem_cons_of_mem _ hg)).bu b (h.tmS b fun y hy => .inr (hS y hy)) fun y hy hs => h.apart w (List.mem_cons_of_mem _ hg) hy (hS y hs), nd2, fun g hg => h.new g (List.mem_cons_of_mem _ hg), fun g hg => h.lv g (List.mem_of_mem_tail hg), ?_, ?_⟩
  · rw [List.mem_singleton.mp e] at hz
    exact n3 hz
  · have hc := h.ch
    cases r with
    | nil => trivial
    | cons g r => exact hc.2
  · have e1 : npl (f :: r) = f.ps.length + npl r := by
      unfold npl
      rw [List.map_cons, List.sum_cons]
    rw [List.length_cons, e1] at hsz
    omega
theorem Sv.sa (h : Sv K CS CL CF CM x H a st ts) (w : WkOk K CP CG CM x) (hf : f ∈ st) : SaAt CS H f.fr.s f.nn f.ln f.la := by
  have e := h.fm f hf
  obtain ⟨k1, e1, z1, f1⟩ := e.n
  obtain ⟨k2, e2, f2⟩ := e.l
  refine ⟨f.dn, f.dl, f.ds, _, e.s, stF_numbers _ _ _, stF_lists _ _ _, ⟨k1, e1, z1, f1⟩, k2, e2, fun y hy => ⟨f2 y hy, ?_⟩⟩
  obtain ⟨l0, l, g1, g2, g3, _⟩ := h.z _ (e.lz y hy).1
  obtain ⟨l1, g4, g5⟩ := w.z0 _ (e.lz y hy).1
  rw [g1] at g4
  injection g4 with g4
  injection g4 with g4
  refine ⟨l, g2, ?_⟩
  have : l0.length = l1.length := by
    have := congrArg List.length g4
    rw [List.length_map, List.length_map] at this
    exact this
  omega
/-- how the run ends -/
def Fin (K : PySem.W.Frag) (CM : Addr) (x : Wk) (H : Hp) : Prop := Bu x.S0 x.H0 H ∧ ZAt x H ∧ ∃ (a : Ma) (t : Addr) (z : PySem.Str) (us : List V), a.m = x.m ∧ a.tu = x.tu ∧ a.At CM H ∧ a.out = .ref t ∧ SqT K H t (.str z :: us)
theorem Sv.fin (h : Sv K CS CL CF CM x H a st ts) (w : WkOk K CP CG CM x) (b : Bu S H H') (hS : ∀ y, y ∈ S → y = x.m ∨ y = x.fr) {t : Addr} {z : PySem.Str} {us : List V} (hm : Ma.At CM H' { a with out := .ref t }) (ht : SqT K H' t (.str z :: us)) : Fin K CM x H' := by
  have n0 := w.n0
  simp only [List.nodup_cons, List.mem_cons, not_or] at n0
  obtain ⟨⟨n1, n2, n3⟩, _⟩ := n0
  refine ⟨h.bu2 b fun y hy => .inl ?_, h.zk b fun y hy hs => ?_, { a with out := .ref t }, t, z, us, h.ma.m, h.ma.tu, hm, rfl, ht⟩
  · rcases hS y hy with rfl | rfl <;> simp [Wk.S0]
  · rcases hS y hs with rfl | rfl
    · obtain ⟨l0, l, _, e, _⟩ := h.z _ hy
      have hm : H a.m = _ := h.ma.at_
      rw [h.ma.m, e] at hm
      cases hm
    · exact n3 hy
theorem Sv.ft (h : Sv K CS CL CF CM x H a st ts) (w : WkOk K CP CG CM x) {Q : VK} (q : ∀ H', Fin K CM x H' → Q .non H') : FtK K CM a H Q := fun t r z H' b _ hm ht => q H' (h.fin w b (fun y hy => .inl (by rw [List.mem_singleton.mp hy, h.ma.m])) hm ht)
end
end SW

namespace SW
open PySem PySem.Spec PyProof.Rows L2
/-! ### what the actions do to the invariant -/
section
variable {K : PySem.W.Frag} {CP CG CS CU CL CF CM : Addr} {x : Wk} {H H' : Hp} {a a' : Ma} {f f' g : Fm} {r st : List Fm} {ts ts' : List V} {S : List Addr}
theorem Sv.ndf (h : Sv K CS CL CF CM x H a st ts) (hf : f ∈ st) : f.own.Nodup := by
  have nd := h.nd
  obtain ⟨s, t, rfl⟩ := List.append_of_mem hf
  rw [List.flatMap_append, List.flatMap_cons] at nd
  exact (List.nodup_append.mp (List.nodup_append.mp nd).2.1).1
structure Ow (f : Fm) : Prop where
  k : f.fr.f ≠ f.fr.s ∧ f.fr.f ≠ f.fr.pl ∧ f.fr.f ≠ f.dn ∧ f.fr.f ≠ f.dl ∧ f.fr.f ∉ f.ps.flatMap Plr.own
  s : f.fr.s ≠ f.fr.pl ∧ f.fr.s ≠ f.dn ∧ f.fr.s ≠ f.dl ∧ f.fr.s ∉ f.ps.flatMap Plr.own
  p : f.fr.pl ≠ f.dn ∧ f.fr.pl ≠ f.dl ∧ f.fr.pl ∉ f.ps.flatMap Plr.own
  n : f.dn ≠ f.dl ∧ f.dn ∉ f.ps.flatMap Plr.own
  l : f.dl ∉ f.ps.flatMap Plr.own
  nd : (f.ps.flatMap Plr.own).Nodup
theorem ow (h : f.own.Nodup) : Ow f := by
  unfold Fm.own at h
  simp only [List.nodup_cons, List.mem_cons, not_or] at h
  obtain ⟨⟨a1, a2, a3, a4, a5⟩, ⟨b1, b2, b3, b4⟩, ⟨c1, c2, c3⟩, ⟨d1, d2⟩, e1, n⟩ := h
  exact ⟨⟨a1, a2, a3, a4, a5⟩, ⟨b1, b2, b3, b4⟩, ⟨c1, c2, c3⟩, ⟨d1, d2⟩, e1, n⟩
theorem ow_mk {f : Fm} (h : Ow f) : f.own.Nodup := by
  unfold Fm.own
  simp only [List.nodup_cons, List.mem_cons, not_or]
  exact ⟨h.k, h.s, h.p, h.n, h.l, h.nd⟩
theorem pl_own {p : Plr} (hp : p ∈ f.ps) {y : Addr} (hy : y ∈ p.own) : y ∈ f.ps.flatMap Plr.own := List.mem_flatMap.mpr ⟨p, hp, hy⟩
/-- a number is set -/
theorem Sv.num (h : Sv K CS CL CF CM x H a (f :: r) ts) (w : WkOk K CP CG CM x) {y : PySem.Str} (hy : y ∈ f.nn) {kvs : List (Key × V)} (e1 : H f.dn = some (.dK kvs)) (z : Int) : Sv K CS CL CF CM x (upd H f.dn (.dK (putK kvs (.inr y) (.int z)))) a (f :: r) ts := by
  have e := h.fm f List.mem_cons_self
  have nd := h.ndf List.mem_cons_self
  have o := ow nd
  have b : Bu [f.dn] H (upd H f.dn (.dK (putK kvs (.inr y) (.int z)))) := Bu.upd (.same (.refl _)) (.inl (by simp))
  have hS : ∀ y, y ∈ [f.dn] → y ∈ f.own := fun y hy => by
    rw [List.mem_singleton.mp hy]
    simp [Fm.own]
  have tm := h.tmS b fun y hy => .inl ⟨f, List.mem_cons_self, hS y hy⟩
  obtain ⟨k1, e2, z1, f1⟩ := e.n
  rw [e1] at e2
  injection e2 with e2
  injection e2 with e2
  subst e2
  obtain ⟨k2, e3, f2⟩ := e.l
  refine h.top w b hS ⟨b _ _ (by simpa using o.k.2.2.1) e.at_, b _ _ (by simpa using o.s.2.1) e.s, ⟨_, upd_same, ?_, fun y' hy' => ?_⟩, ⟨k2, b _ _ (by simpa using Ne.symm o.n.1) e3, f2⟩, e.lz, b _ _ (by simpa using o.p.1) e.pl, fun p hp => (e.ps p hp).bu b tm fun y hy hs => ?_, e.po⟩ rfl rfl (fun y hy => .inl hy) nd h.sz
  · obtain ⟨u, hu⟩ := f1 y hy
    rw [putK_same _ hu]
    exact z1
  · rw [valV_put]
    by_cases hyx : y' = y
    · exact ⟨z, by rw [if_pos (by rw [hyx])]⟩
    · rw [if_neg fun e => hyx (by cases e; rfl)]
      exact f1 y' hy'
  · rw [List.mem_singleton.mp hs] at hy
    exact o.n.2 (pl_own hp hy)
theorem npl_cons (f : Fm) (r : List Fm) : npl (f :: r) = f.ps.length + npl r := by
  unfold npl
  rw [List.map_cons, List.sum_cons]
/-- a block is entered -/
theorem Sv.push (h : Sv K CS CL CF CM x H a (f :: r) ts) (w : WkOk K CP CG CM x) (b : Bu [f.fr.pl] H H') {q dd : Addr} {c : V} {n : Nat} {bk : List (BD n)} (nq : H q = none) (e1 : H' f.fr.pl = some (.lst ((f.ps.map fun p => V.ref p.q) ++ [.ref q]))) (e2 : H' q = some (.ins CL dd (plF c (.int 0) .non))) (d : Dp K H c (blkE n bk)) (ok : ∀ s, s ∈ bk → okD n s) (ty : ∀ s, s ∈ bk → TyD f.nn f.ln f.c.mv x.kn n s)
    (sz : (f :: r).length + ts.length + npl (f :: r) + 1 + 2 * a.st.toNat ≤ 1000) : Sv K CS CL CF CM x H' a ({ f with ps := f.ps ++ [⟨q, dd, c, n, bk, 0, .non⟩] } :: r) ts := by
  have e := h.fm f List.mem_cons_self
  have nd := h.ndf List.mem_cons_self
  have o := ow nd
  have hS : ∀ y, y ∈ [f.fr.pl] → y ∈ f.own := fun y hy => by
    rw [List.mem_singleton.mp hy]
    simp [Fm.own]
  have tm := h.tmS b fun y hy => .inl ⟨f, List.mem_cons_self, hS y hy⟩
  obtain ⟨k1, e3, z1, f1⟩ := e.n
  obtain ⟨k2, e4, f2⟩ := e.l
  have hq : q ∉ f.own := fun hq => e.is hq nq
  have fm : (f.ps ++ [(⟨q, dd, c, n, bk, 0, .non⟩ : Plr)]).flatMap Plr.own = f.ps.flatMap Plr.own ++ [q] := by
    rw [List.flatMap_append, List.flatMap_cons, List.flatMap_nil]
    rfl
  refine h.top w b hS ⟨b _ _ (by simpa using o.k.2.1) e.at_, b _ _ (by simpa using o.s.1) e.s, ⟨k1, b _ _ (by simpa using Ne.symm o.p.1) e3, z1, f1⟩, ⟨k2, b _ _ (by simpa using Ne.symm o.p.2.1) e4, f2⟩, e.lz, ?_, fun p hp => ?_, fun p hp => ?_⟩ rfl rfl (fun y hy => ?_) ?_ ?_
  · rw [e1, List.map_append]
    rfl
  · rcases List.mem_append.mp hp with hp | hp
    · refine (e.ps p hp).bu b tm fun y hy hs => ?_
      rw [List.mem_singleton.mp hs] at hy
      exact o.p.2.2 (pl_own hp hy)
    · rw [List.mem_singleton.mp hp]
      exact ⟨e2, dp_tups tm _ _ (noL_blk ok) d, ok, .inl rfl⟩
  · rcases List.mem_append.mp hp with hp | hp
    · exact ⟨(e.po p hp).ty, (e.po p hp).le⟩
    · rw [List.mem_singleton.mp hp]
      exact ⟨ty, Nat.zero_le _⟩
  · have hy : y ∈ [f.fr.f, f.fr.s, f.fr.pl, f.dn, f.dl] ++ (f.ps ++ [(⟨q, dd, c, n, bk, 0, .non⟩ : Plr)]).flatMap Plr.own := hy
    rw [fm, ← List.append_assoc] at hy
    rcases List.mem_append.mp hy with hy | hy
    · exact .inl hy
    · rw [List.mem_singleton.mp hy]
      exact .inr nq
  · show ([f.fr.f, f.fr.s, f.fr.pl, f.dn, f.dl] ++ (f.ps ++ [(⟨q, dd, c, n, bk, 0, .non⟩ : Plr)]).flatMap Plr.own).Nodup
    rw [fm, ← List.append_assoc]
    refine List.nodup_append.mpr ⟨nd, by simp, fun y hy u hu hyu => ?_⟩
    rw [List.mem_singleton.mp hu] at hyu
    rw [hyu] at hy
    exact hq hy
  · rw [npl_cons] at sz ⊢
    show r.length + 1 + ts.length + ((f.ps ++ [_]).length + npl r) + _ ≤ _
    rw [List.length_append]
    have sz : r.length + 1 + ts.length + (f.ps.length + npl r) + 1 + 2 * a.st.toNat ≤ 1000 := sz
    show r.length + 1 + ts.length + (f.ps.length + 1 + npl r) + _ ≤ _
    omega
/-- the last place is changed -/
theorem Sv.plmv (h : Sv K CS CL CF CM x H a (f :: r) ts) (w : WkOk K CP CG CM x) {ps : List Plr} {p p' : Plr} (hps : f.ps = ps ++ [p]) (hq : p'.q = p.q) (b : Bu S H H') (hS : ∀ y, y ∈ S → y ∈ p.own ∨ y ∈ x.S0) (m : MaOk CM x H' a') (frs : H' x.fr = some (.lst (((f :: r).map fun f => V.ref f.fr.f).reverse))) (tus : H' x.tu = some (.lst ts')) (z : ZAt x H')
    (e' : PlAt K CL H' p') (o' : PlOk x f p') (ho : ∀ y, y ∈ p'.own → y ∈ p.own ∨ H y = none) (hnd : p'.own.Nodup) (sz : (f :: r).length + ts'.length + npl (f :: r) + 2 * a'.st.toNat ≤ 1000) : Sv K CS CL CF CM x H' a' ({ f with ps := ps ++ [p'] } :: r) ts' := by
  have e := h.fm f List.mem_cons_self
  have nd := h.ndf List.mem_cons_self
  have o := ow nd
  have fm : ∀ p : Plr, (ps ++ [p]).flatMap Plr.own = ps.flatMap Plr.own ++ p.own := fun p => by
    rw [List.flatMap_append, List.flatMap_cons, List.flatMap_nil, List.append_nil]
  have o5 := o.nd
  rw [hps, fm] at o5
  obtain ⟨n1, n2, n3⟩ := List.nodup_append.mp o5
  have pin : p ∈ f.ps := by rw [hps]; simp
  have hS2 : ∀ y, y ∈ S → y ∈ f.own ∨ y ∈ x.S0 := fun y hy => by
    rcases hS y hy with h1 | h1
    · exact .inl (List.mem_append_right [f.fr.f, f.fr.s, f.fr.pl, f.dn, f.dl] (pl_own pin h1))
    · exact .inr h1
  have tm := h.tmS b fun y hy => by
    rcases hS2 y hy with h1 | h1
    · exact .inl ⟨f, List.mem_cons_self, h1⟩
    · exact .inr h1
  have ns : ∀ {y : Addr}, y ∈ f.own → y ∉ p.own → y ∉ S := fun {y} h1 h2 hs => by
    rcases hS y hs with h3 | h3
    · exact h2 h3
    · exact h.apart w List.mem_cons_self h1 h3
  have np : ∀ {y : Addr}, y ∉ f.ps.flatMap Plr.own → y ∉ p.own := fun {y} h1 h2 => h1 (pl_own pin h2)
  obtain ⟨k1, e3, z1, f1⟩ := e.n
  obtain ⟨k2, e4, f2⟩ := e.l
  refine h.mv w b hS2 m frs tus z ⟨b _ _ (ns (by simp [Fm.own]) (np o.k.2.2.2.2)) e.at_, b _ _ (ns (by simp [Fm.own]) (np o.s.2.2.2)) e.s, ⟨k1, b _ _ (ns (by simp [Fm.own]) (np o.n.2)) e3, z1, f1⟩, ⟨k2, b _ _ (ns (by simp [Fm.own]) (np o.l)) e4, f2⟩, e.lz, ?_, fun u hu => ?_, fun u hu => ?_⟩ rfl rfl (fun y hy => ?_) ?_ ?_
  · have := b _ _ (ns (by simp [Fm.own]) (np o.p.2.2)) e.pl
    rw [this, hps, List.map_append, List.map_append]
    show some (HO.lst (_ ++ [V.ref p.q])) = some (HO.lst (_ ++ [V.ref p'.q]))
    rw [hq]
  · rcases List.mem_append.mp hu with hu | hu
    · have hu2 : u ∈ f.ps := by rw [hps]; exact List.mem_append_left _ hu
      refine (e.ps u hu2).bu b tm fun y hy => ns (List.mem_append_right [f.fr.f, f.fr.s, f.fr.pl, f.dn, f.dl] (pl_own hu2 hy)) fun h2 => ?_
      exact n3 y (List.mem_flatMap.mpr ⟨u, hu, hy⟩) y h2 rfl
    · rw [List.mem_singleton.mp hu]
      exact e'
  · rcases List.mem_append.mp hu with hu | hu
    · have hu2 : u ∈ f.ps := by rw [hps]; exact List.mem_append_left _ hu
      exact ⟨(e.po u hu2).ty, (e.po u hu2).le⟩
    · rw [List.mem_singleton.mp hu]
      exact ⟨o'.ty, o'.le⟩
  · have hy : y ∈ [f.fr.f, f.fr.s, f.fr.pl, f.dn, f.dl] ++ (ps ++ [p']).flatMap Plr.own := hy
    rw [fm, ← List.append_assoc] at hy
    rcases List.mem_append.mp hy with hy | hy
    · refine .inl ?_
      show y ∈ [f.fr.f, f.fr.s, f.fr.pl, f.dn, f.dl] ++ f.ps.flatMap Plr.own
      rw [hps, fm, ← List.append_assoc]
      exact List.mem_append_left _ hy
    · rcases ho y hy with h1 | h1
      · exact .inl (List.mem_append_right [f.fr.f, f.fr.s, f.fr.pl, f.dn, f.dl] (pl_own pin h1))
      · exact .inr h1
  · show ([f.fr.f, f.fr.s, f.fr.pl, f.dn, f.dl] ++ (ps ++ [p']).flatMap Plr.own).Nodup
    have nd2 : ([f.fr.f, f.fr.s, f.fr.pl, f.dn, f.dl] ++ f.ps.flatMap Plr.own).Nodup := nd
    rw [hps, fm, ← List.append_assoc] at nd2
    rw [fm, ← List.append_assoc]
    obtain ⟨m1, m2, m3⟩ := List.nodup_append.mp nd2
    refine List.nodup_append.mpr ⟨m1, hnd, fun y hy u hu hyu => ?_⟩
    subst hyu
    rcases ho y hu with h1 | h1
    · exact m3 y hy y h1 rfl
    · refine e.is ?_ h1
      show y ∈ [f.fr.f, f.fr.s, f.fr.pl, f.dn, f.dl] ++ f.ps.flatMap Plr.own
      rw [hps, fm, ← List.append_assoc]
      exact List.mem_append_left _ hy
  · rw [npl_cons] at sz ⊢
    have : (ps ++ [p']).length = f.ps.length := by
      rw [hps, List.length_append, List.length_append]
      rfl
    show r.length + 1 + ts'.length + ((ps ++ [p']).length + npl r) + _ ≤ _
    rw [this]
    exact sz
theorem Sv.plset (h : Sv K CS CL CF CM x H a (f :: r) ts) (w : WkOk K CP CG CM x) {ps : List Plr} {p p' : Plr} (hps : f.ps = ps ++ [p]) (hq : p'.q = p.q) (b : Bu S H H') (hS : ∀ y, y ∈ S → y ∈ p.own)
    (e' : PlAt K CL H' p') (o' : PlOk x f p') (ho : ∀ y, y ∈ p'.own → y ∈ p.own ∨ H y = none) (hnd : p'.own.Nodup) : Sv K CS CL CF CM x H' a ({ f with ps := ps ++ [p'] } :: r) ts := by
  have pin : p ∈ f.ps := by rw [hps]; simp
  obtain ⟨h1, h2, h3, h4⟩ := h.keep w List.mem_cons_self b fun y hy => List.mem_append_right [f.fr.f, f.fr.s, f.fr.pl, f.dn, f.dl] (pl_own pin (hS y hy))
  exact h.plmv w hps hq b (fun y hy => .inl (hS y hy)) h1 h2 h3 h4 e' o' ho hnd h.sz
/-- an ended place goes -/
theorem Sv.drop (h : Sv K CS CL CF CM x H a (f :: r) ts) (w : WkOk K CP CG CM x) {ps : List Plr} {p : Plr} (hps : f.ps = ps ++ [p]) {L : List V} (hL : L = ps.map fun p => V.ref p.q) : Sv K CS CL CF CM x (upd H f.fr.pl (.lst L)) a ({ f with ps := ps } :: r) ts := by
  subst hL
  have e := h.fm f List.mem_cons_self
  have nd := h.ndf List.mem_cons_self
  have o := ow nd
  have b : Bu [f.fr.pl] H (upd H f.fr.pl (.lst (ps.map fun p => V.ref p.q))) := Bu.upd (.same (.refl _)) (.inl (by simp))
  have hS : ∀ y, y ∈ [f.fr.pl] → y ∈ f.own := fun y hy => by
    rw [List.mem_singleton.mp hy]
    simp [Fm.own]
  have tm := h.tmS b fun y hy => .inl ⟨f, List.mem_cons_self, hS y hy⟩
  obtain ⟨k1, e3, z1, f1⟩ := e.n
  obtain ⟨k2, e4, f2⟩ := e.l
  have fm : (ps ++ [p]).flatMap Plr.own = ps.flatMap Plr.own ++ p.own := by
    rw [List.flatMap_append, List.flatMap_cons, List.flatMap_nil, List.append_nil]
  have sub : ∀ u, u ∈ ps → u ∈ f.ps := fun u hu => by rw [hps]; exact List.mem_append_left _ hu
  refine h.top w b hS ⟨b _ _ (by simpa using o.k.2.1) e.at_, b _ _ (by simpa using o.s.1) e.s, ⟨k1, b _ _ (by simpa using Ne.symm o.p.1) e3, z1, f1⟩, ⟨k2, b _ _ (by simpa using Ne.symm o.p.2.1) e4, f2⟩, e.lz, upd_same, fun u hu => ?_, fun u hu => ?_⟩ rfl rfl (fun y hy => ?_) ?_ ?_
  · refine (e.ps u (sub u hu)).bu b tm fun y hy hs => ?_
    rw [List.mem_singleton.mp hs] at hy
    exact o.p.2.2 (pl_own (sub u hu) hy)
  · exact ⟨(e.po u (sub u hu)).ty, (e.po u (sub u hu)).le⟩
  · refine .inl ?_
    have hy : y ∈ [f.fr.f, f.fr.s, f.fr.pl, f.dn, f.dl] ++ ps.flatMap Plr.own := hy
    show y ∈ [f.fr.f, f.fr.s, f.fr.pl, f.dn, f.dl] ++ f.ps.flatMap Plr.own
    rw [hps, fm, ← List.append_assoc]
    exact List.mem_append_left _ hy
  · have nd2 : ([f.fr.f, f.fr.s, f.fr.pl, f.dn, f.dl] ++ f.ps.flatMap Plr.own).Nodup := nd
    rw [hps, fm, ← List.append_assoc] at nd2
    exact (List.nodup_append.mp nd2).1
  · have hz := h.sz
    rw [npl_cons] at hz ⊢
    have : f.ps.length = ps.length + 1 := by
      rw [hps, List.length_append]
      rfl
    show r.length + 1 + ts.length + (ps.length + npl r) + _ ≤ _
    have hz : r.length + 1 + ts.length + (f.ps.length + npl r) + 2 * a.st.toNat ≤ 1000 := hz
    omega
end
end SW

namespace SW
open PySem PySem.Spec PyProof.Rows L2
/-! ### a frame begun; one step's end -/
section
variable {K : PySem.W.Frag} {CP CG CS CU CL CF CM : Addr} {x : Wk} {H H' : Hp} {a a' : Ma} {f f' g : Fm} {r st : List Fm} {ts ts' : List V} {S : List Addr}
def newFm (c : Pc) (c5 c6 : PySem.Str) (rs : List Addr) (tg : V) (f df s ds dn dl : Addr) (old : V) (pl q dq : Addr) (v8 : V) : Fm := ⟨⟨f, df, s, tg, pl⟩, ds, dn, dl, old, c, c5, c6, laOf (lnm c.ps) rs, [⟨q, dq, v8, 5, c.body, 0, .non⟩]⟩
theorem Sv.beg (h : Sv K CS CL CF CM x H a st ts) (w : WkOk K CP CG CM x) (b : Bu [x.fr] H H') {c : Pc} (hc : c ∈ x.cs) {c5 c6 : PySem.Str} {rs : List Addr} {tg : V} {fx df s ds dn dl : Addr} {old : V} {pl q dq : Addr} {v8 : V} (bg : BgAt K CS CL CF H c c5 c6 rs tg fx df s ds dn dl old pl q dq v8 H') (efr : H' x.fr = some (.lst ((st.map fun f => V.ref f.fr.f).reverse ++ [.ref fx])))
    (ty : ∀ s, s ∈ c.body → TyD (c5 :: c6 :: numN c.ps) (lnm c.ps) c.mv x.kn 5 s) (hrl : rs.length = (lnm c.ps).length) (hrs : ∀ (i : Nat) (y : PySem.Str) (r : Addr), (lnm c.ps)[i]? = some y → rs[i]? = some r → r ∈ x.Z ∧ (r ∈ x.pr → y ∈ c.mv)) (hlv : ∀ f, f ∈ st → f.Live)
    (hch : Chn (newFm c c5 c6 rs tg fx df s ds dn dl old pl q dq v8 :: st)) (sz : st.length + ts.length + npl st + 2 + 2 * a.st.toNat ≤ 1000) : Sv K CS CL CF CM x H' a (newFm c c5 c6 rs tg fx df s ds dn dl old pl q dq v8 :: st) ts := by
  have n0 := w.n0
  simp only [List.nodup_cons, List.mem_cons, not_or] at n0
  obtain ⟨⟨n1, n2, n3⟩, ⟨n4, n5⟩, n6, n7⟩ := n0
  have hS : ∀ y, y ∈ [x.fr] → y ∈ x.S0 := fun y hy => by
    rw [List.mem_singleton.mp hy]
    simp [Wk.S0]
  have tm := h.tmS b fun y hy => .inr (hS y hy)
  have mf : a.m ≠ x.fr := fun e => by
    have hm : H a.m = _ := h.ma.at_
    rw [e, h.frs] at hm
    cases hm
  obtain ⟨k2, e2, f2⟩ := bg.l
  have own : (newFm c c5 c6 rs tg fx df s ds dn dl old pl q dq v8).own = [fx, s, pl, dn, dl, q] := rfl
  refine ⟨h.bu2 b fun y hy => .inl (hS y hy), ⟨h.ma.m, h.ma.pg, h.ma.ch, h.ma.fr, h.ma.tu, b _ _ (by simpa using mf) h.ma.at_, h.ma.k⟩, ?_, b _ _ (by simpa using Ne.symm n1) h.tus, h.zk b fun z hz e => ?_, fun g hg => ?_, ?_, fun g hg y hy => ?_, fun g hg => hlv g hg, hch, ?_⟩
  · rw [efr, List.map_cons, List.reverse_cons]
    rfl
  · rw [List.mem_singleton.mp e] at hz
    exact n3 hz
  · rcases List.mem_cons.mp hg with rfl | hg
    · refine ⟨bg.f, bg.s, bg.n, ⟨k2, e2, fun y hy => ?_⟩, fun y hy => ?_, bg.pl, fun p hp => ?_, fun p hp => ?_⟩
      · obtain ⟨i, h1, h2⟩ := laOf_at hrl hy
        exact f2 i y _ h1 h2
      · obtain ⟨i, h1, h2⟩ := laOf_at hrl hy
        exact hrs i y _ h1 h2
      · have hp : p ∈ [(⟨q, dq, v8, 5, c.body, 0, .non⟩ : Plr)] := hp
        rw [List.mem_singleton.mp hp]
        exact ⟨bg.q, dp_tups tm _ _ (noL_blk (w.ok c hc).body) bg.b, (w.ok c hc).body, .inl rfl⟩
      · have hp : p ∈ [(⟨q, dq, v8, 5, c.body, 0, .non⟩ : Plr)] := hp
        rw [List.mem_singleton.mp hp]
        exact ⟨ty, Nat.zero_le _⟩
    · exact (h.fm g hg).bu b tm fun y hy hs => h.apart w hg hy (hS y hs)
  · rw [List.flatMap_cons, own]
    refine List.nodup_append.mpr ⟨bg.nd, h.nd, fun y hy u hu hyu => ?_⟩
    subst hyu
    obtain ⟨g, hg, hy2⟩ := List.mem_flatMap.mp hu
    exact (h.fm g hg).is hy2 (bg.nn y hy)
  · rcases List.mem_cons.mp hg with rfl | hg
    · rw [own] at hy
      exact h.h0 (bg.nn y hy)
    · exact h.new g hg y hy
  · rw [npl_cons]
    show st.length + 1 + ts.length + (1 + npl st) + _ ≤ _
    omega
theorem newFm_live {c : Pc} (en : EnB 5 c.body) {c5 c6 : PySem.Str} {rs : List Addr} {tg : V} {fx df s ds dn dl : Addr} {old : V} {pl q dq : Addr} {v8 : V} : (newFm c c5 c6 rs tg fx df s ds dn dl old pl q dq v8).Live := by
  refine ⟨_, List.mem_singleton.mpr rfl, ?_, en⟩
  obtain ⟨l, t, e, _⟩ := en
  show 0 < c.body.length
  rw [e, List.length_append]
  exact Nat.succ_pos _
/-- a step's end -/
def Nxt (K : PySem.W.Frag) (CS CL CF CM : Addr) (x : Wk) (M : Nat) (H : Hp) : Prop := Fin K CM x H ∨ ∃ (a : Ma) (f : Fm) (r : List Fm) (ts : List V), Sv K CS CL CF CM x H a (f :: r) ts ∧ a.out = .non ∧ f.Live ∧ npl (f :: r) + 2 * a.st.toNat < M
/-- an action is asked for -/
structure Mid (K : PySem.W.Frag) (CP CG CS CL CF CM : Addr) (x : Wk) (H : Hp) (a : Ma) (f : Fm) (r : List Fm) (ts : List V) (n : Nat) (s : Sf (BD n)) (v : V) (M : Nat) : Prop where
  w : WkOk K CP CG CM x
  sv : Sv K CS CL CF CM x H a (f :: r) ts
  out : a.out = .non
  sz : (f :: r).length + ts.length + npl (f :: r) + 2 * a.st.toNat ≤ 998
  dv : Dp K H v (Sf.enc (encD n) s)
  ok : Sf.ok (okD n) s
  ty : TyD f.nn f.ln f.c.mv x.kn (n + 1) s
  mm : npl (f :: r) + 2 * a.st.toNat + 2 ≤ M
theorem Mid.nx {n : Nat} {s : Sf (BD n)} {v : V} {M : Nat} (m : Mid K CP CG CS CL CF CM x H a f r ts n s v M) (h : Sv K CS CL CF CM x H' a' (f' :: r) ts') (out : a'.out = .non) (lv : f'.Live) (hst : a'.st = a.st) (hp : f'.ps.length ≤ f.ps.length + 1) : Nxt K CS CL CF CM x M H' := by
  refine .inr ⟨a', f', r, ts', h, out, lv, ?_⟩
  have := m.mm
  rw [npl_cons] at this ⊢
  rw [hst]
  omega
end
end SW

namespace SW
open PySem PySem.Spec PyProof.Rows L2
/-! ### what each action asks, from the invariant -/
section
variable {K : PySem.W.Frag} {CP CG CS CU CL CF CM : Addr} {x : Wk} {H H' : Hp} {a a' : Ma} {f f' g : Fm} {r st : List Fm} {ts ts' : List V} {S : List Addr} {n M : Nat} {s : Sf (BD n)} {v : V} {Q : VK} {E : XK}
theorem Sv.cell (h : Sv K CS CL CF CM x H a st ts) (w : WkOk K CP CG CM x) {z : Addr} (hz : z ∈ x.Z) (b : Bu [z] H H') {l l' : List Int} (e : H z = some (.lst (l.map V.int))) (e' : H' z = some (.lst (l'.map V.int))) (hl : l'.length = l.length) (hp : z ∈ x.pr → l'.Perm l) : Sv K CS CL CF CM x H' a st ts := by
  have n0 := w.n0
  simp only [List.nodup_cons, List.mem_cons, not_or] at n0
  obtain ⟨⟨n1, n2, n3⟩, ⟨n4, n5⟩, n6, n7⟩ := n0
  have hS : ∀ y, y ∈ [z] → y ∈ x.S0 := fun y hy => by
    rw [List.mem_singleton.mp hy]
    simp [Wk.S0, hz]
  have zf : x.fr ≠ z := fun e => n3 (by rw [e]; exact hz)
  have zt : x.tu ≠ z := fun e => n5 (by rw [e]; exact hz)
  have zm : a.m ≠ z := fun e2 => by
    have hm : H a.m = _ := h.ma.at_
    rw [e2, e] at hm
    cases hm
  refine h.gl w b hS ⟨h.ma.m, h.ma.pg, h.ma.ch, h.ma.fr, h.ma.tu, b _ _ (by simpa using zm) h.ma.at_, h.ma.k⟩ (b _ _ (by simpa using zf) h.frs) (b _ _ (by simpa using zt) h.tus) (fun y hy => ?_) h.sz
  obtain ⟨l0, l1, h1, h2, h3, h4⟩ := h.z y hy
  by_cases hyz : y = z
  · subst hyz
    rw [e] at h2
    injection h2 with h2
    injection h2 with h2
    have hll : l = l1 := by
      have := congrArg (fun l : List V => l.map fun v => match v with | .int i => i | _ => 0) h2
      simpa [List.map_map, Function.comp_def] using this
    subst hll
    exact ⟨l0, l', h1, e', by rw [hl, h3], fun hh => (hp hh).trans (h4 hh)⟩
  · exact ⟨l0, l1, h1, b _ _ (by simpa using hyz) h2, h3, h4⟩
theorem ins_dn (h : FmAt K CS CL CF x H f) {dx dn : Addr} {fs : List (PySem.Str × V)} (h1 : H f.fr.s = some (.ins CS dx fs)) (h2 : fs.lookup ("numbers" : PySem.Str) = some (.ref dn)) : dn = f.dn := by
  rw [h.s] at h1
  injection h1 with h1
  injection h1 with _ _ h1
  rw [← h1, stF_numbers] at h2
  cases h2
  rfl
theorem act_set (m : Mid K CP CG CS CL CF CM x H a f r ts n s v M) {i : Int} {ds : List PyData} (hs : s = .oth "set" i ds) (lv : EnD (n + 1) (show BD (n + 1) from s) ∨ f.Live) (q : ∀ H', Nxt K CS CL CF CM x M H' → Q .non H') : spAct K CS CF CM dSet (rSet CS) [.ref a.m, .ref f.fr.f, v] H Q E := by
  subst hs
  have fm := m.sv.fm f List.mem_cons_self
  replace lv : f.Live := lv.resolve_left fun h => by
    have h : ("set" : PySem.Str) = "return" := h
    exact absurd h (by decide +kernel)
  have ty : TyO f.nn f.ln "set" ds := m.ty.1
  have key : ∃ (y : PySem.Str) (t : Tm), ds = [.str y, t.enc] ∧ y ∈ f.nn ∧ t.ok f.nn f.ln := by
    rcases ty with ⟨_, h⟩ | ⟨h, _⟩ | ⟨h, _⟩ | ⟨h, _⟩ | ⟨h, _⟩
    · exact h
    all_goals exact absurd h (by decide +kernel)
  obtain ⟨y, t, rfl, hy, ht⟩ := key
  refine ⟨a, f.fr, v, _, f.nn, f.ln, f.la, rfl, m.sv.ma.at_, fm.at_, m.sv.sa m.w List.mem_cons_self, m.dv, ⟨i, y, t, rfl, ht⟩, m.sv.ft m.w fun H' hF => q H' (.inl hF), ?_⟩
  intro i' y' d' he dx dn fs kvs z h1 h2 h3 h4
  obtain rfl : y = y' := by
    injection he with he
    injection he with _ he
    injection he with _ he
    injection he with he _
    injection he
  obtain rfl := ins_dn fm h1 h2
  exact q _ (m.nx (m.sv.num m.w hy h3 z) m.out lv rfl (Nat.le_succ _))
/-- what an action that is not the last of a block has -/
theorem lv_of {k : PySem.Str} {i : Int} {ds : List PyData} (hk : k ≠ "return") (lv : EnD (n + 1) (show BD (n + 1) from (Sf.oth k i ds : Sf (BD n))) ∨ f.Live) : f.Live := lv.resolve_left fun h => hk h
theorem act_choose (m : Mid K CP CG CS CL CF CM x H a f r ts n s v M) {i : Int} {ds : List PyData} (hs : s = .oth "choose" i ds) (lv : EnD (n + 1) (show BD (n + 1) from s) ∨ f.Live) (q : ∀ H', Nxt K CS CL CF CM x M H' → Q .non H') : spAct K CS CF CM dChoose (rChoose CS CM) [.ref a.m, .ref f.fr.f, v] H Q E := by
  subst hs
  have fm := m.sv.fm f List.mem_cons_self
  replace lv : f.Live := lv_of (by decide +kernel) lv
  have ty : TyO f.nn f.ln "choose" ds := m.ty.1
  have key : ∃ (y : PySem.Str) (lo hi : Pl), ds = [.str y, lo.enc, hi.enc] ∧ y ∈ f.nn ∧ lo.ok f.nn f.ln ∧ hi.ok f.nn f.ln := by
    rcases ty with ⟨h, _⟩ | ⟨_, h⟩ | ⟨h, _⟩ | ⟨h, _⟩ | ⟨h, _⟩
    · exact absurd h (by decide +kernel)
    · exact h
    all_goals exact absurd h (by decide +kernel)
  obtain ⟨y, lo, hi, rfl, hy, hl, hh⟩ := key
  have n0 := m.w.n0
  simp only [List.nodup_cons, List.mem_cons, not_or] at n0
  obtain ⟨⟨n1, n2, n3⟩, ⟨n4, n5⟩, n6, n7⟩ := n0
  have hm0 : H a.m = _ := m.sv.ma.at_
  have hch : H a.ch = some (.lst (x.hs.map V.int)) := by
    rw [m.sv.ma.ch]
    refine m.sv.bu _ _ (fun hc => ?_) m.w.h0
    unfold Wk.S0 at hc
    simp only [List.mem_cons] at hc
    rcases hc with hc | hc | hc | hc
    · obtain ⟨a0, e0, h0⟩ := m.w.m0
      have h1 := m.w.h0
      rw [hc, ← e0, show x.H0 a0.m = _ from h0] at h1
      cases h1
    · exact n2 hc.symm
    · exact n4 hc.symm
    · exact n6 hc
  refine ⟨a, f.fr, v, _, f.nn, f.ln, f.la, rfl, m.sv.ma.at_, fm.at_, m.sv.sa m.w List.mem_cons_self, m.dv, ⟨i, y, lo, hi, rfl, hl, hh⟩, m.sv.ft m.w fun H' hF => q H' (.inl hF), x.hs, hch, m.sv.ma.k, m.w.hl, ?_⟩
  intro d0 d1 d3 d4 y' he dx dn fs kvs z k' H' h1 h2 h3 h4 b1 m1 hk
  obtain rfl : y = y' := by
    injection he with he
    injection he with _ he
    injection he with _ he
    injection he with he _
    injection he
  obtain rfl := ins_dn fm h1 h2
  have ms : a.m = x.m := m.sv.ma.m
  have hS : ∀ u, u ∈ [a.m] → u ∈ x.S0 := fun u hu => by
    rw [List.mem_singleton.mp hu, ms]
    simp [Wk.S0]
  have ne : ∀ {u : Addr} {us : List V}, H u = some (.lst us) → u ≠ a.m := fun {u us} e z => by
    rw [z, hm0] at e
    cases e
  have sv2 : Sv K CS CL CF CM x H' { a with k := k' } (f :: r) ts := m.sv.gl m.w b1 hS ⟨m.sv.ma.m, m.sv.ma.pg, m.sv.ma.ch, m.sv.ma.fr, m.sv.ma.tu, m1, hk⟩ (b1 _ _ (by simpa using ne m.sv.frs) m.sv.frs) (b1 _ _ (by simpa using ne m.sv.tus) m.sv.tus)
    (m.sv.zk b1 fun z hz hzm => by
      obtain ⟨_, l, _, e, _⟩ := m.sv.z z hz
      exact ne e (List.mem_singleton.mp hzm)) m.sv.sz
  have dm : f.dn ≠ a.m := fun z => by
    rw [z, hm0] at h3
    cases h3
  exact q _ (m.nx (sv2.num m.w hy (b1 _ _ (by simpa using dm) h3) z) m.out lv rfl (Nat.le_succ _))
theorem act_check (m : Mid K CP CG CS CL CF CM x H a f r ts n s v M) {i : Int} {ds : List PyData} (hs : s = .oth "check" i ds) (lv : EnD (n + 1) (show BD (n + 1) from s) ∨ f.Live) (q : ∀ H', Nxt K CS CL CF CM x M H' → Q .non H') : spAct K CS CF CM dCheck (fun _ _ _ _ _ H Q => Q .non H) [.ref a.m, .ref f.fr.f, v] H Q E := by
  subst hs
  have fm := m.sv.fm f List.mem_cons_self
  replace lv : f.Live := lv_of (by decide +kernel) lv
  have ty : TyO f.nn f.ln "check" ds := m.ty.1
  have key : ∃ c : CoD 4, ds = [encC 4 c] ∧ okC f.nn f.ln 4 c := by
    rcases ty with ⟨h, _⟩ | ⟨h, _⟩ | ⟨_, h⟩ | ⟨h, _⟩ | ⟨h, _⟩
    · exact absurd h (by decide +kernel)
    · exact absurd h (by decide +kernel)
    · exact h
    all_goals exact absurd h (by decide +kernel)
  obtain ⟨c, rfl, hc⟩ := key
  exact ⟨a, f.fr, v, _, f.nn, f.ln, f.la, rfl, m.sv.ma.at_, fm.at_, m.sv.sa m.w List.mem_cons_self, m.dv, ⟨i, c, rfl, hc⟩, m.sv.ft m.w fun H' hF => q H' (.inl hF), q _ (m.nx m.sv m.out lv rfl (Nat.le_succ _))⟩
theorem act_skip (m : Mid K CP CG CS CL CF CM x H a f r ts n s v M) {i : Int} {ds : List PyData} (hs : s = .oth "skip" i ds) (lv : EnD (n + 1) (show BD (n + 1) from s) ∨ f.Live) (q : ∀ H', Nxt K CS CL CF CM x M H' → Q .non H') : Q .non H := by
  subst hs
  replace lv : f.Live := lv_of (by decide +kernel) lv
  exact q _ (m.nx m.sv m.out lv rfl (Nat.le_succ _))
theorem act_return (m : Mid K CP CG CS CL CF CM x H a f r ts n s v M) {i : Int} {ds : List PyData} (hs : s = .oth "return" i ds) (q : ∀ H', Nxt K CS CL CF CM x M H' → Q .non H') : spAct K CS CF CM dRet (fun a _ _ _ _ H Q => ∀ z : Int, spFinish K CS CF CM [.ref a.m, .int z] H Q E0) [.ref a.m, .ref f.fr.f, v] H Q E := by
  subst hs
  have fm := m.sv.fm f List.mem_cons_self
  have ty : TyO f.nn f.ln "return" ds := m.ty.1
  have key : ∃ t : Tm, ds = [t.enc] ∧ t.ok f.nn f.ln := by
    rcases ty with ⟨h, _⟩ | ⟨h, _⟩ | ⟨h, _⟩ | ⟨h, _⟩ | ⟨_, h⟩
    all_goals first | exact h | exact absurd h (by decide +kernel)
  obtain ⟨t, rfl, ht⟩ := key
  refine ⟨a, f.fr, v, _, f.nn, f.ln, f.la, rfl, m.sv.ma.at_, fm.at_, m.sv.sa m.w List.mem_cons_self, m.dv, ⟨i, t, rfl, ht⟩, m.sv.ft m.w fun H' hF => q H' (.inl hF), fun z => ?_⟩
  have hm : H a.m = some (.ins CM a.dx (maF (.ref a.pg) (.ref a.ch) (.int a.k) (.int a.st) (.ref a.fr) (.ref a.tu) a.out)) := m.sv.ma.at_
  have hfr : H a.fr = some (.lst ((r.map fun f => V.ref f.fr.f).reverse ++ [.ref f.fr.f])) := by
    rw [m.sv.ma.fr, m.sv.frs, List.map_cons, List.reverse_cons]
  refine ⟨a.m, a.dx, a.fr, f.fr.f, f.fr.dx, .int z, (r.map fun f => V.ref f.fr.f).reverse, _, _, _, _, _, _, _, f.fr.tg, _, rfl, hm, hfr, fm.at_, ?_⟩
  cases r with
  | nil =>
    refine .inl ⟨rfl, fun t H' b nt e1 e2 ht => q H' (.inl ?_)⟩
    refine m.sv.fin m.w b (fun y hy => ?_) (a := a) (t := t) (z := "result") e2 ht
    simp only [List.mem_cons, List.not_mem_nil, or_false] at hy
    rcases hy with rfl | rfl
    · exact .inl m.sv.ma.m
    · exact .inr m.sv.ma.fr
  | cons g r =>
    have gm := m.sv.fm g (List.mem_cons_of_mem _ List.mem_cons_self)
    obtain ⟨⟨y, hy1, hy2⟩, _⟩ := m.sv.ch
    obtain ⟨kvs, e1, z1, f1⟩ := gm.n
    refine .inr ⟨(r.map fun f => V.ref f.fr.f).reverse, g.fr.f, g.fr.dx, g.fr.s, g.ds, g.dn, _, y, kvs, g.fr.tg, _, by rw [List.map_cons, List.reverse_cons], hy1, gm.at_, gm.s, stF_numbers _ _ _, e1, by omega, ?_⟩
    have hp := m.sv.pop m.w (L := ((g :: r).map fun f => V.ref f.fr.f).reverse) rfl
    rw [← m.sv.ma.fr] at hp
    have dn : g.dn ≠ a.fr := fun e => by
      rw [e, hfr] at e1
      cases e1
    have h2 := hp.num m.w hy2 ((upd_ne dn).trans e1) z
    refine q _ (.inr ⟨a, g, r, ts, h2, m.out, m.sv.lv g List.mem_cons_self, ?_⟩)
    have := m.mm
    rw [npl_cons f] at this
    omega
end
end SW

namespace SW
open PySem PySem.Spec PyProof.Rows L2
/-! ### put, swap, if, call, while -/
theorem args_al {nn ln mv kmv : List PySem.Str} : ∀ (as : List Ar) (ps : List (PySem.Str × Bool)), as.length = ps.length → (∀ (j : Nat) (p : PySem.Str × Bool) (a : Ar), ps[j]? = some p → as[j]? = some a → ArgOk nn ln mv kmv p a) →
    (as.filter fun x => x.nm.isNone).length = (numN ps).length ∧ (as.filterMap Ar.nm).length = (lnm ps).length ∧ (∀ (i : Nat) (y z : PySem.Str), (lnm ps)[i]? = some y → (as.filterMap Ar.nm)[i]? = some z → z ∈ ln ∧ (z ∈ mv → y ∈ kmv)) ∧ ∀ a, a ∈ as → argT nn ln a
  | [], [], _, _ => ⟨rfl, rfl, fun _ _ _ h => (by cases h), fun _ h => (by cases h)⟩
  | [], _ :: _, h, _ => by cases h
  | _ :: _, [], h, _ => by cases h
  | a :: as, (y0, b) :: ps, hl, h => by
    obtain ⟨i1, i2, i3, i4⟩ := args_al as ps (by simpa using hl) fun j p a h1 h2 => h (j + 1) p a h1 h2
    obtain ⟨g1, g2⟩ := h 0 _ _ rfl rfl
    cases b with
    | true =>
      obtain ⟨z, rfl, hz, hm⟩ := g1 rfl
      refine ⟨i1, ?_, fun i y z' h1 h2 => ?_, fun a ha => ?_⟩
      · show ((as.filterMap Ar.nm).length + 1) = (lnm ps).length + 1
        rw [i2]
      · cases i with
        | zero =>
          cases h1
          cases h2
          exact ⟨hz, hm⟩
        | succ i => exact i3 i y z' h1 h2
      · rcases List.mem_cons.mp ha with rfl | ha
        · exact .inl ⟨z, rfl, hz⟩
        · exact i4 a ha
    | false =>
      obtain ⟨t, hd, ds, rfl, e, ht⟩ := g2 rfl
      refine ⟨?_, i2, i3, fun a ha => ?_⟩
      · show ((as.filter fun x => x.nm.isNone).length + 1) = (numN ps).length + 1
        rw [i1]
      · rcases List.mem_cons.mp ha with rfl | ha
        · exact .inr ⟨t, hd, ds, rfl, e, ht⟩
        · exact i4 a ha
theorem fnd_of : ∀ {cs : List Pc} {c : Pc}, c ∈ cs → (cs.map fun c => c.nm).Nodup → fnd cs c.nm = some c
  | d :: cs, c, hc, nd => by
    rw [List.map_cons, List.nodup_cons] at nd
    unfold fnd
    rw [List.find?_cons]
    by_cases h : d.nm = c.nm
    · rw [decide_eq_true h]
      rcases List.mem_cons.mp hc with rfl | hc
      · rfl
      · exact absurd (List.mem_map.mpr ⟨c, hc, h.symm⟩) nd.1
    · rw [decide_eq_false h]
      rcases List.mem_cons.mp hc with rfl | hc
      · exact absurd rfl h
      · exact fnd_of hc nd.2
theorem maF_no_name (v0 v1 v2 v3 v4 v5 v6 : V) : (maF v0 v1 v2 v3 v4 v5 v6).lookup ("name" : PySem.Str) = none := by
  unfold maF
  simp only [lookup_putF]
  rw [if_neg (by decide +kernel), if_neg (by decide +kernel), if_neg (by decide +kernel), if_neg (by decide +kernel), if_neg (by decide +kernel), if_neg (by decide +kernel), if_neg (by decide +kernel)]
  rfl
section
variable {K : PySem.W.Frag} {CP CG CS CU CL CF CM : Addr} {x : Wk} {H H' : Hp} {a a' : Ma} {f f' g : Fm} {r st : List Fm} {ts ts' : List V} {S : List Addr} {n M : Nat} {s : Sf (BD n)} {v : V} {Q : VK} {E : XK}
theorem WkOk.pg_at (w : WkOk K CP CG CM x) (b : Bu x.S0 x.H0 H) : PgAt K CP CG H x.pg x.cs := by
  have tm := Sv.tm w b
  have nm : ∀ {y C dx : Addr} {fs : List (PySem.Str × V)}, x.H0 y = some (.ins C dx fs) → (fs.lookup ("name" : PySem.Str) ≠ none ∨ ∃ u : V, fs = ([("procedures", u)] : List (PySem.Str × V))) → y ∉ x.S0 := fun {y C dx fs} e h hy => by
    unfold Wk.S0 at hy
    simp only [List.mem_cons] at hy
    rcases hy with rfl | rfl | rfl | hy
    · obtain ⟨a, e2, h0⟩ := w.m0
      rw [← e2, show x.H0 a.m = _ from h0] at e
      injection e with e
      injection e with _ _ e
      rcases h with h | h
      · rw [← e] at h
        exact h (maF_no_name _ _ _ _ _ _ _)
      · obtain ⟨u, h⟩ := h
        have := congrArg List.length h
        rw [← e, show a.fs = maF _ _ _ _ _ _ _ from rfl, maF_len] at this
        cases this
    · obtain ⟨a, h0⟩ := w.f0
      rw [h0] at e
      cases e
    · obtain ⟨a, h0⟩ := w.t0
      rw [h0] at e
      cases e
    · obtain ⟨l, h0, _⟩ := w.z0 y hy
      rw [h0] at e
      cases e
  obtain ⟨dx, t, h1, h2⟩ := w.pga.ex
  refine ⟨⟨dx, t, b _ _ (nm h1 (.inr ⟨_, rfl⟩)) h1, tm _ _ h2⟩, fun c hc => ?_⟩
  obtain ⟨dc, v0, v2, v3, v4, v5, v6, v7, v8, g1, g2, g3, g4, g5⟩ := (w.pga.at_ c hc).ex
  refine ⟨dc, v0, v2, v3, v4, v5, v6, v7, v8, b _ _ (nm g1 (.inl ?_)) g1, dp_tups tm _ _ (psE_nl _) g2, dp_tups tm _ _ (strs_noL _) g3, dp_tups tm _ _ (ltE_noL _) g4, dp_tups tm _ _ (noL_blk (w.ok c hc).body) g5⟩
  rw [prF_1]
  exact fun e => by cases e
theorem Sv.same (h : Sv K CS CL CF CM x H a st ts) (w : WkOk K CP CG CM x) (b : Same H H') : Sv K CS CL CF CM x H' a st ts :=
  h.gl (S := []) w (Bu.same b) (fun y hy => by cases hy) ⟨h.ma.m, h.ma.pg, h.ma.ch, h.ma.fr, h.ma.tu, b _ _ h.ma.at_, h.ma.k⟩ (b _ _ h.frs) (b _ _ h.tus) (h.zk (Bu.same (S := []) b) fun z _ h => by cases h) h.sz
theorem act_put (m : Mid K CP CG CS CL CF CM x H a f r ts n s v M) {i : Int} {z : PySem.Str} {ds : List PyData} (hs : s = .lst "put" i z ds) (lv : EnD (n + 1) (show BD (n + 1) from s) ∨ f.Live) (q : ∀ H', Nxt K CS CL CF CM x M H' → Q .non H') : spActL K CS CF CM dPut rPut [.ref a.m, .ref f.fr.f, v] H Q E := by
  subst hs
  have fm := m.sv.fm f List.mem_cons_self
  replace lv : f.Live := lv.resolve_left fun h => h
  obtain ⟨hz, ty⟩ : z ∈ f.ln ∧ _ := m.ty.1
  have key : z ∉ f.c.mv ∧ ∃ (i : Pl) (t : Tm), ds = [i.enc, t.enc] ∧ i.ok f.nn f.ln ∧ t.ok f.nn f.ln := by
    rcases ty with ⟨h, _⟩ | ⟨_, h⟩
    · exact absurd h (by decide +kernel)
    · exact h
  obtain ⟨hnm, pi, t, rfl, hi, ht⟩ := key
  refine ⟨a, f.fr, v, _, f.nn, f.ln, f.la, rfl, m.sv.ma.at_, fm.at_, m.sv.sa m.w List.mem_cons_self, m.dv, ⟨i, z, pi, t, rfl, hz, hi, ht⟩, m.sv.ft m.w fun H' hF => q H' (.inl hF), ?_⟩
  intro d0 d1 d3 d4 z' he cs j u h1 h2
  obtain rfl : z = z' := by
    injection he with he
    injection he with _ he
    injection he with _ he
    injection he with he _
    injection he
  obtain ⟨hz1, hz2⟩ := fm.lz z hz
  refine q _ (m.nx (m.sv.cell m.w hz1 (Bu.upd (.same (.refl _)) (.inl (by simp))) h1 (l' := cs.set j u) (by rw [upd_same, List.map_set]) (by rw [List.length_set]) fun hp => absurd (hz2 hp) hnm) m.out lv rfl (Nat.le_succ _))
theorem act_swap (m : Mid K CP CG CS CL CF CM x H a f r ts n s v M) {i : Int} {z : PySem.Str} {ds : List PyData} (hs : s = .lst "swap" i z ds) (lv : EnD (n + 1) (show BD (n + 1) from s) ∨ f.Live) (q : ∀ H', Nxt K CS CL CF CM x M H' → Q .non H') : spActL K CS CF CM dSwap rSwap [.ref a.m, .ref f.fr.f, v] H Q E := by
  subst hs
  have fm := m.sv.fm f List.mem_cons_self
  replace lv : f.Live := lv.resolve_left fun h => h
  obtain ⟨hz, ty⟩ : z ∈ f.ln ∧ _ := m.ty.1
  have key : ∃ i j : Pl, ds = [i.enc, j.enc] ∧ i.ok f.nn f.ln ∧ j.ok f.nn f.ln := by
    rcases ty with ⟨_, h⟩ | ⟨h, _⟩
    · exact h
    · exact absurd h (by decide +kernel)
  obtain ⟨pi, pj, rfl, hi, hj⟩ := key
  refine ⟨a, f.fr, v, _, f.nn, f.ln, f.la, rfl, m.sv.ma.at_, fm.at_, m.sv.sa m.w List.mem_cons_self, m.dv, ⟨i, z, pi, pj, rfl, hz, hi, hj⟩, m.sv.ft m.w fun H' hF => q H' (.inl hF), ?_⟩
  intro d0 d1 d3 d4 z' he cs j k hj hk H' h1 b1 h2
  obtain rfl : z = z' := by
    injection he with he
    injection he with _ he
    injection he with _ he
    injection he with he _
    injection he
  obtain ⟨hz1, hz2⟩ := fm.lz z hz
  exact q _ (m.nx (m.sv.cell m.w hz1 b1 h1 h2 (by rw [List.length_set, List.length_set]) fun _ => List.set_set_perm hj hk) m.out lv rfl (Nat.le_succ _))
theorem act_if (m : Mid K CP CG CS CL CF CM x H a f r ts n s v M) {i : Int} {d : PyData} {b1 b2 : List (BD n)} (hs : s = .iff i d b1 b2) (lv : EnD (n + 1) (show BD (n + 1) from s) ∨ f.Live) (q : ∀ H', Nxt K CS CL CF CM x M H' → Q .non H') : spAct K CS CF CM dIf (rIf K CF CL) [.ref a.m, .ref f.fr.f, v] H Q E := by
  subst hs
  have fm := m.sv.fm f List.mem_cons_self
  obtain ⟨co, rfl, hc⟩ : ∃ co : CoD 4, d = encC 4 co ∧ okC f.nn f.ln 4 co := m.ty.1
  refine ⟨a, f.fr, v, _, f.nn, f.ln, f.la, rfl, m.sv.ma.at_, fm.at_, m.sv.sa m.w List.mem_cons_self, m.dv, ⟨i, co, _, _, rfl, hc⟩, m.sv.ft m.w fun H' hF => q H' (.inl hF), ?_⟩
  have fin : ∀ (bk : List (BD n)) (c : V), bk ∈ Sf.subs (B := BD n) (Sf.iff i (encC 4 co) b1 b2) → (∀ s, s ∈ bk → okD n s) → (EnD (n + 1) (show BD (n + 1) from (Sf.iff i (encC 4 co) b1 b2 : Sf (BD n))) → EnB n bk) → Dp K H c (blkE n bk) → spEnter CF CL [.ref f.fr.f, c] H Q E0 := fun bk c hb hok hen dc => by
    have hsz := m.sz
    rw [npl_cons] at hsz
    refine ⟨f.fr.f, f.fr.dx, f.fr.pl, _, _, c, _, rfl, fm.at_, fm.pl, by rw [List.length_map]; omega, fun y dd H' bu ny e1 e2 => ?_⟩
    have s2 := m.sv.push m.w bu ny e1 e2 dc hok (fun s hs => m.ty.2 bk hb s hs) (by have := m.sz; omega)
    refine q _ (m.nx s2 m.out ?_ rfl (by show (f.ps ++ [_]).length ≤ _; rw [List.length_append]; exact Nat.le_refl _))
    rcases lv with lv | ⟨p, hp, h1, h2⟩
    · obtain ⟨l, t, e, ht⟩ := hen lv
      exact ⟨_, List.mem_append_right _ (List.mem_singleton.mpr rfl), by show 0 < bk.length; rw [e, List.length_append]; exact Nat.succ_pos _, l, t, e, ht⟩
    · exact ⟨p, List.mem_append_left _ hp, h1, h2⟩
  intro d0 d1 d2 d3 d4 he c hd
  have ok : noL (encC 4 co) = true ∧ (∀ s, s ∈ b1 → okD n s) ∧ ∀ s, s ∈ b2 → okD n s := m.ok
  injection he with he
  injection he with _ he
  injection he with _ he
  injection he with _ he
  injection he with h3 he
  injection he with h4 _
  rcases hd with hd | hd
  · rw [← h3] at hd
    exact fin b1 c List.mem_cons_self ok.2.1 (fun h => h.1) hd
  · rw [← h4] at hd
    exact fin b2 c (List.mem_cons_of_mem _ List.mem_cons_self) ok.2.2 (fun h => h.2) hd
theorem act_call (m : Mid K CP CG CS CL CF CM x H a f r ts n s v M) {i : Int} {y z : PySem.Str} {as : List Ar} (hs : s = .cal i y z as) (lv : EnD (n + 1) (show BD (n + 1) from s) ∨ f.Live) (q : ∀ H', Nxt K CS CL CF CM x M H' → Q .non H') : spCallA K CP CG CS CL CF CM [.ref a.m, .ref f.fr.f, v] H Q E := by
  subst hs
  have fm := m.sv.fm f List.mem_cons_self
  replace lv : f.Live := lv.resolve_left fun h => h
  obtain ⟨hy, _, k, hk, rfl, hal, harg⟩ : y ∈ f.nn ∧ (as.filterMap Ar.nm).Nodup ∧ ∃ k, k ∈ x.kn ∧ k.nm = z ∧ as.length = k.ps.length ∧ ∀ (j : Nat) (p : PySem.Str × Bool) (a : Ar), k.ps[j]? = some p → as[j]? = some a → ArgOk f.nn f.ln f.c.mv k.mv p a := m.ty.1
  obtain ⟨c, hc, rfl⟩ := List.mem_map.mp hk
  obtain ⟨a1, a2, a3, a4⟩ := args_al as c.ps hal harg
  obtain ⟨pn1, pn2⟩ := m.w.pn c hc
  have hpg := m.w.pg_at m.sv.bu
  obtain ⟨⟨c5, c6, t1, t2, r1, r2, hlt, ht1, ht2, hty⟩, hen⟩ := m.w.ty c hc
  have n0 := m.w.n0
  simp only [List.nodup_cons, List.mem_cons, not_or] at n0
  obtain ⟨⟨n1, n2, n3⟩, ⟨n4, n5⟩, n6, n7⟩ := n0
  have hal2 : as.length ≤ 20 := by
    have : as.length = c.ps.length := hal
    omega
  refine ⟨a, f.fr, v, i, y, c.nm, as, x.cs, c, f.nn, f.ln, f.la, rfl, m.sv.ma.at_, fm.at_, m.sv.sa m.w List.mem_cons_self, m.dv, a4, hal2, by rw [m.sv.ma.pg]; exact hpg, fnd_of hc m.w.nd, fun N L zs H1 s1 eN hzl eL => ?_⟩
  have sv1 := m.sv.same m.w s1
  have hsz := m.sz
  rw [List.length_cons, npl_cons] at hsz
  have hrs : ∀ (i : Nat) (y : PySem.Str) (r : Addr), (lnm c.ps)[i]? = some y → ((as.filterMap Ar.nm).map f.la)[i]? = some r → r ∈ x.Z ∧ (r ∈ x.pr → y ∈ c.mv) := fun i y r h1 h2 => by
    rw [List.getElem?_map] at h2
    obtain ⟨z, hz, rfl⟩ := Option.map_eq_some_iff.mp h2
    obtain ⟨g1, g2⟩ := a3 i y z h1 hz
    obtain ⟨g3, g4⟩ := fm.lz z g1
    exact ⟨g3, fun h => g2 (g4 h)⟩
  have hrl : ((as.filterMap Ar.nm).map f.la).length = (lnm c.ps).length := by rw [List.length_map, a2]
  refine ⟨a, c, N, L, zs, (as.filterMap Ar.nm).map f.la, .str y, _, c5, c6, t1, t2, r1, r2, rfl, sv1.ma.at_, by rw [m.sv.ma.fr]; exact sv1.frs, by rw [List.length_reverse, List.length_map, List.length_cons]; omega, (hpg.at_ c hc).same s1, pn2, pn1, hlt, ht1, ht2, eN, by rw [hzl, a1], eL, hrl, fun ra hra => ?_, ?_, ?_⟩
  · obtain ⟨j, hj, e⟩ := List.mem_iff_getElem.mp hra
    have hj2 : j < (lnm c.ps).length := by omega
    obtain ⟨g1, _⟩ := hrs j _ ra (List.getElem?_eq_getElem hj2) (by rw [List.getElem?_eq_getElem hj, e])
    refine ⟨fun e => n3 (by rw [← m.sv.ma.fr, ← e]; exact g1), ?_⟩
    obtain ⟨l0, l, e1, e2, e3, _⟩ := sv1.z ra g1
    obtain ⟨l1, e4, e5⟩ := m.w.z0 ra g1
    rw [e1] at e4
    injection e4 with e4
    injection e4 with e4
    refine ⟨l, e2, ?_⟩
    have := congrArg List.length e4
    rw [List.length_map, List.length_map] at this
    omega
  · intro fx df s ds dn dl old pl q' dq v8 H' bu efr bg
    rw [m.sv.ma.fr] at bu efr
    have sv2 := sv1.beg m.w bu hc bg efr hty hrl hrs (fun g hg => by
      rcases List.mem_cons.mp hg with rfl | hg
      · exact lv
      · exact m.sv.lv g hg) ⟨⟨y, rfl, hy⟩, m.sv.ch⟩ (by rw [List.length_cons, npl_cons]; omega)
    refine q _ (.inr ⟨a, _, _, ts, sv2, m.out, newFm_live hen, ?_⟩)
    have := m.mm
    rw [npl_cons]
    show 1 + _ + _ < M
    omega
  · intro t r' z' H' bu hm ht
    refine q _ (.inl (sv1.fin m.w bu (fun u hu => ?_) hm ht))
    simp only [List.mem_cons, List.not_mem_nil, or_false] at hu
    rcases hu with rfl | rfl
    · exact .inl m.sv.ma.m
    · exact .inr m.sv.ma.fr
end
end SW

namespace SW
open PySem PySem.Spec PyProof.Rows L2
/-! ### while -/
section
variable {K : PySem.W.Frag} {CP CG CS CU CL CF CM : Addr} {x : Wk} {H H' : Hp} {a a' : Ma} {f f' g : Fm} {r st : List Fm} {ts ts' : List V} {S : List Addr} {n M : Nat} {s : Sf (BD n)} {v : V} {Q : VK} {E : XK}
theorem act_while (m : Mid K CP CG CS CL CF CM x H a f r ts n s v M) {i : Int} {d fl : PyData} {ks : List PyData} {bd : List (BD n)} (hs : s = .whl i d ks fl bd) {ps : List Plr} {pq dx : Addr} {blk lp0 : V} {b : List (BD (n + 1))} {ix : Nat} (hps : f.ps = ps ++ [⟨pq, dx, blk, n + 1, b, ix, lp0⟩]) (hbi : b[ix]? = some (show BD (n + 1) from s)) (lv : f.Live) (q : ∀ H', Nxt K CS CL CF CM x M H' → Q .non H') : spAct K CS CF CM dWhile (rWhile K CF CL CM) [.ref a.m, .ref f.fr.f, v] H Q E := by
  subst hs
  have fm := m.sv.fm f List.mem_cons_self
  have pin : (⟨pq, dx, blk, n + 1, b, ix, lp0⟩ : Plr) ∈ f.ps := by rw [hps]; simp
  have pa := fm.ps _ pin
  have po := fm.po _ pin
  obtain ⟨⟨co, rfl, hc⟩, p1, p2, rfl, hp1, hp2⟩ : (∃ co : CoD 4, d = encC 4 co ∧ okC f.nn f.ln 4 co) ∧ ∃ p q : Pl, fl = .tuple [p.enc, q.enc] ∧ p.ok f.nn f.ln ∧ q.ok f.nn f.ln := m.ty.1
  obtain ⟨_, _, _, hob⟩ : noL (encC 4 co) = true ∧ noLs ks = true ∧ noL (.tuple [p1.enc, p2.enc]) = true ∧ ∀ s, s ∈ bd → okD n s := m.ok
  have hsz := m.sz
  rw [List.length_cons, npl_cons] at hsz
  have hq0 : H pq = some (.ins CL dx (plF blk (.int ix) lp0)) := pa.q
  have hix : ix < b.length := (List.getElem?_eq_some_iff.mp hbi).1
  have tuS : x.tu ∈ x.S0 := by simp [Wk.S0]
  have frS : x.fr ∈ x.S0 := by simp [Wk.S0]
  have mS : x.m ∈ x.S0 := by simp [Wk.S0]
  have qo : pq ∈ f.own := List.mem_append_right [f.fr.f, f.fr.s, f.fr.pl, f.dn, f.dl] (pl_own pin List.mem_cons_self)
  have nq : ∀ {u : Addr}, u ∈ x.S0 → u ≠ pq := fun {u} hu e => m.sv.apart m.w List.mem_cons_self qo (by rw [← e]; exact hu)
  refine ⟨a, f.fr, v, _, f.nn, f.ln, f.la, rfl, m.sv.ma.at_, fm.at_, m.sv.sa m.w List.mem_cons_self, m.dv, ⟨i, co, _, _, p1, p2, rfl, noL_blk hob, hc, hp1, hp2⟩, m.sv.ft m.w fun H' hF => q H' (.inl hF), ?_⟩
  refine ⟨⟨pq, dx, blk, ix, lp0⟩, ps.map fun p => V.ref p.q, ts, ?_, hq0, by rw [m.sv.ma.tu]; exact m.sv.tus, by omega, pa.lp, ?_⟩
  · rw [fm.pl, hps, List.map_append]
    rfl
  intro H1 lp u y k L
  have L1 : H1 pq = some (.ins CL dx (plF blk (.int ix) (.ref lp))) := L.at_
  have lq : pq ≠ lp := fun e => by
    have := L.ls
    rw [← e, L1] at this
    cases this
  have tm1 : TM8 K H H1 := m.sv.tmS L.bu fun w hw => .inl ⟨f, List.mem_cons_self, by rw [List.mem_singleton.mp hw]; exact qo⟩
  have sv1 : Sv K CS CL CF CM x H1 a ({ f with ps := ps ++ [⟨pq, dx, blk, n + 1, b, ix, .ref lp⟩] } :: r) ts := by
    refine m.sv.plset m.w hps (p' := ⟨pq, dx, blk, n + 1, b, ix, .ref lp⟩) rfl L.bu (fun w hw => by rw [List.mem_singleton.mp hw]; exact List.mem_cons_self) ⟨L1, dp_tups tm1 _ _ (noL_blk pa.ok) pa.d, pa.ok, .inr ⟨lp, u, y, k, rfl, L.ls⟩⟩ ⟨po.ty, po.le⟩ (fun w hw => ?_) ?_
    · have hw : w ∈ [pq, lp] := hw
      simp only [List.mem_cons, List.not_mem_nil, or_false] at hw
      rcases hw with rfl | rfl
      · exact .inl List.mem_cons_self
      · rcases L.was with h1 | h1
        · exact .inr h1
        · have h1 : lp0 = .ref w := h1
          refine .inl ?_
          show w ∈ pq :: lpo lp0
          rw [h1]
          exact List.mem_cons_of_mem _ List.mem_cons_self
    · show [pq, lp].Nodup
      simp [lq]
  have lv1 : ∀ p' : Plr, p' = ⟨pq, dx, blk, n + 1, b, ix, .ref lp⟩ → ({ f with ps := ps ++ [p'] } : Fm).Live := fun p' e => by
    subst e
    obtain ⟨p0, h0, h1, h2⟩ := lv
    rw [hps] at h0
    rcases List.mem_append.mp h0 with h0 | h0
    · exact ⟨p0, List.mem_append_left _ h0, h1, h2⟩
    · rw [List.mem_singleton.mp h0] at h1 h2
      exact ⟨_, List.mem_append_right _ (List.mem_singleton.mpr rfl), h1, h2⟩
  have hpl : (ps ++ [(⟨pq, dx, blk, n + 1, b, ix, .ref lp⟩ : Plr)]).length = f.ps.length := by
    rw [hps, List.length_append, List.length_append]
    rfl
  refine ⟨sv1.ft m.w fun H' hF => q H' (.inl hF), fun d0 d1 d2 d3 d4 d5 c he dc => ?_, fun t H2 b2 p2' t2 => ?_⟩
  · obtain rfl : d5 = blkE n bd := by
      injection he with he
      injection he with _ he
      injection he with _ he
      injection he with _ he
      injection he with _ he
      injection he with _ he
      injection he with he _
      exact he.symm
    have b3 : Bu [lp] H1 (upd H1 lp (.lst [u, y, .int (k + 1)])) := Bu.upd (.same (.refl _)) (.inl (by simp))
    have lin : ∀ w, w ∈ [lp] → w ∈ (⟨pq, dx, blk, n + 1, b, ix, .ref lp⟩ : Plr).own := fun w hw => by
      rw [List.mem_singleton.mp hw]
      exact List.mem_cons_of_mem _ List.mem_cons_self
    have pin1 : (⟨pq, dx, blk, n + 1, b, ix, .ref lp⟩ : Plr) ∈ ps ++ [(⟨pq, dx, blk, n + 1, b, ix, .ref lp⟩ : Plr)] := by simp
    have tm3 := sv1.tmS b3 fun w hw => .inl ⟨_, List.mem_cons_self, List.mem_append_right [f.fr.f, f.fr.s, f.fr.pl, f.dn, f.dl] (pl_own (f := { f with ps := ps ++ [⟨pq, dx, blk, n + 1, b, ix, .ref lp⟩] }) pin1 (lin w hw))⟩
    have pa1 := (sv1.fm _ List.mem_cons_self).ps _ pin1
    have sv2 := sv1.plset m.w (f := { f with ps := ps ++ [⟨pq, dx, blk, n + 1, b, ix, .ref lp⟩] }) rfl (p' := ⟨pq, dx, blk, n + 1, b, ix, .ref lp⟩) rfl b3 lin ⟨(upd_ne lq).trans L1, dp_tups tm3 _ _ (noL_blk pa1.ok) pa1.d, pa1.ok, .inr ⟨lp, u, y, k + 1, rfl, upd_same⟩⟩ ⟨po.ty, po.le⟩ (fun w hw => .inl hw) (by show [pq, lp].Nodup; simp [lq])
    have fm2 := sv2.fm _ List.mem_cons_self
    refine ⟨f.fr.f, f.fr.dx, f.fr.pl, _, _, c, _, rfl, fm2.at_, fm2.pl, by rw [List.length_map]; show (ps ++ [_]).length ≤ _; omega, fun w dd H' bu ny e1 e2 => ?_⟩
    have hs3 := sv2.sz
    have s3 := sv2.push m.w bu ny e1 e2 (dp_tups tm3 _ _ (noL_blk hob) dc) hob (fun s hs => m.ty.2 bd List.mem_cons_self s hs) (by rw [List.length_cons, npl_cons]; show r.length + 1 + ts.length + ((ps ++ [_]).length + npl r) + 1 + 2 * a.st.toNat ≤ 1000; omega)
    refine q _ (m.nx s3 m.out ?_ rfl ?_)
    · obtain ⟨p0, h0, h1, h2⟩ := lv1 _ rfl
      exact ⟨p0, List.mem_append_left _ h0, h1, h2⟩
    · show ((ps ++ [_]) ++ [_]).length ≤ _
      rw [List.length_append, hpl]
      exact Nat.le_refl _
  · rw [m.sv.ma.tu] at b2 t2
    have n0 := m.w.n0
    simp only [List.nodup_cons, List.mem_cons, not_or] at n0
    obtain ⟨⟨n1, n2, n3⟩, ⟨n4, n5⟩, n6, n7⟩ := n0
    have hm : H a.m = _ := m.sv.ma.at_
    have am := m.sv.ma.m
    have mt : x.m ≠ x.tu := fun e => by
      rw [am, e, m.sv.tus] at hm
      cases hm
    have q2 : H2 pq = some (.ins CL dx (plF blk (.int ((ix + 1 : Nat) : Int)) .non)) := p2'
    have tm2 : TM8 K H H2 := m.sv.tmS b2 fun w hw => by
      simp only [List.mem_cons, List.not_mem_nil, or_false] at hw
      rcases hw with rfl | rfl
      · exact .inl ⟨f, List.mem_cons_self, qo⟩
      · exact .inr tuS
    have no : ∀ {w : Addr}, w ∈ x.S0 → w ≠ x.tu → w ∉ [pq, x.tu] := fun {w} h1 h2 => by simp [nq h1, h2]
    have sv2 : Sv K CS CL CF CM x H2 a ({ f with ps := ps ++ [⟨pq, dx, blk, n + 1, b, ix + 1, .non⟩] } :: r) (ts ++ [.ref t]) := by
      refine m.sv.plmv m.w hps (p' := ⟨pq, dx, blk, n + 1, b, ix + 1, .non⟩) rfl b2 (fun w hw => ?_) ⟨m.sv.ma.m, m.sv.ma.pg, m.sv.ma.ch, m.sv.ma.fr, m.sv.ma.tu, b2 _ _ (by rw [am]; exact no mS mt) m.sv.ma.at_, m.sv.ma.k⟩ (b2 _ _ (no frS n1) m.sv.frs) t2 (m.sv.zk b2 fun z hz => no (by simp [Wk.S0, hz]) fun e => n5 (by rw [← e]; exact hz)) ⟨q2, dp_tups tm2 _ _ (noL_blk pa.ok) pa.d, pa.ok, .inl rfl⟩ ⟨po.ty, hix⟩ (fun w hw => ?_) ?_ ?_
      · simp only [List.mem_cons, List.not_mem_nil, or_false] at hw
        rcases hw with rfl | rfl
        · exact .inl List.mem_cons_self
        · exact .inr tuS
      · have hw : w ∈ [pq] := hw
        rw [List.mem_singleton.mp hw]
        exact .inl List.mem_cons_self
      · show [pq].Nodup
        simp
      · rw [List.length_cons, npl_cons, List.length_append]
        show r.length + 1 + (ts.length + 1) + (f.ps.length + npl r) + _ ≤ _
        omega
    refine q _ (m.nx sv2 m.out ?_ rfl ?_)
    · obtain ⟨p0, h0, h1, h2⟩ := lv
      rw [hps] at h0
      rcases List.mem_append.mp h0 with h0 | h0
      · exact ⟨p0, List.mem_append_left _ h0, h1, h2⟩
      · rw [List.mem_singleton.mp h0] at h1 h2
        exact ⟨_, List.mem_append_right _ (List.mem_singleton.mpr rfl), EnB.not_last h2 hbi (fun h => h), h2⟩
    · show (ps ++ [_]).length ≤ _
      rw [hps, List.length_append, List.length_append]
      exact Nat.le_succ _
end
end SW

namespace SW
open PySem PySem.Spec PyProof.Rows L2
abbrev s_Machine_step : Stmt := inClass (topS 14) 6
theorem sc_Machine_step : FnScope ["self", "frame", "place", "statement", "action"] ["self"] (defScope s_Machine_step) := ⟨rfl, rfl, rfl, by decide +kernel, rfl, by decide +kernel, by decide +kernel⟩

abbrev s_Machine_go : Stmt := inClass (topS 14) 5
theorem sc_Machine_go : FnScope ["self"] ["self"] (defScope s_Machine_go) := ⟨rfl, rfl, rfl, by decide +kernel, rfl, by decide +kernel, by decide +kernel⟩

/-! ### one step -/
structure TxA (K : PySem.W.Frag) (mg : PySem.Str → Option Value) (CP CG p g CS CU CL CF CM pq gq aA : Addr) : Prop extends TxN K mg CP CG p g CS CU CL CF CM pq gq where
  m_ACTIONS : mg "ACTIONS" = some (.ref aA)
structure AcS (K : PySem.W.Frag) (w : World) (aA f1 f2 f3 f4 f5 f6 f7 f8 f9 f10 : Addr) : Prop where
  k1 : KDct K w aA "set" (.ref f1)
  k2 : KDct K w aA "put" (.ref f2)
  k3 : KDct K w aA "swap" (.ref f3)
  k4 : KDct K w aA "choose" (.ref f4)
  k5 : KDct K w aA "call" (.ref f5)
  k6 : KDct K w aA "check" (.ref f6)
  k7 : KDct K w aA "return" (.ref f7)
  k8 : KDct K w aA "skip" (.ref f8)
  k9 : KDct K w aA "if" (.ref f9)
  k10 : KDct K w aA "while" (.ref f10)
structure Acm (P : Program) (w : World) (K : PySem.W.Frag) (mg : PySem.Str → Option Value) (base : Heap) (aA : Addr) (wd : PySem.Str) where
  f : Addr
  fd : FuncData
  sp : Sp
  F : FnOk P w K mg base CX0 20 f fd ["machine", "frame", "statement"] sp
  kk : PySem.W.keepIn K (.ref f) = true
  bb : Binds K fd ["machine", "frame", "statement"] []
  at_ : KDct K w aA wd (.ref f)
def Ask (K : PySem.W.Frag) (CP CG CS CL CF CM : Addr) (x : Wk) {n : Nat} (s : Sf (BD n)) (sp : Sp) : Prop := ∀ (H : Hp) (a : Ma) (f : Fm) (r : List Fm) (ts : List V) (v : V) (M : Nat) (Q : VK) (E : XK), Mid K CP CG CS CL CF CM x H a f r ts n s v M →
  ((s.kind ≠ "while" ∧ (EnD (n + 1) (show BD (n + 1) from s) ∨ f.Live)) ∨ (s.kind = "while" ∧ f.Live ∧ ∃ (ps : List Plr) (pq dx : Addr) (blk lp0 : V) (b : List (BD (n + 1))) (ix : Nat), f.ps = ps ++ [⟨pq, dx, blk, n + 1, b, ix, lp0⟩] ∧ b[ix]? = some (show BD (n + 1) from s))) → (∀ H', Nxt K CS CL CF CM x M H' → Q .non H') → sp [.ref a.m, .ref f.fr.f, v] H Q E
section
variable {P : Program} {w : World} {K : PySem.W.Frag} {mg : PySem.Str → Option Value} {base : Heap} {CP CG pp gg CS CU CL CF CM pq gq aA : Addr}
theorem acm {x : Wk} {n : Nat} {s : Sf (BD n)} {nn ln mv : List PySem.Str} {kn : List Kn} (ty : TyS nn ln mv kn s) (D_set : Df K mg "_set" s_set ["machine", "frame", "statement"]) (D_put : Df K mg "_put" s_put ["machine", "frame", "statement"]) (D_swap : Df K mg "_swap" s_swap ["machine", "frame", "statement"]) (D_choose : Df K mg "_choose" s_choose ["machine", "frame", "statement"]) (D_call : Df K mg "_call" s_call ["machine", "frame", "statement"]) (D_check : Df K mg "_check" s_check ["machine", "frame", "statement"]) (D_return : Df K mg "_return" s_return ["machine", "frame", "statement"]) (D_skip : Df K mg "_skip" s_skip ["machine", "frame", "statement"]) (D_if : Df K mg "_if" s_if ["machine", "frame", "statement"]) (D_while : Df K mg "_while" s_while ["machine", "frame", "statement"]) (A : AcS K w aA D_set.f D_put.f D_swap.f D_choose.f D_call.f D_check.f D_return.f D_skip.f D_if.f D_while.f)
    (G_set : FnOk P w K mg base CX0 4 D_set.f D_set.fd ["machine", "frame", "statement"] (spAct K CS CF CM dSet (rSet CS))) (G_put : FnOk P w K mg base CX0 4 D_put.f D_put.fd ["machine", "frame", "statement"] (spActL K CS CF CM dPut rPut)) (G_swap : FnOk P w K mg base CX0 4 D_swap.f D_swap.fd ["machine", "frame", "statement"] (spActL K CS CF CM dSwap rSwap)) (G_choose : FnOk P w K mg base CX0 4 D_choose.f D_choose.fd ["machine", "frame", "statement"] (spAct K CS CF CM dChoose (rChoose CS CM))) (G_call : FnOk P w K mg base CX0 8 D_call.f D_call.fd ["machine", "frame", "statement"] (spCallA K CP CG CS CL CF CM)) (G_check : FnOk P w K mg base CX0 11 D_check.f D_check.fd ["machine", "frame", "statement"] (spAct K CS CF CM dCheck fun _ _ _ _ _ H Q => Q .non H))
    (G_return : FnOk P w K mg base CX0 4 D_return.f D_return.fd ["machine", "frame", "statement"] (spAct K CS CF CM dRet fun a _ _ _ _ H Q => ∀ z : Int, spFinish K CS CF CM [.ref a.m, .int z] H Q E0)) (G_skip : FnOk P w K mg base CX0 1 D_skip.f D_skip.fd ["machine", "frame", "statement"] (fun vs H Q _ => ∃ a b c, vs = [a, b, c] ∧ Q .non H)) (G_if : FnOk P w K mg base CX0 11 D_if.f D_if.fd ["machine", "frame", "statement"] (spAct K CS CF CM dIf (rIf K CF CL))) (G_while : FnOk P w K mg base CX0 11 D_while.f D_while.fd ["machine", "frame", "statement"] (spAct K CS CF CM dWhile (rWhile K CF CL CM))) :
    ∃ A : Acm P w K mg base aA s.kind, Ask K CP CG CS CL CF CM x s A.sp := by
  cases s with
  | lst k i z ds =>
    obtain ⟨_, ⟨rfl, _⟩ | ⟨rfl, _⟩⟩ := ty
    · refine ⟨⟨_, _, _, G_swap.mono (by decide), D_swap.F.kp, D_swap.b, A.k3⟩, fun H a f r ts v M Q E m hc q => act_swap (E := E) m rfl ?_ q⟩
      rcases hc with ⟨_, h⟩ | ⟨h, _⟩
      · exact h
      · exact absurd (show ("swap" : PySem.Str) = "while" from h) (by decide +kernel)
    · refine ⟨⟨_, _, _, G_put.mono (by decide), D_put.F.kp, D_put.b, A.k2⟩, fun H a f r ts v M Q E m hc q => act_put (E := E) m rfl ?_ q⟩
      rcases hc with ⟨_, h⟩ | ⟨h, _⟩
      · exact h
      · exact absurd (show ("put" : PySem.Str) = "while" from h) (by decide +kernel)
  | cal i y z as =>
    refine ⟨⟨_, _, _, G_call.mono (by decide), D_call.F.kp, D_call.b, A.k5⟩, fun H a f r ts v M Q E m hc q => act_call (E := E) m rfl ?_ q⟩
    rcases hc with ⟨_, h⟩ | ⟨h, _⟩
    · exact h
    · exact absurd (show ("call" : PySem.Str) = "while" from h) (by decide +kernel)
  | oth k i ds =>
    rcases ty with ⟨rfl, _⟩ | ⟨rfl, _⟩ | ⟨rfl, _⟩ | ⟨rfl, _⟩ | ⟨rfl, _⟩
    · refine ⟨⟨_, _, _, G_set.mono (by decide), D_set.F.kp, D_set.b, A.k1⟩, fun H a f r ts v M Q E m hc q => act_set (E := E) m rfl ?_ q⟩
      rcases hc with ⟨_, h⟩ | ⟨h, _⟩
      · exact h
      · exact absurd (show ("set" : PySem.Str) = "while" from h) (by decide +kernel)
    · refine ⟨⟨_, _, _, G_choose.mono (by decide), D_choose.F.kp, D_choose.b, A.k4⟩, fun H a f r ts v M Q E m hc q => act_choose (E := E) m rfl ?_ q⟩
      rcases hc with ⟨_, h⟩ | ⟨h, _⟩
      · exact h
      · exact absurd (show ("choose" : PySem.Str) = "while" from h) (by decide +kernel)
    · refine ⟨⟨_, _, _, G_check.mono (by decide), D_check.F.kp, D_check.b, A.k6⟩, fun H a f r ts v M Q E m hc q => act_check (E := E) m rfl ?_ q⟩
      rcases hc with ⟨_, h⟩ | ⟨h, _⟩
      · exact h
      · exact absurd (show ("check" : PySem.Str) = "while" from h) (by decide +kernel)
    · refine ⟨⟨_, _, _, G_skip.mono (by decide), D_skip.F.kp, D_skip.b, A.k8⟩, fun H a f r ts v M Q E m hc q => ⟨_, _, _, rfl, act_skip m rfl ?_ q⟩⟩
      rcases hc with ⟨_, h⟩ | ⟨h, _⟩
      · exact h
      · exact absurd (show ("skip" : PySem.Str) = "while" from h) (by decide +kernel)
    · exact ⟨⟨_, _, _, G_return.mono (by decide), D_return.F.kp, D_return.b, A.k7⟩, fun H a f r ts v M Q E m hc q => act_return (E := E) m rfl q⟩
  | iff i d b1 b2 =>
    refine ⟨⟨_, _, _, G_if.mono (by decide), D_if.F.kp, D_if.b, A.k9⟩, fun H a f r ts v M Q E m hc q => act_if (E := E) m rfl ?_ q⟩
    rcases hc with ⟨_, h⟩ | ⟨h, _⟩
    · exact h
    · exact absurd (show ("if" : PySem.Str) = "while" from h) (by decide +kernel)
  | whl i d ks fl bd =>
    refine ⟨⟨_, _, _, G_while.mono (by decide), D_while.F.kp, D_while.b, A.k10⟩, fun H a f r ts v M Q E m hc q => ?_⟩
    rcases hc with ⟨h, _⟩ | ⟨_, lv, ps, pq, dx, blk, lp0, b, ix, h1, h2⟩
    · exact absurd rfl h
    · exact act_while (E := E) m rfl h1 h2 lv q
/-- where a step may begin -/
structure Stp (K : PySem.W.Frag) (CP CG CS CL CF CM : Addr) (x : Wk) (H : Hp) (a : Ma) (f : Fm) (r : List Fm) (ts : List V) : Prop where
  w : WkOk K CP CG CM x
  sv : Sv K CS CL CF CM x H a (f :: r) ts
  out : a.out = .non
  lv : f.Live
def spStep (K : PySem.W.Frag) (CP CG CS CL CF CM : Addr) : Sp := fun vs H Q _ => ∃ (x : Wk) (a : Ma) (f : Fm) (r : List Fm) (ts : List V), vs = [.ref a.m] ∧ Stp K CP CG CS CL CF CM x H a f r ts ∧ ∀ H', Nxt K CS CL CF CM x (npl (f :: r) + 2 * a.st.toNat) H' → Q .non H'
theorem ok_step {f0 : Addr} {fd0 : FuncData} (F : Fun K "step" "Machine.step" s_Machine_step f0 fd0) (T : TxA K mg CP CG pp gg CS CU CL CF CM pq gq aA) (D_set : Df K mg "_set" s_set ["machine", "frame", "statement"]) (D_put : Df K mg "_put" s_put ["machine", "frame", "statement"]) (D_swap : Df K mg "_swap" s_swap ["machine", "frame", "statement"]) (D_choose : Df K mg "_choose" s_choose ["machine", "frame", "statement"]) (D_call : Df K mg "_call" s_call ["machine", "frame", "statement"]) (D_check : Df K mg "_check" s_check ["machine", "frame", "statement"]) (D_return : Df K mg "_return" s_return ["machine", "frame", "statement"]) (D_skip : Df K mg "_skip" s_skip ["machine", "frame", "statement"]) (D_if : Df K mg "_if" s_if ["machine", "frame", "statement"]) (D_while : Df K mg "_while" s_while ["machine", "frame", "statement"]) (A : AcS K w aA D_set.f D_put.f D_swap.f D_choose.f D_call.f D_check.f D_return.f D_skip.f D_if.f D_while.f)
    (G_set : FnOk P w K mg base CX0 4 D_set.f D_set.fd ["machine", "frame", "statement"] (spAct K CS CF CM dSet (rSet CS))) (G_put : FnOk P w K mg base CX0 4 D_put.f D_put.fd ["machine", "frame", "statement"] (spActL K CS CF CM dPut rPut)) (G_swap : FnOk P w K mg base CX0 4 D_swap.f D_swap.fd ["machine", "frame", "statement"] (spActL K CS CF CM dSwap rSwap)) (G_choose : FnOk P w K mg base CX0 4 D_choose.f D_choose.fd ["machine", "frame", "statement"] (spAct K CS CF CM dChoose (rChoose CS CM))) (G_call : FnOk P w K mg base CX0 8 D_call.f D_call.fd ["machine", "frame", "statement"] (spCallA K CP CG CS CL CF CM)) (G_check : FnOk P w K mg base CX0 11 D_check.f D_check.fd ["machine", "frame", "statement"] (spAct K CS CF CM dCheck fun _ _ _ _ _ H Q => Q .non H))
    (G_return : FnOk P w K mg base CX0 4 D_return.f D_return.fd ["machine", "frame", "statement"] (spAct K CS CF CM dRet fun a _ _ _ _ H Q => ∀ z : Int, spFinish K CS CF CM [.ref a.m, .int z] H Q E0)) (G_skip : FnOk P w K mg base CX0 1 D_skip.f D_skip.fd ["machine", "frame", "statement"] (fun vs H Q _ => ∃ a b c, vs = [a, b, c] ∧ Q .non H)) (G_if : FnOk P w K mg base CX0 11 D_if.f D_if.fd ["machine", "frame", "statement"] (spAct K CS CF CM dIf (rIf K CF CL))) (G_while : FnOk P w K mg base CX0 11 D_while.f D_while.fd ["machine", "frame", "statement"] (spAct K CS CF CM dWhile (rWhile K CF CL CM))) : FnOk P w K mg base CX0 21 f0 fd0 ["self"] (spStep K CP CG CS CL CF CM) := by
  refine F.ok sc_Machine_step (fun vs H Q E h => ?_) (fun cdv A0 outer s0 H vs Q E hr h => ?_)
  · obtain ⟨x, a, f, r, ts, rfl, _⟩ := h
    rfl
  · obtain ⟨x, a, f, r, ts, rfl, h, q⟩ := h
    have fm := h.sv.fm f List.mem_cons_self
    obtain ⟨ps, p, hps⟩ : ∃ ps p, f.ps = ps ++ [p] := by
      obtain ⟨p0, h0, _⟩ := h.lv
      exact ⟨f.ps.dropLast, f.ps.getLast (List.ne_nil_of_mem h0), (List.dropLast_concat_getLast _).symm⟩
    have pin : p ∈ f.ps := by rw [hps]; simp
    have pa := fm.ps p pin
    have po := fm.po p pin
    have key : ∃ (wd : PySem.Str) (A1 : Acm P w K mg base aA wd), p.i < p.b.length → ∃ (n : Nat) (s : Sf (BD n)) (b : List (BD (n + 1))), (⟨p.q, p.dx, p.blk, n + 1, b, p.i, p.lp⟩ : Plr) = p ∧ b[p.i]? = some (show BD (n + 1) from s) ∧ wd = s.kind ∧ Ask K CP CG CS CL CF CM x s A1.sp := by
      obtain ⟨pq', dx', blk', n', b', i', lp'⟩ := p
      by_cases hi : i' < b'.length
      · cases n' with
        | zero => exact nomatch b'[i']
        | succ n =>
          obtain ⟨A1, hA⟩ := acm (P := P) (w := w) (mg := mg) (base := base) (x := x) (n := n) (s := b'[i']) (po.ty _ (List.getElem_mem hi)).1 D_set D_put D_swap D_choose D_call D_check D_return D_skip D_if D_while A G_set G_put G_swap G_choose G_call G_check G_return G_skip G_if G_while
          exact ⟨_, A1, fun _ => ⟨n, b'[i'], b', rfl, List.getElem?_eq_getElem hi, rfl, hA⟩⟩
      · exact ⟨_, ⟨_, _, _, G_set.mono (by decide), D_set.F.kp, D_set.b, A.k1⟩, fun h => absurd h hi⟩
    obtain ⟨wd, A1, hA⟩ := key
    have F_action := A1.F
    have K_action := A1.kk
    have B_action := A1.bb
    refine ⟨_, (pss_cons (ps_set (i := 1) sc_Machine_step.nd rfl (.inl rfl) (pe_ix ix_list (pe_fld (pv 0) rfl) (pe_un un_neg pe_int) (fun _ _ => rfl)))
    (pss_cons (ps_set (i := 2) sc_Machine_step.nd rfl (.inl rfl) (pe_ix ix_list (pe_fld (pv 1) rfl) (pe_un un_neg pe_int) (fun _ _ => rfl)))
    (pss_one (ps_if (pt_cmpR op_eq (pe_fld (pv 2) rfl) (pe_callB call_len_seq (by rfl) T.n_len PySem.boot_len (pa_cons (pe_fld (pv 2) rfl) pa_nil)) (nomark _))
    (pss_one (ps_expr (pe_bm0 PySem.F.plainAttrs_list PySem.F.slot_list_pop PySem.F.type_list_pop mt_pop (pe_fld (pv 1) rfl))))
    (pss_one (ps_if (pt_cmpR op_le (pe_fld (pv 0) rfl) pe_int (nomark _))
    (pss_one (ps_fld (pv 0) (pe_tup (pa_cons pe_str pa_nil)) rfl))
    (pss_cons (ps_fldaug (pv 0) pe_int in_sub)
    (pss_cons (ps_set (i := 3) sc_Machine_step.nd rfl (.inl rfl) (pe_ix ix_tup (pe_fld (pv 2) rfl) (pe_fld (pv 2) rfl) (fun _ _ => rfl)))
    (Evl.pss_cut (ps_if (pt_cmpR op_ne (pe_ix ix_tup (pv 3) pe_int (fun _ _ => rfl)) pe_str (nomark _))
    (pss_one (ps_fldaug (pv 2) pe_int in_add))
    pss_nil)
    (pss_cons (ps_set (i := 4) sc_Machine_step.nd rfl (.inl rfl) (pe_ix ix_kdict (pe_glob (v := .ref aA) rfl T.m_ACTIONS rfl) (pe_ix ix_tup (pv 3) pe_int (fun _ _ => rfl)) (fun _ _ => rfl)))
    (pss_one (ps_expr (pe_callL (i := 4) F_action (hr.mono (by decide)) rfl (.inl rfl) K_action B_action .nil pass0 (pa_cons (pv 0) (pa_cons (pv 1) (pa_cons (pv 3) pa_nil)))))))))))))))), ?_⟩
    have hm : H a.m = some (.ins CM a.dx (maF (.ref a.pg) (.ref a.ch) (.int a.k) (.int a.st) (.ref a.fr) (.ref a.tu) a.out)) := h.sv.ma.at_
    have hfr : H a.fr = some (.lst ((r.map fun f => V.ref f.fr.f).reverse ++ [.ref f.fr.f])) := by
      rw [h.sv.ma.fr, h.sv.frs, List.map_cons, List.reverse_cons]
    have hpl : H f.fr.pl = some (.lst ((ps.map fun p => V.ref p.q) ++ [.ref p.q])) := by
      rw [fm.pl, hps, List.map_append]
      rfl
    have hff := fm.at_
    refine ⟨_, rfl, a.m, CM, a.dx, _, _, rfl, hm, T.cMachine, T.nMachine_frames, maF_frames _ _ _ _ _ _ _, 1, rfl, a.fr, _, _, .ref f.fr.f, rfl, rfl, SqL.of hfr, atI_last _ _, ?_⟩
    refine ⟨_, rfl, f.fr.f, CF, f.fr.dx, _, _, rfl, hff, T.cFrame, T.nFrame_places, frF_places _ _ _, 1, rfl, f.fr.pl, _, _, .ref p.q, rfl, rfl, SqL.of hpl, atI_last _ _, ?_⟩
    obtain ⟨t, us, hblk, ht, hus⟩ := dp_tup_inv pa.d
    have hul : us.length = p.b.length := by rw [dpa_len hus, List.length_map]
    refine ⟨_, rfl, p.q, CL, p.dx, _, _, rfl, pa.q, T.cPlace, T.nPlace_at, plF_at _ _ _, _, rfl, p.q, CL, p.dx, _, _, rfl, pa.q, T.cPlace, T.nPlace_block, plF_block _ _ _, t, _, (by rw [hblk]), .inr ht, ?_⟩
    refine ⟨rfl, _, rfl, ite2 (fun e => ?_) (fun e => ?_)⟩
    · have hend : p.i = p.b.length := by
        have e := of_decide_eq_true e
        have e2 : V.int (p.i : Int) = V.int (us.length : Int) := e
        injection e2 with e2
        omega
      refine ⟨_, rfl, f.fr.f, CF, f.fr.dx, _, _, rfl, hff, T.cFrame, T.nFrame_places, frF_places _ _ _, .inl ⟨rfl, _, SqL.of hpl⟩, ?_⟩
      refine ⟨f.fr.pl, _, .ref p.q, rfl, rfl, hpl, (by rw [List.length_append]; show (_ ++ [V.ref p.q])[(ps.map fun p => V.ref p.q).length + 1 - 1]? = _; rw [Nat.add_sub_cancel, List.getElem?_append_right (Nat.le_refl _), Nat.sub_self]; rfl), ?_⟩
      rw [List.dropLast_concat]
      have sv2 := h.sv.drop h.w hps rfl
      refine q _ (.inr ⟨a, _, r, ts, sv2, h.out, ?_, ?_⟩)
      · obtain ⟨p0, h0, h1, h2⟩ := h.lv
        rw [hps] at h0
        rcases List.mem_append.mp h0 with h0 | h0
        · exact ⟨p0, h0, h1, h2⟩
        · rw [List.mem_singleton.mp h0] at h1
          omega
      · rw [npl_cons, npl_cons]
        show ps.length + npl r + _ < _
        rw [hps, List.length_append]
        show ps.length + npl r + _ < ps.length + 1 + npl r + _
        omega
    · have hlt : p.i < p.b.length := by
        have hne : ¬ p.i = us.length := fun z => e (decide_eq_true (by rw [z]))
        have := po.le
        omega
      obtain ⟨n, s, b, hp, hbi, rfl, hAsk⟩ := hA hlt
      have po1 := po.ty
      have pok1 := pa.ok
      obtain ⟨pq', dx', blk', n', b', i', lp'⟩ := p
      cases hp
      refine ⟨_, rfl, a.m, CM, a.dx, _, _, rfl, hm, T.cMachine, T.nMachine_steps, maF_steps _ _ _ _ _ _ _, _, _, rfl, rfl, _, rfl, ite2 (fun e2 => ?_) (fun e2 => ?_)⟩
      · refine ⟨(by show 1 ≤ sizeLine; rw [sizeLine_eq]; omega), fun t2 nt => ?_⟩
        have t2m : t2 ≠ a.m := fun z => by rw [z, hm] at nt; cases nt
        refine ⟨_, rfl, a.m, CM, a.dx, _, rfl, (upd_ne (Ne.symm t2m)).trans hm, T.cMachine, T.nMachine_outcome, (by rw [maF_len]; decide), ?_⟩
        rw [maF_put_outcome]
        refine q _ (.inl (h.sv.fin h.w (S := [a.m]) ((Bu.upd (.same (.refl _)) (.inr nt)).upd (.inl (by simp))) (fun u hu => .inl (by rw [List.mem_singleton.mp hu, h.sv.ma.m])) (t := t2) (z := "tired") (us := []) upd_same (SqT.of ((upd_ne t2m).trans upd_same))))
      · have hst : 0 < a.st := by
          have e2 := of_decide_eq_false (Bool.eq_false_iff.mpr e2)
          omega
        refine ⟨_, rfl, a.m, CM, a.dx, _, _, rfl, hm, T.cMachine, T.nMachine_steps, maF_steps _ _ _ _ _ _ _, _, _, rfl, rfl, a.dx, _, hm, (by rw [maF_len]; decide), ?_⟩
        rw [maF_put_steps]
        have n0 := h.w.n0
        simp only [List.nodup_cons, List.mem_cons, not_or] at n0
        obtain ⟨⟨n1, n2, n3⟩, ⟨n4, n5⟩, n6, n7⟩ := n0
        have ne : ∀ {u : Addr} {us : List V}, H u = some (.lst us) → u ≠ a.m := fun {u us} e z => by
          rw [z, hm] at e
          cases e
        have b1 : Bu [a.m] H (upd H a.m (.ins CM a.dx (maF (.ref a.pg) (.ref a.ch) (.int a.k) (.int (a.st - 1)) (.ref a.fr) (.ref a.tu) a.out))) := Bu.upd (.same (.refl _)) (.inl (by simp))
        have hS : ∀ u, u ∈ [a.m] → u ∈ x.S0 := fun u hu => by
          rw [List.mem_singleton.mp hu, h.sv.ma.m]
          simp [Wk.S0]
        have m1 : Ma.At CM (upd H a.m (.ins CM a.dx (maF (.ref a.pg) (.ref a.ch) (.int a.k) (.int (a.st - 1)) (.ref a.fr) (.ref a.tu) a.out))) { a with st := a.st - 1 } := upd_same
        generalize upd H a.m (.ins CM a.dx (maF (.ref a.pg) (.ref a.ch) (.int a.k) (.int (a.st - 1)) (.ref a.fr) (.ref a.tu) a.out)) = H1 at b1 m1
        have hsz := h.sv.sz
        have hst2 : (a.st - 1).toNat + 1 = a.st.toNat := by omega
        have sv1 : Sv K CS CL CF CM x H1 { a with st := a.st - 1 } (f :: r) ts := h.sv.gl h.w b1 hS ⟨h.sv.ma.m, h.sv.ma.pg, h.sv.ma.ch, h.sv.ma.fr, h.sv.ma.tu, m1, h.sv.ma.k⟩ (b1 _ _ (by simpa using ne h.sv.frs) h.sv.frs) (b1 _ _ (by simpa using ne h.sv.tus) h.sv.tus)
          (h.sv.zk b1 fun z hz hzm => by
            obtain ⟨_, l, _, e, _⟩ := h.sv.z z hz
            exact ne e (List.mem_singleton.mp hzm)) (by show _ + 2 * (a.st - 1).toNat ≤ 1000; omega)
        have fm1 := sv1.fm f List.mem_cons_self
        have pa1 := fm1.ps _ pin
        have po1 := fm1.po _ pin
        have f1 := fm1.at_
        have tm1 : TM8 K H H1 := h.sv.tmS b1 fun u hu => .inr (hS u hu)
        have ht1 := tm1 _ _ ht
        have hi : i' < us.length := by
          have : i' < b.length := hlt
          have : us.length = b.length := hul
          omega
        obtain ⟨u, hu1, hu2⟩ := dp_mem (dpa_tups tm1 _ _ (noLs_mapof fun s hs => noL_D _ s (pa.ok s hs)) hus) (j := i') hlt
        have hbs : b[i'] = s := (List.getElem?_eq_some_iff.mp hbi).2
        rw [hbs] at hu2
        have hu2 : Dp K H1 u (Sf.enc (encD n) s) := hu2
        obtain ⟨b2, ws, rfl, hb2, _⟩ := sf_inv hu2
        have pq1 : H1 pq' = some (.ins CL dx' (plF blk' (.int i') lp')) := pa1.q
        refine ⟨_, rfl, pq', CL, dx', _, _, rfl, pq1, T.cPlace, T.nPlace_block, plF_block _ _ _, _, rfl, pq', CL, dx', _, _, rfl, pq1, T.cPlace, T.nPlace_at, plF_at _ _ _, t, us, _, .ref b2, hblk, rfl, ht1, atI_nat (j := i') hu1, ?_⟩
        have sok : Sf.ok (okD n) s := by
          have := pa.ok s (List.mem_of_getElem? hbi)
          exact this
        have sty : TyD f.nn f.ln f.c.mv x.kn (n + 1) (show BD (n + 1) from s) := po1.ty s (List.mem_of_getElem? hbi)
        rw [npl_cons] at hsz
        rw [List.length_cons] at hsz
        refine ⟨fun σ G => σ = [some (.ref a.m), some (.ref f.fr.f), some (.ref pq'), some (.ref b2), none] ∧ ∃ f' : Fm, f'.fr = f.fr ∧ Mid K CP CG CS CL CF CM x G { a with st := a.st - 1 } f' r ts n s (.ref b2) (npl (f :: r) + 2 * a.st.toNat) ∧ ((s.kind ≠ "while" ∧ (EnD (n + 1) (show BD (n + 1) from s) ∨ f'.Live)) ∨ (s.kind = "while" ∧ f'.Live ∧ ∃ (ps : List Plr) (pq dx : Addr) (blk lp0 : V) (b : List (BD (n + 1))) (ix : Nat), f'.ps = ps ++ [⟨pq, dx, blk, n + 1, b, ix, lp0⟩] ∧ b[ix]? = some (show BD (n + 1) from s))), ?_, ?_⟩
        · refine ⟨_, rfl, b2, _, _, _, rfl, rfl, hb2, atI_nat (j := 0) rfl, rfl, _, rfl, ite2 (fun e3 => ?_) (fun e3 => ?_)⟩
          · have hk : s.kind ≠ "while" := fun z => by
              rw [str_dec, decide_eq_true z] at e3
              cases e3
            refine ⟨_, rfl, pq', CL, dx', _, _, rfl, pq1, T.cPlace, T.nPlace_at, plF_at _ _ _, _, _, rfl, rfl, dx', _, pq1, (by rw [plF_len]; decide), ?_⟩
            rw [plF_put_at]
            have b3 : Bu [pq'] H1 (upd H1 pq' (.ins CL dx' (plF blk' (.int ((i' + 1 : Nat) : Int)) lp'))) := Bu.upd (.same (.refl _)) (.inl (by simp))
            have hS3 : ∀ u, u ∈ [pq'] → u ∈ (⟨pq', dx', blk', n + 1, b, i', lp'⟩ : Plr).own := fun u hu => by
              rw [List.mem_singleton.mp hu]
              exact List.mem_cons_self
            have tm3 : TM8 K H1 (upd H1 pq' (.ins CL dx' (plF blk' (.int ((i' + 1 : Nat) : Int)) lp'))) := sv1.tmS b3 fun u hu => .inl ⟨f, List.mem_cons_self, List.mem_append_right [f.fr.f, f.fr.s, f.fr.pl, f.dn, f.dl] (pl_own pin (hS3 u hu))⟩
            have nds := (ow (sv1.ndf List.mem_cons_self)).nd
            have ndp : (⟨pq', dx', blk', n + 1, b, i', lp'⟩ : Plr).own.Nodup := by
              obtain ⟨s1, s2, e5⟩ := List.append_of_mem pin
              rw [e5, List.flatMap_append, List.flatMap_cons] at nds
              exact (List.nodup_append.mp (List.nodup_append.mp nds).2.1).1
            have lpk : lp' = .non ∨ ∃ l x y k, lp' = .ref l ∧ upd H1 pq' (.ins CL dx' (plF blk' (.int ((i' + 1 : Nat) : Int)) lp')) l = some (.lst [x, y, .int k]) := by
              rcases pa1.lp with h1 | ⟨l, x, y, k, h1, h2⟩
              · exact .inl h1
              · refine .inr ⟨l, x, y, k, h1, (upd_ne fun z => ?_).trans h2⟩
                rw [z, pq1] at h2
                cases h2
            have sv2 := sv1.plset h.w hps (p' := ⟨pq', dx', blk', n + 1, b, i' + 1, lp'⟩) rfl b3 hS3 ⟨upd_same, dp_tups tm3 _ _ (noL_blk pa1.ok) pa1.d, pa1.ok, lpk⟩ ⟨po1.ty, hlt⟩ (fun u hu => .inl hu) ndp
            have hpl2 : (ps ++ [(⟨pq', dx', blk', n + 1, b, i' + 1, lp'⟩ : Plr)]).length = f.ps.length := by
              rw [hps, List.length_append, List.length_append]
              rfl
            refine ⟨rfl, { f with ps := ps ++ [⟨pq', dx', blk', n + 1, b, i' + 1, lp'⟩] }, rfl, ⟨h.w, sv2, h.out, ?_, dp_tups tm3 _ _ (noL_sf (noL_D n) sok) hu2, sok, sty, ?_⟩, .inl ⟨hk, ?_⟩⟩
            · rw [npl_cons, List.length_cons]
              show r.length + 1 + ts.length + ((ps ++ [_]).length + npl r) + 2 * (a.st - 1).toNat ≤ 998
              rw [hpl2]
              omega
            · rw [npl_cons, npl_cons]
              show (ps ++ [_]).length + npl r + 2 * (a.st - 1).toNat + 2 ≤ _
              rw [hpl2]
              omega
            · by_cases hen : EnD (n + 1) (show BD (n + 1) from s)
              · exact .inl hen
              · refine .inr ?_
                obtain ⟨p0, h0, h1, h2⟩ := h.lv
                rw [hps] at h0
                rcases List.mem_append.mp h0 with h0 | h0
                · exact ⟨p0, List.mem_append_left _ h0, h1, h2⟩
                · rw [List.mem_singleton.mp h0] at h1 h2
                  exact ⟨_, List.mem_append_right _ (List.mem_singleton.mpr rfl), EnB.not_last h2 hbi hen, h2⟩
          · have hk : s.kind = "while" := by
              rw [str_dec] at e3
              by_cases z : s.kind = "while"
              · exact z
              · rw [decide_eq_false z] at e3
                exact absurd rfl e3
            refine ⟨rfl, f, rfl, ⟨h.w, sv1, h.out, ?_, hu2, sok, sty, ?_⟩, .inr ⟨hk, h.lv, ps, pq', dx', blk', lp', b, i', hps, hbi⟩⟩
            · rw [npl_cons, List.length_cons]
              show r.length + 1 + ts.length + (f.ps.length + npl r) + 2 * (a.st - 1).toNat ≤ 998
              omega
            · rw [npl_cons]
              show f.ps.length + npl r + 2 * (a.st - 1).toNat + 2 ≤ _
              omega
        · rintro σ G ⟨rfl, f', hff', m, hc⟩
          obtain ⟨b3, ws3, e3, hb3, _⟩ := sf_inv m.dv
          cases e3
          refine ⟨_, rfl, b2, _, _, _, rfl, rfl, hb3, atI_nat (j := 0) rfl, aA, s.kind, _, rfl, rfl, A1.at_, ?_⟩
          refine ⟨rfl, _, rfl, _, rfl, _, rfl, ?_⟩
          have := hAsk G _ f' r ts (.ref b2) _ (fun _ H => Q .non H) E0 m hc q
          rw [hff'] at this
          exact this
end
end SW

namespace SW
open PySem PySem.Spec PyProof.Rows L2
abbrev s_run_program : Stmt := topS 15
theorem sc_run_program : FnScope ["program", "name", "numbers", "lists", "choices", "steps", "procedure", "held", "cells", "machine"] ["program", "name", "numbers", "lists", "choices", "steps"] (defScope s_run_program) := ⟨rfl, rfl, rfl, by decide +kernel, rfl, by decide +kernel, by decide +kernel⟩

/-! ### the run -/
theorem ps_never {X : Cx} {st : Stmt} : PS X st (fun _ _ _ => False) := ⟨fun _ _ _ _ _ _ h => h.elim⟩
structure DfK (K : PySem.W.Frag) (mg : PySem.Str → Option Value) (x : PySem.Str) (st : Stmt) (ps : List PySem.Str) (n : Nat) (ks : List PySem.Str) where
  f : Addr
  fd : FuncData
  F : Fun K x x st f fd
  kr : ∀ us ws : List Value, us.length = n → ws.length = ks.length → bindArgs fd ⟨us, ks.zip ws⟩ = pure (ps.zip (us ++ ws))
  g : mg x = some (.ref f)
theorem DfK.kb {K : PySem.W.Frag} {mg : PySem.Str → Option Value} {x : PySem.Str} {st : Stmt} {ps : List PySem.Str} {n : Nat} {ks : List PySem.Str} (D : DfK K mg x st ps n ks) : KBn K D.fd ps n ks (fun us ws => us ++ ws) (fun vs zs => vs ++ zs) := ⟨fun s us ws _ l1 l2 => .of_eq (D.kr us ws l1 l2), fun r1 r2 => r1.append r2⟩
def dfk_mk {x : PySem.Str} {st : Stmt} {ps : List PySem.Str} {n : Nat} {ks : List PySem.Str} {K : PySem.W.Frag} {h : Heap} {mg : PySem.Str → Option Value} (X : K.In h) (G : h.Ns mainGlobals mg) {f : Addr} {oc : Value} {od an : Option Addr} {sl : Array (Option Value)} {kV doc pm cd ct : Value}
    (a : PySem.W.nsIn K mainGlobals x = some (some (.ref f))) (l : K.lookup f = some ⟨oc, od, .func (PySem.W.fnOf x x (defArgs st) (defBody st) (defScope st) .none kV doc pm an cd ct), sl⟩) (c : PySem.W.codeIn K cd x = true) (k : PySem.W.keepIn K (.ref f) = true)
    (hb : ∀ (kV doc pm : Value) (an : Option Addr) (cd ct : Value) (us ws : List Value), us.length = n → ws.length = ks.length → bindArgs (PySem.W.fnOf x x (defArgs st) (defBody st) (defScope st) .none kV doc pm an cd ct) ⟨us, ks.zip ws⟩ = pure (ps.zip (us ++ ws))) : DfK K mg x st ps n ks :=
  ⟨f, _, fun_mk l c k, hb kV doc pm an cd ct, PySem.W.mg_of X G a⟩
theorem kr_run (kV doc pm : Value) (an : Option Addr) (cd ct : Value) (us ws : List Value) (h1 : us.length = 5) (h2 : ws.length = 1) : bindArgs (PySem.W.fnOf "run_program" "run_program" (defArgs s_run_program) (defBody s_run_program) (defScope s_run_program) .none kV doc pm an cd ct) ⟨us, (["steps"] : List PySem.Str).zip ws⟩ = pure ((["program", "name", "numbers", "lists", "choices", "steps"] : List PySem.Str).zip (us ++ ws)) :=
  match us, ws, h1, h2 with
  | [_, _, _, _, _], [_], _, _ => rfl
section
variable {P : Program} {w : World} {K : PySem.W.Frag} {mg : PySem.Str → Option Value} {base : Heap} {CP CG pp gg CS CU CL CF CM pq gq aA : Addr}
def spGo (K : PySem.W.Frag) (CP CG CS CL CF CM : Addr) : Sp := fun vs H Q _ => ∃ (x : Wk) (M : Nat), vs = [.ref x.m] ∧ WkOk K CP CG CM x ∧ Nxt K CS CL CF CM x M H ∧ ∀ H', Fin K CM x H' → Q .non H'
theorem ok_go {f0 fs : Addr} {fd0 fds : FuncData} (F : Fun K "go" "Machine.go" s_Machine_go f0 fd0) (T : TxA K mg CP CG pp gg CS CU CL CF CM pq gq aA) (m_step : Meth K CM "step" fs) (G_step : FnOk P w K mg base CX0 21 fs fds ["self"] (spStep K CP CG CS CL CF CM)) (b_step : Binds K fds ["self"] []) : FnOk P w K mg base CX0 22 f0 fd0 ["self"] (spGo K CP CG CS CL CF CM) := by
  refine F.ok sc_Machine_go (fun vs H Q E h => ?_) (fun cdv A0 outer s0 H vs Q E hr h => ?_)
  · obtain ⟨x, M, rfl, _⟩ := h
    rfl
  · obtain ⟨x, M, rfl, hw, h, q⟩ := h
    refine ⟨_, (pss_one (ps_while PassesOwn.never (pt_cmpR op_isN (pe_fld (pv 0) rfl) pe_non (nomark _))
    (pss_one (ps_expr (pe_meth0 (pv 0) T.cMachine m_step G_step (hr.mono (by decide)) b_step .nil pass0))))), ?_⟩
    refine ⟨fun m σ G => σ = [some (.ref x.m)] ∧ Nxt K CS CL CF CM x m G, ⟨M, rfl, h⟩, ?_⟩
    rintro m σ G ⟨rfl, hn⟩
    rcases hn with hf | ⟨a, f, r, ts, sv, out, lv, hm⟩
    · obtain ⟨a, t, z, us, e1, e2, e3, e4, e5⟩ := hf.2.2
      have e3 : G a.m = some (.ins CM a.dx (maF (.ref a.pg) (.ref a.ch) (.int a.k) (.int a.st) (.ref a.fr) (.ref a.tu) a.out)) := e3
      rw [e1] at e3
      refine ⟨_, rfl, x.m, CM, a.dx, _, _, rfl, e3, T.cMachine, T.nMachine_outcome, maF_outcome _ _ _ _ _ _ _, rfl, _, rfl, ?_⟩
      rw [e4]
      exact iteF (q _ hf)
    · have e3 : G a.m = some (.ins CM a.dx (maF (.ref a.pg) (.ref a.ch) (.int a.k) (.int a.st) (.ref a.fr) (.ref a.tu) a.out)) := sv.ma.at_
      rw [sv.ma.m] at e3
      refine ⟨_, rfl, x.m, CM, a.dx, _, _, rfl, e3, T.cMachine, T.nMachine_outcome, maF_outcome _ _ _ _ _ _ _, rfl, _, rfl, ?_⟩
      rw [out]
      refine iteT ⟨fun σ' H' => σ' = [some (.ref x.m)] ∧ Nxt K CS CL CF CM x (npl (f :: r) + 2 * a.st.toNat) H', fun σ' H' h => ⟨_, hm, h⟩, ?_⟩
      refine ⟨_, rfl, x.m, a.dx, _, rfl, e3, maF_no_step _ _ _ _ _ _ _, ?_⟩
      exact ⟨x, a, f, r, ts, by rw [← sv.ma.m]; rfl, ⟨hw, sv, out, lv⟩, fun H' hn => ⟨rfl, hn⟩⟩
end
end SW

namespace SW
open PySem PySem.Spec PyProof.Rows L2
/-! ### run_program -/
def rListK (K : PySem.W.Frag) : List V → Hp → VK → Prop := fun xs H Q => ∃ p ys, xs = [V.ref p] ∧ (SqL K H p ys ∨ SqT K H p ys) ∧ ∀ l, H l = none → Q (.ref l) (upd H l (.lst ys))
structure PgOk (cs : List Pc) : Prop where
  ok : ∀ c, c ∈ cs → c.ok
  ty : ∀ c, c ∈ cs → PcD (cs.map Pc.kn) c
  nd : (cs.map fun c => c.nm).Nodup
  pn : ∀ c, c ∈ cs → (c.ps.map Prod.fst).Nodup ∧ c.ps.length ≤ 20
/-- which of the lists are moved -/
def prOf (ws : List PySem.Str) (zs : List Addr) (mv : List PySem.Str) : List Addr := ((ws.zip zs).filter fun p => decide (p.1 ∈ mv)).map Prod.snd
theorem prOf_at {ws mv : List PySem.Str} {zs : List Addr} (hl : zs.length = ws.length) (nd : zs.Nodup) {i : Nat} {y : PySem.Str} {z : Addr} (h1 : ws[i]? = some y) (h2 : zs[i]? = some z) : z ∈ prOf ws zs mv ↔ y ∈ mv := by
  unfold prOf
  constructor
  · intro h
    obtain ⟨p, hp, rfl⟩ := List.mem_map.mp h
    obtain ⟨hp, hq⟩ := List.mem_filter.mp hp
    obtain ⟨j, hj, e⟩ := List.mem_iff_getElem.mp hp
    have hj2 : j < zs.length := by
      rw [List.length_zip] at hj
      omega
    rw [List.getElem_zip] at e
    have e2 : zs[j] = p.2 := by rw [← e]
    obtain ⟨hi, e3⟩ := List.getElem?_eq_some_iff.mp h2
    have : i = j := by
      have := List.getElem_inj (i := i) (j := j) (h₀ := hi) (h₁ := hj2) nd
      exact this.mp (by rw [e3, e2])
    subst this
    have e4 : p.1 = y := by
      rw [← e]
      exact (List.getElem?_eq_some_iff.mp h1).2
    rw [← e4]
    exact of_decide_eq_true hq
  · intro h
    obtain ⟨hi, e1⟩ := List.getElem?_eq_some_iff.mp h1
    obtain ⟨hi2, e2⟩ := List.getElem?_eq_some_iff.mp h2
    refine List.mem_map.mpr ⟨(y, z), List.mem_filter.mpr ⟨?_, decide_eq_true h⟩, rfl⟩
    refine List.mem_iff_getElem.mpr ⟨i, by rw [List.length_zip]; omega, ?_⟩
    rw [List.getElem_zip, e1, e2]
section
variable {P : Program} {w : World} {K : PySem.W.Frag} {mg : PySem.Str → Option Value} {base : Heap} {CP CG pp gg CS CU CL CF CM pq gq aA : Addr}
/-- a list stands for one that had the same cells -/
structure RnAt (H H' : Hp) (c : Pc) (ls zs : List Addr) : Prop where
  len : zs.length = ls.length
  at_ : ∀ (i : Nat) (l z : Addr), ls[i]? = some l → zs[i]? = some z → ∃ l0 l1 : List Int, H l = some (.lst (l0.map V.int)) ∧ H' z = some (.lst (l1.map V.int)) ∧ l1.length = l0.length ∧ ∀ y, (lnm c.ps)[i]? = some y → y ∈ c.mv → l1.Perm l0
def spRunP (K : PySem.W.Frag) (CP CG CU : Addr) : Sp := fun vs H Q _ => ∃ (pg N L C : Addr) (st : Int) (cs : List Pc) (c : Pc) (zs hs : List Int) (ls : List Addr), vs = [.ref pg, .str c.nm, .ref N, .ref L, .ref C, .int st] ∧ PgAt K CP CG H pg cs ∧ PgOk cs ∧ c ∈ cs ∧ H N = some (.lst (zs.map V.int)) ∧ zs.length = (numN c.ps).length ∧ H L = some (.lst (ls.map V.ref)) ∧ ls.length = (lnm c.ps).length ∧ (∀ l, l ∈ ls → ∃ l0 : List Int, H l = some (.lst (l0.map V.int)) ∧ l0.length ≤ 100) ∧
  H C = some (.lst (hs.map V.int)) ∧ hs.length ≤ 1000 ∧ st ≤ 400 ∧ ∀ (R dR t D T : Addr) (z : PySem.Str) (us : List V) (zs' : List Addr) (H' : Hp), Same H H' → H R = none → H' R = some (.ins CU dR (ruF (.ref t) (.ref D) (.ref T))) → SqT K H' t (.str z :: us) → H' D = some (.lst (zs'.map V.ref)) → RnAt H H' c ls zs' → Q (.ref R) H'
theorem ok_run (T : TxA K mg CP CG pp gg CS CU CL CF CM pq gq aA) (TR : TxR K mg CS) (c_fault : CkM K CM "fault" "Machine.fault" s_Machine_fault ["self", "row", "kind"]) (c_begin : CkM K CM "begin" "Machine.begin" s_Machine_begin ["self", "procedure", "numbers", "lists", "target"]) (c_go : CkM K CM "go" "Machine.go" s_Machine_go ["self"]) (c_called : CkM K CG "called" "Program.called" s_called ["self", "name"]) (c_Place : CkI K CL "Place.__init__" s_Place ["self", "block"]) (c_Frame : CkI K CF "Frame.__init__" s_Frame ["self", "state", "target", "body"]) (c_State : CkI K CS "State.__init__" s_State ["self", "numbers", "lists", "old"]) (c_Machine : CkI K CM "Machine.__init__" s_Machine ["self", "program", "choices", "steps"]) (c_Run : CkI K CU "Run.__init__" s_Run ["self", "outcome", "lists", "turns"])
    {fdl fdn : FuncData} (F_list : Fun K "list_names" "Procedure.list_names" s_list_names gg fdl) (b_list_names : Binds K fdl ["self"] []) (F_num : Fun K "number_names" "Procedure.number_names" s_number_names gq fdn) (b_number_names : Binds K fdn ["self"] []) (G_go : FnOk P w K mg base CX0 22 c_go.f c_go.fd ["self"] (spGo K CP CG CS CL CF CM)) (D_value_of : Df K mg "value_of" s_value_of ["term", "state"]) (D_cells_of : Df K mg "_cells_of" s_cells_of ["which", "state"]) (D_run_program : DfK K mg "run_program" s_run_program ["program", "name", "numbers", "lists", "choices", "steps"] 5 ["steps"]) : FnOk P w K mg base CX0 24 D_run_program.f D_run_program.fd ["program", "name", "numbers", "lists", "choices", "steps"] (spRunP K CP CG CU) := by
  have G_begin := ok_begin (P := P) (w := w) (base := base) c_begin.F T.toTxN TR c_fault c_Place c_Frame c_State F_list b_list_names F_num b_number_names D_value_of D_cells_of
  have m_begin := c_begin.M
  have b_begin := c_begin.b
  have m_go := c_go.M
  have b_go := c_go.b
  have G_called := ok_called (P := P) (w := w) (base := base) c_called.F T.toTxQ
  have m_called := c_called.M
  have b_called := c_called.b
  have G_list_names := ok_list_names (P := P) (w := w) (base := base) F_list T.toTxQ
  have G_number_names := ok_number_names (P := P) (w := w) (base := base) F_num T.toTxQ
  have G_Machine := ok_Machine (P := P) (w := w) (base := base) c_Machine.F T.toTxM
  have M_Machine := c_Machine.M
  have b_Machine := c_Machine.b
  have G_Run := ok_Run (P := P) (w := w) (base := base) c_Run.F T.toTxM
  have M_Run := c_Run.M
  have b_Run := c_Run.b
  refine D_run_program.F.ok sc_run_program (fun vs H Q E h => ?_) (fun cdv A outer s H vs Q E hr h => ?_)
  · obtain ⟨pg, N, L, C, st, cs, c, zs, hs, ls, rfl, _⟩ := h
    rfl
  · obtain ⟨pg, N, L, C, st, cs, c, zs, hs, ls, rfl, hpg, po, hc, hN, hzl, hL, hll, hls, hC, hhl, hst, q⟩ := h
    refine ⟨_, (pss_cons (ps_set (i := 6) sc_run_program.nd rfl (.inl rfl) (pe_meth (pv 0) T.cl m_called G_called (hr.mono (by decide)) b_called .nil pass0 (pa_cons (pv 1) pa_nil)))
    (pss_cons (ps_if (pt_cmpR op_isN (pv 6) pe_non (nomark _))
    (pss_one ps_never)
    pss_nil)
    (pss_cons (ps_if (PW.pt (pw_or (pt_cmpR op_ne (pe_callB call_len_seq (by rfl) T.n_len PySem.boot_len (pa_cons (pv 2) pa_nil)) (pe_callB call_len_seq (by rfl) T.n_len PySem.boot_len (pa_cons (pe_prop (pv 6) T.cp T.pn G_number_names (hr.mono (by decide)) b_number_names .nil pass0 rfl) pa_nil)) (nomark _)) (pw_or1 (pt_cmpR op_ne (pe_callB call_len_seq (by rfl) T.n_len PySem.boot_len (pa_cons (pv 3) pa_nil)) (pe_callB call_len_seq (by rfl) T.n_len PySem.boot_len (pa_cons (pe_prop (pv 6) T.cp T.pr G_list_names (hr.mono (by decide)) b_list_names .nil pass0 rfl) pa_nil)) (nomark _)))))
    (pss_one ps_never)
    pss_nil)
    (pss_cons (ps_setLc (i := 7) (own := [("cells", 8)]) (g := gName 8) (by rfl) sc_run_program.nd rfl rfl (sw_true rfl rfl rfl (by decide +kernel)) (pi_list (pv 3)) (blkOk_by (own := [("cells", 8)]) (N := ["program", "name", "numbers", "lists", "choices", "steps", "procedure", "held", "cells", "machine"]) (sc := defScope s_run_program) (by decide +kernel)) (fun _ _ _ _ _ => pg_name (i := 8) sc_run_program.nd rfl (Or.inl rfl)) (fun _ _ _ _ _ => pts_nil) (fun _ _ _ _ _ => (pe_callTy (show CallR _ (.type "list") (rListK K) from call_list_of) (by rfl) T.n_list (by decide +kernel) (pa_cons (pv 8) pa_nil))))
    (pss_cons (ps_set (i := 9) sc_run_program.nd rfl (.inl rfl) (pe_make M_Machine G_Machine (hr.mono (by decide)) rfl T.mg_Machine b_Machine .nil pass0 (pa_cons (pv 0) (pa_cons (pv 4) (pa_cons (pv 5) pa_nil)))))
    (Evl.pss_cut (ps_expr (pe_meth (pv 9) T.cMachine m_begin G_begin (hr.mono (by decide)) b_begin .nil pass0 (pa_cons (pv 6) (pa_cons (pv 2) (pa_cons (pv 7) (pa_cons pe_non pa_nil))))))
    (pss_cons (ps_expr (pe_meth0 (pv 9) T.cMachine m_go G_go (hr.mono (by decide)) b_go .nil pass0))
    (pss_one (ps_ret (pe_make M_Run G_Run (hr.mono (by decide)) rfl T.mg_Run b_Run .nil pass0 (pa_cons (pe_fld (pv 9) rfl) (pa_cons (pv 7) (pa_cons (pe_fld (pv 9) rfl) pa_nil))))))))))))), ?_⟩
    obtain ⟨dg, tg, hg1, hg2⟩ := hpg.ex
    refine ⟨_, rfl, pg, dg, _, rfl, hg1, rfl, _, rfl, pg, cs, c.nm, rfl, hpg, fun c' hc' => ?_, fun hn => ?_⟩
    · rw [fnd_of hc po.nd] at hc'
      cases hc'
      refine ⟨_, rfl, rfl, _, rfl, iteF ?_⟩
      obtain ⟨dc, v0, v2, v3, v4, v5, v6, v7, v8, hp, hps, hmv, hlts, hbd⟩ := (hpg.at_ c hc).ex
      obtain ⟨pn1, pn2⟩ := po.pn c hc
      refine ⟨_, rfl, N, _, rfl, .inl (SqL.of hN), _, rfl, c.p, dc, _, rfl, hp, c.p, dc, v0, _, v2, v3, v4, v5, v6, v7, v8, c.ps, rfl, hp, hps, by omega, fun F1 H1 s1 nF1 eF1 => ?_⟩
      refine ⟨F1, _, rfl, .inl (SqL.of eF1), ?_⟩
      refine ⟨rfl, _, rfl, ite2 (fun e => ?_) (fun _ => ?_)⟩
      · rw [decide_eq_true (by rw [List.length_map, List.length_map, hzl]; rfl)] at e
        cases e
      have hp1 := s1 _ _ hp
      refine ⟨_, rfl, L, _, rfl, .inl (SqL.of (s1 _ _ hL)), _, rfl, c.p, dc, _, rfl, hp1, c.p, dc, v0, _, v2, v3, v4, v5, v6, v7, v8, c.ps, rfl, hp1, hps.same s1, by omega, fun F2 H2 s2 nF2 eF2 => ?_⟩
      refine ⟨F2, _, rfl, .inl (SqL.of eF2), rfl, _, rfl, ite2 (fun e => ?_) (fun _ => ?_)⟩
      · rw [decide_eq_true (by rw [List.length_map, List.length_map, hll]; rfl)] at e
        cases e
      have t2 := s1.trans s2
      refine ⟨_, rfl, L, rfl, ⟨_, SqL.of (t2 _ _ hL)⟩, fun D nD => ?_⟩
      have nHD : H D = none := sno t2 nD
      refine lc_list (K := K) (a := L) (xs := ls.map V.ref) (fun i G => Same H2 G ∧ ∃ zs' : List Addr, G D = some (.lst (zs'.map V.ref)) ∧ zs'.length = i ∧ zs'.Nodup ∧ (∀ z, z ∈ zs' → H2 z = none ∧ z ≠ D) ∧ ∀ (j : Nat) (l z : Addr), ls[j]? = some l → zs'[j]? = some z → ∃ l0 : List Int, H l = some (.lst (l0.map V.int)) ∧ G z = some (.lst (l0.map V.int))) ⟨same_new nD, [], upd_same, rfl, List.nodup_nil, fun _ h => (by cases h), fun _ _ _ _ h => (by cases h)⟩ (fun i G _ hP => SqL.of (hP.1 _ _ (t2 _ _ hL))) (fun i v G hv hP => ?_) (fun G hP => ?_)
      · obtain ⟨sG, zs', eD, zl, znd, zn, zat⟩ := hP
        rw [List.getElem?_map] at hv
        obtain ⟨l, hl, rfl⟩ := Option.map_eq_some_iff.mp hv
        have hi : i < ls.length := (List.getElem?_eq_some_iff.mp hl).1
        obtain ⟨l0, e0, z0⟩ := hls l (List.mem_of_getElem? hl)
        have el := sG _ _ (t2 _ _ e0)
        refine ⟨rfl, _, rfl, l, _, rfl, .inl (SqL.of el), fun z nz => ?_⟩
        have zD : z ≠ D := fun e => by rw [e, eD] at nz; cases nz
        have nz2 : H2 z = none := sno sG nz
        have hll2 : (lnm c.ps).length ≤ 20 := by
          unfold lnm
          rw [List.length_map]
          exact Nat.le_trans (List.length_filter_le _ _) pn2
        have znz : z ∉ zs' := fun hz => by
          obtain ⟨j, hj, e⟩ := List.mem_iff_getElem.mp hz
          obtain ⟨l1, _, e2⟩ := zat j ls[j] z (List.getElem?_eq_getElem (by omega)) (by rw [List.getElem?_eq_getElem hj, e])
          rw [nz] at e2
          cases e2
        refine ⟨_, (upd_ne (Ne.symm zD)).trans eD, small_sz5 (by rw [List.length_map]; omega), ?_⟩
        refine ⟨same_mut (sG.trans (same_new nz)) nD, zs' ++ [z], ?_, by rw [List.length_append, zl]; rfl, ?_, fun u hu => ?_, fun j l' z' h1 h2 => ?_⟩
        · rw [upd_same, List.map_append]
          rfl
        · refine List.nodup_append.mpr ⟨znd, by simp, fun u hu u' hu' e => ?_⟩
          rw [List.mem_singleton.mp hu'] at e
          rw [e] at hu
          exact znz hu
        · rcases List.mem_append.mp hu with hu | hu
          · exact zn u hu
          · rw [List.mem_singleton.mp hu]
            exact ⟨nz2, zD⟩
        · by_cases hj : j < zs'.length
          · rw [List.getElem?_append_left hj] at h2
            obtain ⟨l1, e1, e2⟩ := zat j l' z' h1 h2
            refine ⟨l1, e1, (upd_ne (zn z' (List.mem_of_getElem? h2)).2).trans ((upd_ne fun e => ?_).trans e2)⟩
            rw [e, nz] at e2
            cases e2
          · have hj2 : j = zs'.length := by
              have := (List.getElem?_eq_some_iff.mp h2).1
              rw [List.length_append] at this
              have : j < zs'.length + 1 := this
              omega
            rw [hj2, List.getElem?_append_right (Nat.le_refl _), Nat.sub_self] at h2
            cases h2
            rw [hj2, zl, hl] at h1
            cases h1
            exact ⟨l0, e0, (upd_ne zD).trans upd_same⟩
      · obtain ⟨sG, zs', eD, zl, znd, zn, zat⟩ := hP
        rw [List.length_map] at zl
        have tG := t2.trans sG
        refine ⟨_, rfl, _, rfl, _, rfl, fun p dx np ndx ne => ⟨p, dx, _, _, _, rfl, upd_same, fun H3 a b bu na nb ab ea eb em => ⟨rfl, ?_⟩⟩⟩
        have g3 : ∀ {u : Addr} {o : HO}, G u = some o → upd (upd G dx (.own p)) p (.ins CM dx []) u = some o := fun {u o} e => by
          rw [upd_ne (Ne.symm (sne np e)), upd_ne (Ne.symm (sne ndx e))]
          exact e
        have gn : ∀ {u : Addr}, upd (upd G dx (.own p)) p (.ins CM dx []) u = none → u ≠ p ∧ G u = none := fun {u} e => by
          have h1 : u ≠ p := fun z => by
            rw [z, upd_same] at e
            cases e
          rw [upd_ne h1] at e
          have h2 : u ≠ dx := fun z => by
            rw [z, upd_same] at e
            cases e
          rw [upd_ne h2] at e
          exact ⟨h1, e⟩
        obtain ⟨ap, na2⟩ := gn na
        obtain ⟨bp, nb2⟩ := gn nb
        have s3 : Same G H3 := fun u o e => bu u o (by simpa using Ne.symm (sne np e)) (g3 e)
        have t3 := tG.trans s3
        have hpg3 : PgAt K CP CG H3 pg cs := ⟨⟨dg, tg, t3 _ _ hg1, sqt_same t3 hg2⟩, fun c hc => (hpg.at_ c hc).same t3⟩
        have zat3 : ∀ (j : Nat) (l z : Addr), ls[j]? = some l → zs'[j]? = some z → ∃ l0 : List Int, H l = some (.lst (l0.map V.int)) ∧ H3 z = some (.lst (l0.map V.int)) ∧ l0.length ≤ 100 := fun j l z h1 h2 => by
          obtain ⟨l0, e1, e2⟩ := zat j l z h1 h2
          obtain ⟨l1, e3, e4⟩ := hls l (List.mem_of_getElem? h1)
          rw [e1] at e3
          injection e3 with e3
          injection e3 with e3
          have := congrArg List.length e3
          rw [List.length_map, List.length_map] at this
          exact ⟨l0, e1, s3 _ _ e2, by omega⟩
        have zin : ∀ z, z ∈ zs' → ∃ (j : Nat) (l : Addr), ls[j]? = some l ∧ zs'[j]? = some z := fun z hz => by
          obtain ⟨j, hj, e⟩ := List.mem_iff_getElem.mp hz
          exact ⟨j, ls[j], List.getElem?_eq_getElem (by omega), by rw [List.getElem?_eq_getElem hj, e]⟩
        have zG : ∀ z, z ∈ zs' → ∃ us, G z = some (.lst us) := fun z hz => by
          obtain ⟨j, l, h1, h2⟩ := zin z hz
          obtain ⟨l0, _, e⟩ := zat j l z h1 h2
          exact ⟨_, e⟩
        have eD3 := s3 _ _ eD
        have hC3 := t3 _ _ hC
        have CG2 := tG _ _ hC
        have zH : ∀ z, z ∈ zs' → H z = none := fun z hz => sno t2 (zn z hz).1
        obtain ⟨c5, c6, t1, tt2, r1, r2, hlt, ht1, ht2, hty⟩ := (po.ty c hc).ex
        have hw : WkOk K CP CG CM ⟨H3, p, pg, C, a, b, cs, hs, zs', prOf (lnm c.ps) zs' c.mv⟩ := by
          refine ⟨hpg3, po.ok, po.ty, po.nd, po.pn, ⟨⟨p, dx, pg, C, 0, st, a, b, .non⟩, rfl, em⟩, ⟨_, ea⟩, ⟨_, eb⟩, fun z hz => ?_, hC3, hhl, ?_⟩
          · obtain ⟨j, l, h1, h2⟩ := zin z hz
            obtain ⟨l0, _, e, e2⟩ := zat3 j l z h1 h2
            exact ⟨l0, e, e2⟩
          · show (a :: b :: C :: zs').Nodup
            simp only [List.nodup_cons, List.mem_cons, not_or]
            refine ⟨⟨ab, Ne.symm (Ne.symm (sne na2 CG2)), fun h => ?_⟩, ⟨sne nb2 CG2, fun h => ?_⟩, fun h => ?_, znd⟩
            · obtain ⟨us, e⟩ := zG a h
              rw [na2] at e
              cases e
            · obtain ⟨us, e⟩ := zG b h
              rw [nb2] at e
              cases e
            · have := zH C h
              rw [hC] at this
              cases this
        have sv0 : Sv K CS CL CF CM ⟨H3, p, pg, C, a, b, cs, hs, zs', prOf (lnm c.ps) zs' c.mv⟩ H3 ⟨p, dx, pg, C, 0, st, a, b, .non⟩ [] [] := by
          refine ⟨.same (.refl _), ⟨rfl, rfl, rfl, rfl, rfl, em, Nat.zero_le _⟩, ea, eb, fun z hz => ?_, fun _ h => (by cases h), List.nodup_nil, fun _ h => (by cases h), fun _ h => (by cases h), trivial, ?_⟩
          · obtain ⟨j, l, h1, h2⟩ := zin z hz
            obtain ⟨l0, _, e, e2⟩ := zat3 j l z h1 h2
            exact ⟨l0, l0, e, e, rfl, fun _ => .refl _⟩
          · show 0 + 0 + 0 + 2 * st.toNat ≤ 1000
            omega
        refine ⟨fun σ J => σ = [some (.ref pg), some (.str c.nm), some (.ref N), some (.ref L), some (.ref C), some (.int st), some (.ref c.p), some (.ref D), none, some (.ref p)] ∧ Nxt K CS CL CF CM ⟨H3, p, pg, C, a, b, cs, hs, zs', prOf (lnm c.ps) zs' c.mv⟩ 2000 J, ?_, ?_⟩
        · refine ⟨_, rfl, p, dx, _, rfl, em, maF_no_begin _ _ _ _ _ _ _, _, rfl, _, rfl, _, rfl, ?_⟩
          refine ⟨⟨p, dx, pg, C, 0, st, a, b, .non⟩, c, N, D, zs, zs', .non, [], c5, c6, t1, tt2, r1, r2, rfl, em, ea, Nat.zero_le _, (hpg.at_ c hc).same t3, pn2, pn1, hlt, ht1, ht2, t3 _ _ hN, hzl, eD3, by omega, fun r hr => ?_, ?_, ?_⟩
          · obtain ⟨us, e⟩ := zG r hr
            obtain ⟨j, l, h1, h2⟩ := zin r hr
            obtain ⟨l0, _, e1, e2⟩ := zat3 j l r h1 h2
            exact ⟨Ne.symm (sne na2 e), l0, e1, e2⟩
          · intro fx df s' ds dn dl old pl q' dq v8' H4 bu4 efr bg
            have sv1 := sv0.beg hw bu4 hc bg efr hty (by omega) (fun i y r h1 h2 => ⟨List.mem_of_getElem? h2, fun h => (prOf_at (by omega) znd h1 h2).mp h⟩) (fun _ h => (by cases h)) trivial (by show 0 + 0 + 0 + 2 + 2 * st.toNat ≤ 1000; omega)
            refine ⟨rfl, .inr ⟨_, _, _, _, sv1, rfl, newFm_live (po.ty c hc).en, ?_⟩⟩
            show 1 + 0 + 2 * st.toNat < 2000
            omega
          · intro t r z H4 bu4 hm ht
            refine ⟨rfl, .inl (sv0.fin hw bu4 (fun u hu => ?_) hm ht)⟩
            simp only [List.mem_cons, List.not_mem_nil, or_false] at hu
            exact hu
        · rintro σ J ⟨rfl, hn⟩
          have hma : ∃ a0 : Ma, a0.m = p ∧ a0.At CM J := by
            rcases hn with ⟨_, _, a0, t, z, us, e1, _, e3, _⟩ | ⟨a0, f, r, ts, sv, _⟩
            · exact ⟨a0, e1, e3⟩
            · exact ⟨a0, sv.ma.m, sv.ma.at_⟩
          obtain ⟨a0, e1, e2⟩ := hma
          have e2 : J a0.m = some (.ins CM a0.dx (maF (.ref a0.pg) (.ref a0.ch) (.int a0.k) (.int a0.st) (.ref a0.fr) (.ref a0.tu) a0.out)) := e2
          rw [e1] at e2
          refine ⟨_, rfl, p, a0.dx, _, rfl, e2, maF_no_go _ _ _ _ _ _ _, ?_⟩
          refine ⟨_, 2000, rfl, hw, hn, fun J2 hf => ?_⟩
          obtain ⟨bJ, zJ, a1, t, z, us, m1, m2, m3, m4, m5⟩ := hf
          have m3 : J2 a1.m = some (.ins CM a1.dx (maF (.ref a1.pg) (.ref a1.ch) (.int a1.k) (.int a1.st) (.ref a1.fr) (.ref a1.tu) a1.out)) := m3
          rw [m1, m4] at m3
          have npH : H p = none := sno tG np
          have naH : H a = none := sno tG na2
          have nbH : H b = none := sno tG nb2
          have ns : ∀ {u : Addr}, u ≠ p → u ≠ a → u ≠ b → u ∉ zs' → u ∉ (⟨H3, p, pg, C, a, b, cs, hs, zs', prOf (lnm c.ps) zs' c.mv⟩ : Wk).S0 := fun {u} h1 h2 h3 h4 => by
            unfold Wk.S0
            simp only [List.mem_cons, not_or]
            exact ⟨h1, h2, h3, h4⟩
          have sJ : Same H J2 := fun u o e => bJ u o (ns (Ne.symm (sne npH e)) (Ne.symm (sne naH e)) (Ne.symm (sne nbH e)) fun h => by
            rw [zH u h] at e
            cases e) (t3 _ _ e)
          have eDJ : J2 D = some (.lst (zs'.map V.ref)) := bJ _ _ (ns (Ne.symm (sne np eD)) (Ne.symm (sne na2 eD)) (Ne.symm (sne nb2 eD)) fun h => (zn D h).2 rfl) eD3
          refine ⟨_, rfl, p, CM, a1.dx, _, _, rfl, m3, T.cMachine, T.nMachine_outcome, maF_outcome _ _ _ _ _ _ _, _, rfl, _, rfl, p, CM, a1.dx, _, _, rfl, m3, T.cMachine, T.nMachine_turns, maF_turns _ _ _ _ _ _ _, ?_⟩
          refine fun R dR nR ndR neR => ⟨R, dR, _, _, _, rfl, upd_same, fun J3 h1 h2 => ⟨rfl, ?_⟩⟩
          have sJ3 : Same J2 J3 := fun u o e => h1 u o (Ne.symm (sne nR e)) (by rw [upd_ne (Ne.symm (sne nR e)), upd_ne (Ne.symm (sne ndR e))]; exact e)
          refine q R dR t D _ z us zs' J3 (sJ.trans sJ3) (sno sJ nR) h2 (sqt_same sJ3 m5) (sJ3 _ _ eDJ) ⟨by omega, fun i l z' h1 h2 => ?_⟩
          obtain ⟨l0, l1, e3, e4, e5, e6⟩ := zJ z' (List.mem_of_getElem? h2)
          obtain ⟨l2, e7, e8, _⟩ := zat3 i l z' h1 h2
          have e3 : H3 z' = some (.lst (l0.map V.int)) := e3
          rw [e8] at e3
          injection e3 with e3
          injection e3 with e3
          have hll3 : l2 = l0 := by
            have := congrArg (fun l : List V => l.map fun v => match v with | .int i => i | _ => 0) e3
            simpa [List.map_map, Function.comp_def] using this
          subst hll3
          exact ⟨l2, l1, e7, sJ3 _ _ e4, e5, fun y hy hm => e6 ((prOf_at (by omega) znd hy h2).mpr hm)⟩
    · rw [fnd_of hc po.nd] at hn
      cases hn
end
end SW

namespace SW
open PySem PySem.Spec PyProof.Rows L2
/-! ### the generator's procedures, as the run wants them -/
theorem nr_subs {B : Type} (g : B → B) (s : Sf B) : Sf.subs (nrS g s) = s.subs.map (List.map g) := by cases s <;> rfl
theorem ty_nr {nn ln mv : List PySem.Str} {kn : List Kn} {B : Type} (g : B → B) (s : Sf B) : TyS nn ln mv kn (nrS g s) ↔ TyS nn ln mv kn s := by cases s <;> exact Iff.rfl
theorem tyD_nr {nn ln mv : List PySem.Str} {kn : List Kn} : ∀ (n : Nat) (s : BD n), TyD nn ln mv kn n (nrD n s) ↔ TyD nn ln mv kn n s
  | 0, s => nomatch s
  | n + 1, s => by
    obtain ⟨s, rfl⟩ : ∃ s' : Sf (BD n), s' = s := ⟨s, rfl⟩
    have e : Sf.subs (nrS (nrD n) s) = s.subs.map (List.map (nrD n)) := nr_subs _ s
    refine and_congr (ty_nr (nrD n) s) ⟨fun h b hb t ht => ?_, fun h b hb t ht => ?_⟩
    · exact (tyD_nr n t).mp (h _ (e ▸ List.mem_map.mpr ⟨b, hb, rfl⟩) _ (List.mem_map.mpr ⟨t, ht, rfl⟩))
    · have hb : b ∈ Sf.subs (nrS (nrD n) s) := hb
      rw [e] at hb
      obtain ⟨b0, hb0, rfl⟩ := List.mem_map.mp hb
      obtain ⟨t0, ht0, rfl⟩ := List.mem_map.mp ht
      exact (tyD_nr n t0).mpr (h b0 hb0 t0 ht0)
theorem snoc_map {α β : Type} {g : α → β} {b : List α} {l : List β} {t : β} (h : b.map g = l ++ [t]) : ∃ l0 t0, b = l0 ++ [t0] ∧ g t0 = t := by
  have hne : b ≠ [] := fun e => by
    rw [e] at h
    have := congrArg List.length h
    rw [List.length_append] at this
    cases this
  refine ⟨b.dropLast, b.getLast hne, (List.dropLast_concat_getLast hne).symm, ?_⟩
  rw [← List.dropLast_concat_getLast hne, List.map_append] at h
  have := List.append_inj_right' h rfl
  cases this
  rfl
theorem enD_nr : ∀ (n : Nat) (s : BD n), EnD n (nrD n s) ↔ EnD n s
  | 0, s => nomatch s
  | n + 1, s => by
    have hb : ∀ b : List (BD n), (∃ l t, b.map (nrD n) = l ++ [t] ∧ EnD n t) ↔ ∃ l t, b = l ++ [t] ∧ EnD n t := fun b => by
      constructor
      · rintro ⟨l, t, h, ht⟩
        obtain ⟨l0, t0, e, e2⟩ := snoc_map h
        rw [← e2] at ht
        exact ⟨l0, t0, e, (enD_nr n t0).mp ht⟩
      · rintro ⟨l, t, rfl, ht⟩
        exact ⟨l.map (nrD n), nrD n t, by rw [List.map_append]; rfl, (enD_nr n t).mpr ht⟩
    obtain ⟨s, rfl⟩ : ∃ s' : Sf (BD n), s' = s := ⟨s, rfl⟩
    cases s with
    | iff r c a b => exact and_congr (hb a) (hb b)
    | lst => exact Iff.rfl
    | cal => exact Iff.rfl
    | oth => exact Iff.rfl
    | whl => exact Iff.rfl
theorem enB_nr {n : Nat} {b : List (BD n)} : EnB n (nrB n b) ↔ EnB n b := by
  constructor
  · rintro ⟨l, t, h, ht⟩
    obtain ⟨l0, t0, e, e2⟩ := snoc_map (g := nrD n) h
    rw [← e2] at ht
    exact ⟨l0, t0, e, (enD_nr n t0).mp ht⟩
  · rintro ⟨l, t, rfl, ht⟩
    exact ⟨nrB n l, nrD n t, nrB_snoc n l t, (enD_nr n t).mpr ht⟩
theorem tyD_flat {nn ln mv : List PySem.Str} {kn : List Kn} : ∀ (n : Nat) (s : BD n), (∀ a, a ∈ flatD n s → TyS nn ln mv kn a.s) → TyD nn ln mv kn n s
  | 0, s, _ => nomatch s
  | n + 1, s, h => by
    have e : flatD (n + 1) s = ⟨n, s⟩ :: ((Sf.subs (B := BD n) s).map (flatB n)).flatten := flatD_succ n s
    rw [e] at h
    refine ⟨h _ List.mem_cons_self, fun b hb t ht => tyD_flat n t fun a ha => h a (List.mem_cons_of_mem _ ?_)⟩
    refine List.mem_flatten.mpr ⟨flatB n b, List.mem_map.mpr ⟨b, hb, rfl⟩, ?_⟩
    exact List.mem_flatten.mpr ⟨flatD n t, List.mem_map.mpr ⟨t, ht, rfl⟩, ha⟩
theorem flat_nr : ∀ (n : Nat) (s : BD n), (flatD n (nrD n s)).length = (flatD n s).length
  | 0, s => nomatch s
  | n + 1, s => by
    obtain ⟨s, rfl⟩ : ∃ s' : Sf (BD n), s' = s := ⟨s, rfl⟩
    have e1 : flatD (n + 1) s = ⟨n, s⟩ :: ((Sf.subs (B := BD n) s).map (flatB n)).flatten := flatD_succ n s
    have e2 : flatD (n + 1) (nrD (n + 1) s) = ⟨n, nrS (nrD n) s⟩ :: ((Sf.subs (B := BD n) (nrS (nrD n) s)).map (flatB n)).flatten := flatD_succ n _
    rw [e1, e2, nr_subs, List.length_cons, List.length_cons, List.length_flatten, List.length_flatten, List.map_map, List.map_map, List.map_map]
    refine congrArg (fun l : List Nat => l.sum + 1) (List.map_congr_left fun b _ => ?_)
    show (flatB n (b.map (nrD n))).length = (flatB n b).length
    unfold flatB
    rw [List.length_flatten, List.length_flatten, List.map_map, List.map_map, List.map_map]
    exact congrArg List.sum (List.map_congr_left fun t _ => flat_nr n t)
theorem flatB_nr {n : Nat} {b b' : List (BD n)} (h : nrB n b' = nrB n b) : (flatB n b').length = (flatB n b).length := by
  have e : ∀ b : List (BD n), (flatB n (nrB n b)).length = (flatB n b).length := fun b => by
    unfold flatB nrB
    rw [List.length_flatten, List.length_flatten, List.map_map, List.map_map, List.map_map]
    exact congrArg List.sum (List.map_congr_left fun t _ => flat_nr n t)
  rw [← e b', ← e b, h]
theorem end_en {s : Sf (BD 4)} (h : EndOk s) : EnD 5 (show BD 5 from s) := by
  rcases h with ⟨r, d, rfl⟩ | ⟨r, c, r1, r2, r3, d1, d2, rfl⟩
  · exact rfl
  · exact ⟨⟨[], _, rfl, rfl⟩, ⟨[_], _, rfl, rfl⟩⟩
theorem pcD_of {kn : List Kn} {c : Pc} (h : PcTy kn c) : PcD kn c := by
  obtain ⟨⟨c5, c6, t1, t2, r1, r2, e, k1, k2, k3⟩, b, s, e2, he⟩ := h
  refine ⟨⟨c5, c6, t1, t2, r1, r2, e, k1, k2, fun s hs => tyD_flat 5 s fun a ha => k3 a ?_⟩, b, s, e2, end_en he⟩
  exact List.mem_flatten.mpr ⟨flatD 5 s, List.mem_map.mpr ⟨s, hs, rfl⟩, ha⟩
theorem pcD_sam {kn : List Kn} {c c' : Pc} (h : PcD kn c) (s : SamC c c') : PcD kn c' := by
  obtain ⟨⟨c5, c6, t1, t2, r1, r2, e, k1, k2, k3⟩, en⟩ := h
  have hl := s.lt
  rw [e] at hl
  have lt : ∃ r1' r2', c'.lt = [(r1', c5, t1), (r2', c6, t2)] := by
    match h : c'.lt, hl with
    | [(a, b), (d, e)], hl =>
      injection hl with h1 hl
      injection hl with h2 _
      cases h1
      cases h2
      exact ⟨a, d, rfl⟩
  obtain ⟨r1', r2', lt⟩ := lt
  refine ⟨⟨c5, c6, t1, t2, r1', r2', lt, by rw [s.ps]; exact k1, by rw [s.ps]; exact k2, fun u hu => ?_⟩, ?_⟩
  · rw [s.ps, s.mv]
    have h1 : nrD 5 u ∈ nrB 5 c.body := by
      rw [← s.fl]
      exact List.mem_map.mpr ⟨u, hu, rfl⟩
    obtain ⟨u0, h2, h3⟩ := List.mem_map.mp h1
    have h4 := (tyD_nr 5 u0).mpr (k3 u0 h2)
    rw [h3] at h4
    exact (tyD_nr 5 u).mp h4
  · have h4 := enB_nr.mpr en
    rw [← s.fl] at h4
    exact enB_nr.mp h4
theorem trip_at {cs cs' : List Pc} (h : cs.map trip = cs'.map trip) {i : Nat} {c' : Pc} (hc : cs[i]? = some c') : ∃ c, cs'[i]? = some c ∧ trip c = trip c' := by
  have e : (cs.map trip)[i]? = (cs'.map trip)[i]? := by rw [h]
  rw [List.getElem?_map, List.getElem?_map, hc] at e
  cases hc2 : cs'[i]? with
  | none =>
    rw [hc2] at e
    cases e
  | some c =>
    rw [hc2] at e
    exact ⟨c, rfl, (Option.some.inj e).symm⟩
theorem trip_inj {c c' : Pc} (h : trip c = trip c') : c'.nm = c.nm ∧ c'.ps = c.ps ∧ c'.mv = c.mv ∧ c'.lt = c.lt ∧ c'.body = c.body :=
  ⟨(@congrArg Pc _ (trip c) (trip c') Pc.nm h).symm, (@congrArg Pc _ (trip c) (trip c') Pc.ps h).symm, (@congrArg Pc _ (trip c) (trip c') Pc.mv h).symm, (@congrArg Pc _ (trip c) (trip c') Pc.lt h).symm, (@congrArg Pc _ (trip c) (trip c') Pc.body h).symm⟩
theorem SamL.trip {cs cs' cp : List Pc} (s : SamL cs cs') (h : cp.map SW.trip = cs'.map SW.trip) : SamL cs cp := by
  have hl : cp.length = cs'.length := by
    have := congrArg List.length h
    rwa [List.length_map, List.length_map] at this
  refine ⟨hl.trans s.len, fun i c c' hc hc' => ?_⟩
  obtain ⟨d, hd, e⟩ := trip_at h hc'
  obtain ⟨e1, e2, e3, e4, e5⟩ := trip_inj e
  have k := s.at_ i c d hc hd
  exact ⟨e1.trans k.nm, e2.trans k.ps, e3.trans k.mv, by rw [e4]; exact k.lt, by rw [e5]; exact k.fl, by rw [e5]; exact k.ok⟩
theorem PtsAt.trip {K : PySem.W.Frag} {H : Hp} {ys : List V} {cs' cp : List Pc} (p : PtsAt K H ys cs') (h : cp.map SW.trip = cs'.map SW.trip) : PtsAt K H ys cp := by
  have hl : cp.length = cs'.length := by
    have := congrArg List.length h
    rwa [List.length_map, List.length_map] at this
  refine ⟨p.len.trans hl.symm, fun i v c' hv hc' => ?_⟩
  obtain ⟨d, hd, e⟩ := trip_at h hc'
  obtain ⟨e1, e2, e3, e4, e5⟩ := trip_inj e
  obtain ⟨t, v0, v2, v3, v4, v5, v6, v7, v8, q1, q2, q3, q4, q5, q6⟩ := (p.at_ i v d hv hd).ex
  exact ⟨t, v0, v2, v3, v4, v5, v6, v7, v8, q1, by rw [e1]; exact q2, by rw [e2]; exact q3, by rw [e3]; exact q4, by rw [e4]; exact q5, by rw [e5]; exact q6⟩
theorem all_ok {ns : List PySem.Str} {cs cp : List Pc} {kn : List Kn} {i : Nat} (z : GsOk ns cs kn i) (hi : i ≤ 3) (hn : ns.Nodup) (hl : ns.length = 16) (s : SamL cs cp) : PgOk cp := by
  have hcl := z.len
  have hpl := s.len
  have frm : ∀ c', c' ∈ cp → ∃ c, c ∈ cs ∧ SamC c c' := fun c' hc' => by
    obtain ⟨j, hj⟩ := List.getElem?_of_mem hc'
    have h1 : j < cp.length := (List.getElem?_eq_some_iff.mp hj).1
    have h2 : j < cs.length := by omega
    exact ⟨cs[j], List.getElem_mem h2, s.at_ j _ c' (List.getElem?_eq_getElem h2) hj⟩
  have same : ∀ {α : Type} (g : Pc → α), (∀ c c', SamC c c' → g c' = g c) → cp.map g = cs.map g := fun {α} g hg => by
    refine List.ext_getElem (by rw [List.length_map, List.length_map, hpl]) fun j h1 h2 => ?_
    rw [List.getElem_map, List.getElem_map]
    rw [List.length_map] at h1 h2
    exact hg _ _ (s.at_ j _ _ (List.getElem?_eq_getElem h2) (List.getElem?_eq_getElem h1))
  refine ⟨fun c' hc' => ?_, fun c' hc' => ?_, ?_, fun c' hc' => ?_⟩
  · obtain ⟨c, hc, k⟩ := frm c' hc'
    have h := z.ok c hc
    refine ⟨by rw [k.ps]; exact h.ps, by rw [k.mv]; exact h.mv, ?_, k.ok, by rw [flatB_nr k.fl]; exact h.flat⟩
    have := congrArg List.length k.lt
    rw [List.length_map, List.length_map] at this
    have := h.lt
    omega
  · obtain ⟨c, hc, k⟩ := frm c' hc'
    rw [same Pc.kn fun c c' k => by unfold Pc.kn; rw [k.nm, k.ps, k.mv], ← z.kk]
    exact pcD_sam (pcD_of (z.ty c hc)) k
  · rw [same (fun c => c.nm) fun c c' k => k.nm]
    exact z.nd hn hl hi
  · obtain ⟨c, hc, k⟩ := frm c' hc'
    have := z.ll c hc
    rw [k.ps]
    exact ⟨z.pn c hc, by omega⟩
end SW

namespace SW
open PySem PySem.Spec PyProof.Rows L2
abbrev s_l_numbers : Stmt := topS 48
theorem sc_l_numbers : FnScope ["hand", "many", "found", "k"] ["hand", "many"] (defScope s_l_numbers) := ⟨rfl, rfl, rfl, by decide +kernel, rfl, by decide +kernel, by decide +kernel⟩

abbrev s_l_begin : Stmt := topS 49
theorem sc_l_begin : FnScope ["hand", "one", "numbers", "name", "is_list", "lists", "choices", "k"] ["hand", "one"] (defScope s_l_begin) := ⟨rfl, rfl, rfl, by decide +kernel, rfl, by decide +kernel, by decide +kernel⟩

abbrev s_l_kept : Stmt := topS 50
theorem sc_l_kept : FnScope ["before", "after", "left", "value"] ["before", "after"] (defScope s_l_kept) := ⟨rfl, rfl, rfl, by decide +kernel, rfl, by decide +kernel, by decide +kernel⟩

/-! ### what the law hands in -/
theorem hand_nei {H : Hp} {h d b : Addr} {ds zs : List Int} (hd : Hand H h d ds) (e : H b = some (.lst (zs.map V.int))) : b ≠ h := fun q => by
  obtain ⟨⟨i, e1⟩, _, _⟩ := hd
  rw [q, e1] at e
  injection e with e
  injection e with e
  cases zs with
  | nil => cases e
  | cons z r =>
    injection e with e _
    cases e
theorem hand_ner {H : Hp} {h d b : Addr} {ds : List Int} {ls : List Addr} (hd : Hand H h d ds) (e : H b = some (.lst (ls.map V.ref))) : b ≠ h := fun q => by
  obtain ⟨⟨i, e1⟩, _, _⟩ := hd
  rw [q, e1] at e
  injection e with e
  injection e with e
  match ls, e with
  | [_, z], e =>
    injection e with _ e
    injection e with e _
    cases e
section
variable {P : Program} {w : World} {K : PySem.W.Frag} {mg : PySem.Str → Option Value} {base : Heap}
def spNumbers : Sp := fun vs H Q _ => ∃ (h d : Addr) (ds : List Int) (m : Int), vs = [.ref h, .int m] ∧ Hand H h d ds ∧ 0 ≤ m ∧ m ≤ 100 ∧ ∀ (F : Addr) (zs : List Int) (H' : Hp), But h H H' → Hand H' h d ds → H F = none → H' F = some (.lst (zs.map V.int)) → zs.length = m.toNat → Q (.ref F) H'
theorem ok_l_numbers (T : TxB mg) (D_l_numbers : Df K mg "_law_numbers" s_l_numbers ["hand", "many"]) (D_l_take : Df K mg "_law_take" s_l_take ["hand", "many"]) : FnOk P w K mg base CX0 2 D_l_numbers.f D_l_numbers.fd ["hand", "many"] spNumbers := by
  have G_l_take := ok_l_take (P := P) (w := w) (K := K) (base := base) T D_l_take
  refine D_l_numbers.F.ok sc_l_numbers (fun vs H Q E h => ?_) (fun cdv A outer s H vs Q E hr h => ?_)
  · obtain ⟨h, d, ds, m, rfl, _⟩ := h
    rfl
  · obtain ⟨h, d, ds, m, rfl, hH, hm0, hm, q⟩ := h
    refine ⟨_, (pss_cons (ps_set (i := 2) sc_l_numbers.nd rfl (.inl rfl) (pe_lst pa_nil))
    (pss_cons (ps_for PassesOwn.never rfl (pi_range1 (by rfl) T.n_range (pa_cons (pv 1) pa_nil)) (pg_name (i := 3) sc_l_numbers.nd rfl (.inl rfl))
    (pss_one (ps_expr (pe_bm PySem.F.plainAttrs_list PySem.F.slot_list_append PySem.F.type_list_append mt_append (pv 2) (pa_cons (pe_ix ix_list (pe_lst (pa_cons (pe_op op_sub (pe_call G_l_take (hr.mono (by decide)) (by rfl) D_l_take.g D_l_take.F.kp D_l_take.b .nil pass0 (pa_cons (pv 0) (pa_cons pe_int pa_nil))) pe_int) (pa_cons (pe_op op_mul (pe_op op_sub (pe_call G_l_take (hr.mono (by decide)) (by rfl) D_l_take.g D_l_take.F.kp D_l_take.b .nil pass0 (pa_cons (pv 0) (pa_cons pe_int pa_nil))) pe_int) (pe_op op_pow pe_int pe_int)) pa_nil))) (pe_op op_fdiv (pe_call G_l_take (hr.mono (by decide)) (by rfl) D_l_take.g D_l_take.F.kp D_l_take.b .nil pass0 (pa_cons (pv 0) (pa_cons pe_int pa_nil))) pe_int) (fun _ _ => rfl)) pa_nil)))))
    (pss_one (ps_ret (pv 2))))), ?_⟩
    refine ⟨Nat.zero_le _, fun D nD => ?_⟩
    have hDh := hand_ne hH nD
    have hDd := hand_ne2 hH nD
    refine ⟨_, rfl, m, rfl, by omega, by omega, ?_⟩
    refine for_range (lo := 0) (n := m.toNat) (fun i σ J => ∃ y3 : Option V, σ = [some (.ref h), some (.int m), some (.ref D), y3] ∧ But h H J ∧ Hand J h d ds ∧ ∃ zs : List Int, J D = some (.lst (zs.map V.int)) ∧ zs.length = i) ⟨_, rfl, (But.refl h H).new nD, hH.upd hDh hDd, [], upd_same, rfl⟩ (fun i σ J hi hP => ?_) (fun σ J hP => ?_)
    · obtain ⟨y3, rfl, b2, h2, zs, e2, hl⟩ := hP
      refine ⟨_, rfl, .inl ⟨rfl, _, SqL.of e2⟩, ?_⟩
      refine ⟨_, rfl, h, d, ds, 6, rfl, by decide, h2, fun r3 H3 r30 r31 b3 h3 _ => ?_⟩
      refine ⟨_, _, rfl, rfl, ?_⟩
      refine ⟨_, rfl, h, d, ds, 100003, rfl, by decide, h3, fun r4 H4 r40 r41 b4 h4 _ => ?_⟩
      refine ⟨_, _, rfl, rfl, _, _, rfl, rfl, ⟨by decide, by decide⟩, _, _, rfl, rfl, ?_⟩
      refine ⟨.inl ⟨by omega, by omega⟩, ?_⟩
      refine ⟨by show (2 : Nat) ≤ sizeLine; decide, fun p np => ?_⟩
      generalize hg : upd H4 p _ = H5
      obtain ⟨s5, e5⟩ := new_of np hg
      have hp := hand_ne h4 np
      refine ⟨_, rfl, h, d, ds, 9, rfl, by decide, h4.same s5, fun r6 H6 r60 r61 b6 h6 _ => ?_⟩
      refine ⟨_, _, rfl, rfl, ⟨by decide, by decide⟩, ?_⟩
      obtain ⟨v, hv, hva⟩ := atI_in (xs := [V.int (r3 - 1), V.int ((r4 - 50000) * 10 ^ (20 : Int).toNat)]) (i := r6 / 8) (by omega) (by show r6 / 8 < 2; omega)
      obtain ⟨z, rfl⟩ : ∃ z, v = V.int z := by
        simp only [List.mem_cons, List.not_mem_nil, or_false] at hv
        rcases hv with rfl | rfl <;> exact ⟨_, rfl⟩
      have hDp : D ≠ p := fun e => by
        have := b4 _ _ hDh (b3 _ _ hDh e2)
        rw [e, np] at this
        cases this
      have e6 : H6 D = some (.lst (zs.map V.int)) := b6 _ _ hDh (s5 _ _ (b4 _ _ hDh (b3 _ _ hDh e2)))
      refine ⟨p, _, _, _, rfl, rfl, SqL.of (b6 _ _ hp e5), hva, ?_⟩
      refine ⟨D, _, _, rfl, rfl, e6, small_sz5 (by rw [List.length_map]; omega), ?_⟩
      have bb : But h H H6 := fun b o hb e => b6 _ _ hb (s5 _ _ (b4 _ _ hb (b3 _ _ hb (b2 _ _ hb e))))
      refine ⟨_, rfl, fun b o hb e => (upd_ne fun q => ?_).trans (bb b o hb e), h6.upd hDh ?_, zs ++ [z], ?_, by rw [List.length_append, hl]; rfl⟩
      · rw [q, nD] at e
        cases e
      · exact hDd
      · rw [upd_same, List.map_append]
        rfl
    · obtain ⟨y3, rfl, b2, h2, zs, e2, hl⟩ := hP
      exact ⟨_, rfl, q D zs J b2 h2 nD e2 hl⟩
def spKept (K : PySem.W.Frag) : Sp := fun vs H Q _ => ∃ (B A : Addr) (l0 l1 : List Int), vs = [.ref B, .ref A] ∧ H B = some (.lst (l0.map V.int)) ∧ H A = some (.lst (l1.map V.int)) ∧ l0.length ≤ 1000 ∧ l1.Perm l0 ∧ ∀ H', Same H H' → Q (.bl true) H'
theorem first_int {k : Int} : ∀ {ns : List Int}, k ∈ ns → ∃ j : Nat, ns[j]? = some k ∧ ∀ m : Nat, m < j → ns[m]? ≠ some k
  | n :: ns, h => by
    by_cases e : n = k
    · exact ⟨0, by rw [e]; rfl, fun m hm => absurd hm (Nat.not_lt_zero _)⟩
    · obtain ⟨j, h1, h2⟩ := first_int ((List.mem_cons.mp h).resolve_left fun h => e h.symm)
      refine ⟨j + 1, h1, fun m hm => ?_⟩
      cases m with
      | zero => exact fun h => e (Option.some.inj h)
      | succ m => exact h2 m (Nat.lt_of_succ_lt_succ hm)
theorem inV_ints {k : Int} : ∀ {ns : List Int}, k ∈ ns → inV (.int k) (ns.map V.int) = true
  | n :: ns, h => by
    show (decide ((n : Int) = k) || inV (.int k) (ns.map V.int)) = true
    rcases List.mem_cons.mp h with rfl | h
    · rw [decide_eq_true rfl]
      rfl
    · rw [inV_ints h, Bool.or_true]
theorem ok_l_kept (T : TxB mg) (D_l_kept : Df K mg "_law_kept" s_l_kept ["before", "after"]) : FnOk P w K mg base CX0 1 D_l_kept.f D_l_kept.fd ["before", "after"] (spKept K) := by
  refine D_l_kept.F.ok sc_l_kept (fun vs H Q E h => ?_) (fun cdv A outer s H vs Q E hr h => ?_)
  · obtain ⟨B, A, l0, l1, rfl, _⟩ := h
    rfl
  · obtain ⟨B, A', l0, l1, rfl, hB, hA, hl, hp, q⟩ := h
    refine ⟨_, (pss_cons (ps_set (i := 2) sc_l_kept.nd rfl (.inl rfl) (pe_callTy call_list_of (by rfl) T.n_list (by decide +kernel) (pa_cons (pv 0) pa_nil)))
    (pss_cons (ps_for PassesOwn.never rfl (pi_list (pv 1)) (pg_name (i := 3) sc_l_kept.nd rfl (.inl rfl))
    (pss_cons (ps_if (pt_cmpR op_notIn_seq (pv 3) (pv 2) (by rfl))
    (pss_one (ps_ret pe_bl))
    pss_nil)
    (pss_one (ps_expr (pe_bm PySem.F.plainAttrs_list PySem.F.slot_list_remove PySem.F.type_list_remove mt_remove (pv 2) (pa_cons (pv 3) pa_nil))))))
    (pss_one (ps_ret (pe_cmpR op_eq (pe_callB call_len_seq (by rfl) T.n_len PySem.boot_len (pa_cons (pv 2) pa_nil)) pe_int (nomark _)))))), ?_⟩
    refine ⟨_, rfl, B, _, rfl, .inl (SqL.of hB), fun L nL => ?_⟩
    have hll := hp.length_eq
    refine ⟨_, rfl, A', rfl, ⟨_, SqL.of ((upd_ne (Ne.symm (ne_of_none hA nL)).symm).trans hA)⟩, ?_⟩
    refine for_list (K := K) (a := A') (xs := l1.map V.int) (fun i σ J => Same H J ∧ ∃ (y3 : Option V) (ls : List Int), σ = [some (.ref B), some (.ref A'), some (.ref L), y3] ∧ J L = some (.lst (ls.map V.int)) ∧ (l1.drop i).Perm ls) ⟨same_new nL, _, l0, rfl, upd_same, hp⟩ (fun i σ J _ hP => SqL.of (hP.1 _ _ hA)) (fun i v σ J hv hP => ?_) (fun σ J hP => ?_)
    · obtain ⟨sJ, y3, ls, rfl, eL, pm⟩ := hP
      rw [List.getElem?_map] at hv
      obtain ⟨k, hk, rfl⟩ := Option.map_eq_some_iff.mp hv
      obtain ⟨hi, hk2⟩ := List.getElem?_eq_some_iff.mp hk
      have ed : l1.drop i = k :: l1.drop (i + 1) := by
        rw [List.drop_eq_getElem_cons hi, hk2]
      rw [ed] at pm
      have hkl : k ∈ ls := pm.mem_iff.mp List.mem_cons_self
      obtain ⟨j, hj1, hj2⟩ := first_int hkl
      refine ⟨_, rfl, _, rfl, L, _, rfl, .inl (SqL.of eL), rfl, ?_, _, rfl, ?_⟩
      · rw [List.all_map]
        exact List.all_eq_true.mpr fun _ _ => rfl
      refine ite2 (fun e => ?_) (fun _ => ?_)
      · rw [if_pos rfl, inV_ints hkl] at e
        cases e
      · refine ⟨_, rfl, .inl ⟨rfl, _, SqL.of eL⟩, _, rfl, L, ls, k, j, rfl, rfl, eL, hj1, hj2, ?_⟩
        refine ⟨same_mut sJ nL, _, _, rfl, upd_same, ?_⟩
        obtain ⟨hj, hjk⟩ := List.getElem?_eq_some_iff.mp hj1
        have h2 : (k :: ls.eraseIdx j).Perm ls := by
          rw [List.eraseIdx_eq_take_drop_succ]
          have h3 : ls = ls.take j ++ k :: ls.drop (j + 1) := by
            have := List.drop_eq_getElem_cons hj
            rw [hjk] at this
            rw [← this, List.take_append_drop]
          exact List.perm_middle.symm.trans (.of_eq h3.symm)
        exact (pm.trans h2.symm).cons_inv
    · obtain ⟨sJ, y3, ls, rfl, eL, pm⟩ := hP
      rw [List.length_map, List.drop_length] at pm
      obtain rfl := List.nil_perm.mp pm
      exact ⟨_, rfl, L, _, rfl, .inl (SqL.of eL), rfl, q _ sJ⟩
end
end SW

namespace SW
open PySem PySem.Spec PyProof.Rows L2
section
variable {P : Program} {w : World} {K : PySem.W.Frag} {mg : PySem.Str → Option Value} {base : Heap}
theorem Hand.sqt {H H' : Hp} {h d b : Addr} {ds : List Int} {xs : List V} (a : Hand H h d ds) (s : But h H H') (hs : SqT K H b xs) : SqT K H' b xs := by
  obtain ⟨⟨i, e⟩, _, _⟩ := a
  exact Op_sqt e s hs
def spBeg (K : PySem.W.Frag) : Sp := fun vs H Q _ => ∃ (h d : Addr) (ds : List Int) (one : V) (c : Pc), vs = [.ref h, one] ∧ Hand H h d ds ∧ PtAt K H one c ∧ c.ps.length ≤ 20 ∧ ∀ (R N L C : Addr) (zs hs : List Int) (ls : List Addr) (H' : Hp), But h H H' → Hand H' h d ds → H' R = some (.lst [.ref N, .ref L, .ref C]) → H' N = some (.lst (zs.map V.int)) → zs.length = (numN c.ps).length → H' L = some (.lst (ls.map V.ref)) → ls.length = (lnm c.ps).length →
  (∀ l, l ∈ ls → ∃ l0 : List Int, H' l = some (.lst (l0.map V.int)) ∧ l0.length ≤ 100) → H' C = some (.lst (hs.map V.int)) → hs.length ≤ 1000 → Q (.ref R) H'
theorem ok_l_begin (T : TxB mg) (D_l_begin : Df K mg "_law_begin" s_l_begin ["hand", "one"]) (D_l_numbers : Df K mg "_law_numbers" s_l_numbers ["hand", "many"]) (D_l_take : Df K mg "_law_take" s_l_take ["hand", "many"]) : FnOk P w K mg base CX0 3 D_l_begin.f D_l_begin.fd ["hand", "one"] (spBeg K) := by
  have G_l_take := ok_l_take (P := P) (w := w) (K := K) (base := base) T D_l_take
  have G_l_numbers := ok_l_numbers (P := P) (w := w) (K := K) (base := base) T D_l_numbers D_l_take
  refine D_l_begin.F.ok sc_l_begin (fun vs H Q E h => ?_) (fun cdv A outer s H vs Q E hr h => ?_)
  · obtain ⟨h, d, ds, one, c, rfl, _⟩ := h
    rfl
  · obtain ⟨h, d, ds, one, c, rfl, hH, pt, hpl, q⟩ := h
    refine ⟨_, (pss_cons (ps_set (i := 2) sc_l_begin.nd rfl (.inl rfl) (pe_call G_l_numbers (hr.mono (by decide)) (by rfl) D_l_numbers.g D_l_numbers.F.kp D_l_numbers.b .nil pass0 (pa_cons (pv 0) (pa_cons (pe_callB call_len_seq (by rfl) T.n_len PySem.boot_len (pa_cons (pe_lc (own := [("name", 3), ("is_list", 4)]) (g := gTup K 2 (gCons (gName 3) (gCons (gName 4) gNil))) (by rfl) sc_l_begin.nd (pi_tup (pe_ix ix_tup (pv 1) pe_int (fun _ _ => rfl))) (blkOk_by (own := [("name", 3), ("is_list", 4)]) (N := ["hand", "one", "numbers", "name", "is_list", "lists", "choices", "k"]) (sc := defScope s_l_begin) (by decide +kernel)) (fun _ _ _ _ _ => pg_tup rfl (pgs_cons (pg_name (i := 3) sc_l_begin.nd rfl (Or.inl rfl)) (pgs_cons (pg_name (i := 4) sc_l_begin.nd rfl (Or.inl rfl)) pgs_nil))) (fun _ _ _ _ _ => pts_one (pt_not (pt_val (pv 4)))) (fun _ _ _ _ _ => (pv 3))) pa_nil)) pa_nil))))
    (pss_cons (ps_set (i := 5) sc_l_begin.nd rfl (.inl rfl) (pe_lst pa_nil))
    (pss_cons (ps_for PassesOwn.never rfl (pi_tup (pe_ix ix_tup (pv 1) pe_int (fun _ _ => rfl))) (pg_tup (by rfl) (pgs_cons (pg_name (i := 3) sc_l_begin.nd rfl (.inl rfl)) (pgs_cons (pg_name (i := 4) sc_l_begin.nd rfl (.inl rfl)) pgs_nil)))
    (pss_one (ps_if (pt_val (pv 4))
    (pss_one (ps_expr (pe_bm PySem.F.plainAttrs_list PySem.F.slot_list_append PySem.F.type_list_append mt_append (pv 5) (pa_cons (pe_call G_l_numbers (hr.mono (by decide)) (by rfl) D_l_numbers.g D_l_numbers.F.kp D_l_numbers.b .nil pass0 (pa_cons (pv 0) (pa_cons (pe_ix ix_list (pe_lst (pa_cons pe_int (pa_cons pe_int (pa_cons pe_int (pa_cons pe_int (pa_cons pe_int (pa_cons pe_int (pa_cons pe_int pa_nil)))))))) (pe_call G_l_take (hr.mono (by decide)) (by rfl) D_l_take.g D_l_take.F.kp D_l_take.b .nil pass0 (pa_cons (pv 0) (pa_cons pe_int pa_nil))) (fun _ _ => rfl)) pa_nil))) pa_nil))))
    pss_nil)))
    (pss_cons (ps_setLc (i := 6) (own := [("k", 7)]) (g := gName 7) (by rfl) sc_l_begin.nd rfl rfl (sw_true rfl rfl rfl (by decide +kernel)) (pi_range1 (by rfl) T.n_range (pa_cons (pe_call G_l_take (hr.mono (by decide)) (by rfl) D_l_take.g D_l_take.F.kp D_l_take.b .nil pass0 (pa_cons (pv 0) (pa_cons pe_int pa_nil))) pa_nil)) (blkOk_by (own := [("k", 7)]) (N := ["hand", "one", "numbers", "name", "is_list", "lists", "choices", "k"]) (sc := defScope s_l_begin) (by decide +kernel)) (fun _ _ _ _ _ => pg_name (i := 7) sc_l_begin.nd rfl (Or.inl rfl)) (fun _ _ _ _ _ => pts_nil) (fun _ _ _ _ _ => (pe_ix (show IxR _ (rIxL K) from ix_list) (pe_lst (pa_cons (pe_op op_sub (pe_call G_l_take (hr.mono (by decide)) (by rfl) D_l_take.g D_l_take.F.kp D_l_take.b .nil pass0 (pa_cons (pv 0) (pa_cons pe_int pa_nil))) pe_int) (pa_cons (pe_op op_mul (pe_op op_sub (pe_call G_l_take (hr.mono (by decide)) (by rfl) D_l_take.g D_l_take.F.kp D_l_take.b .nil pass0 (pa_cons (pv 0) (pa_cons pe_int pa_nil))) pe_int) (pe_op op_pow pe_int pe_int)) pa_nil))) (pe_op op_fdiv (pe_call G_l_take (hr.mono (by decide)) (by rfl) D_l_take.g D_l_take.F.kp D_l_take.b .nil pass0 (pa_cons (pv 0) (pa_cons pe_int pa_nil))) pe_int) (fun _ _ => rfl))))
    (pss_one (ps_ret (pe_lst (pa_cons (pv 2) (pa_cons (pv 5) (pa_cons (pv 6) pa_nil)))))))))), ?_⟩
    obtain ⟨t, v0, v2, v3, v4, v5, v6, v7, v8, rfl, ht, d2, d5, d7, d8⟩ := pt.ex
    obtain ⟨tp, us, rfl, htp, hus⟩ := dp_tup_inv (show Dp K H v2 (.tuple (c.ps.map encP)) from d2)
    have hul : us.length = c.ps.length := by rw [dpa_len hus, List.length_map]
    have hnl : ∀ i, ((c.ps.take i).filter fun x => !x.2).length ≤ 20 := fun i => by
      refine Nat.le_trans (List.length_filter_le _ _) ?_
      rw [List.length_take]
      omega
    refine ⟨_, rfl, _, rfl, t, _, _, _, rfl, rfl, ht, atI_nat (j := 2) rfl, tp, rfl, ⟨_, htp⟩, fun F nF => ?_⟩
    refine lc_tup (K := K) (a := tp) (xs := us) (fun i G => Same H G ∧ G F = some (.lst ((((c.ps.take i).filter fun x => !x.2).map Prod.fst).map V.str))) ⟨same_new nF, upd_same⟩ (fun i G _ hP => sqt_same hP.1 htp) (fun i v G hv hP => ?_) (fun G hP => ?_)
    · obtain ⟨sG, eF⟩ := hP
      have hi : i < c.ps.length := by
        rw [← hul]
        exact (List.getElem?_eq_some_iff.mp hv).1
      obtain ⟨v', g1, d1⟩ := dp_mem hus hi
      rw [hv] at g1
      cases g1
      obtain ⟨t2, w1, w2, rfl, ht2, e2, e3⟩ := dp_inv2 (d1.same sG)
      cases dp_str_inv e2
      cases dp_bool_inv e3
      have hll := hnl i
      refine ⟨t2, _, rfl, ht2, rfl, _, _, rfl, _, _, rfl, rfl, rfl, _, rfl, _, rfl, ite2 (fun e => ?_) (fun e => ?_)⟩
      · refine ⟨_, rfl, _, eF, small_sz5 (by rw [List.length_map, List.length_map]; omega), same_mut sG nF, ?_⟩
        rw [upd_same, List.take_succ_eq_append_getElem hi, List.filter_append, List.filter_cons, if_pos e, List.map_append, List.map_append]
        rfl
      · refine ⟨sG, ?_⟩
        rw [List.take_succ_eq_append_getElem hi, List.filter_append, List.filter_cons, if_neg e]
        show G F = some (.lst (((_ ++ []).map Prod.fst).map V.str))
        rw [List.append_nil]
        exact eF
    · obtain ⟨sG, eF⟩ := hP
      rw [List.take_of_length_le (by omega)] at eF
      have hnn := hnl c.ps.length
      rw [List.take_of_length_le (Nat.le_refl _)] at hnn
      refine ⟨F, _, rfl, .inl (SqL.of eF), h, d, ds, _, rfl, hH.same sG, by omega, by rw [List.length_map, List.length_map]; omega, fun N zs H1 b1 h1 nN eN hzl => ?_⟩
      have bH1 : But h H H1 := fun b o hb e => b1 b o hb (sG b o e)
      refine ⟨Nat.zero_le _, fun L nL => ?_⟩
      have hLh := hand_ne h1 nL
      have hLd := hand_ne2 h1 nL
      have s2 : Same H1 (upd H1 L (.lst [])) := same_new nL
      refine ⟨_, rfl, t, _, _, _, rfl, rfl, sqt_same s2 (hH.sqt bH1 ht), atI_nat (j := 2) rfl, tp, rfl, ⟨_, sqt_same s2 (hH.sqt bH1 htp)⟩, ?_⟩
      have nNL : N ≠ L := fun e => by rw [e, nL] at eN; cases eN
      refine for_tup (K := K) (a := tp) (xs := us) (fun i σ J => ∃ (y3 y4 : Option V) (ls : List Addr), σ = [some (.ref h), some (.ref t), some (.ref N), y3, y4, some (.ref L), none, none] ∧ But h H1 J ∧ Hand J h d ds ∧ J L = some (.lst (ls.map V.ref)) ∧ ls.length = ((c.ps.take i).filter fun x => x.2).length ∧ (∀ l, l ∈ ls → l ≠ L ∧ ∃ l0 : List Int, J l = some (.lst (l0.map V.int)) ∧ l0.length ≤ 100)) ⟨_, _, [], rfl, Same.but s2, h1.same s2, upd_same, rfl, fun _ h => (by cases h)⟩ (fun i σ J _ hP => ?_) (fun i v σ J hv hP => ?_) (fun σ J hP => ?_)
      · obtain ⟨y3, y4, ls, rfl, b2, _⟩ := hP
        exact hH.sqt (fun b o hb e => b2 b o hb (bH1 b o hb e)) htp
      · obtain ⟨y3, y4, ls, rfl, b2, h2, eL, hll, hls⟩ := hP
        have bHJ : But h H J := fun b o hb e => b2 b o hb (bH1 b o hb e)
        have hi : i < c.ps.length := by
          rw [← hul]
          exact (List.getElem?_eq_some_iff.mp hv).1
        obtain ⟨v', g1, dd⟩ := dp_mem hus hi
        rw [hv] at g1
        cases g1
        obtain ⟨t2, w1, w2, rfl, ht2, e2, e3⟩ := dp_inv2 (hH.dp bHJ rfl dd)
        cases dp_str_inv e2
        cases dp_bool_inv e3
        have htk : c.ps.take (i + 1) = c.ps.take i ++ [c.ps[i]] := List.take_succ_eq_append_getElem hi
        have hl20 : ls.length ≤ 20 := by
          rw [hll]
          refine Nat.le_trans (List.length_filter_le _ _) ?_
          rw [List.length_take]
          omega
        refine ⟨t2, _, rfl, ht2, rfl, _, _, rfl, _, _, rfl, rfl, _, rfl, _, rfl, ite2 (fun e => ?_) (fun e => ?_)⟩
        · refine ⟨_, rfl, .inl ⟨rfl, _, SqL.of eL⟩, ?_⟩
          refine ⟨_, rfl, by show (7 : Nat) ≤ sizeLine; decide, fun p np => ?_⟩
          generalize hg : upd J p _ = J2
          obtain ⟨s3, e4⟩ := new_of np hg
          have hp := hand_ne h2 np
          refine ⟨_, rfl, h, d, ds, 7, rfl, by decide, h2.same s3, fun r3 H3 r30 r31 b3 h3 _ => ?_⟩
          obtain ⟨m, hm, hma⟩ := atI_in (xs := [V.int 0, V.int 1, V.int 2, V.int 3, V.int 4, V.int 5, V.int 5]) (i := r3) r30 (by show r3 < 7; exact r31)
          obtain ⟨m, rfl, hm0, hm5⟩ : ∃ m' : Int, m = V.int m' ∧ 0 ≤ m' ∧ m' ≤ 5 := by
            simp only [List.mem_cons, List.not_mem_nil, or_false] at hm
            rcases hm with rfl | rfl | rfl | rfl | rfl | rfl | rfl <;> exact ⟨_, rfl, by decide, by decide⟩
          refine ⟨p, _, _, _, rfl, rfl, SqL.of (b3 _ _ hp e4), hma, ?_⟩
          refine ⟨h, d, ds, m, rfl, h3, hm0, by omega, fun l l0 H4 b4 h4 nl el hl0 => ?_⟩
          have eL4 : H4 L = some (.lst (ls.map V.ref)) := b4 _ _ hLh (b3 _ _ hLh (s3 _ _ eL))
          have lL : l ≠ L := fun e => by
            rw [e, b3 _ _ hLh (s3 _ _ eL)] at nl
            cases nl
          refine ⟨L, _, _, rfl, rfl, eL4, small_sz5 (by rw [List.length_map]; omega), ?_⟩
          have b14 : But h H1 H4 := fun b o hb e => b4 _ _ hb (b3 _ _ hb (s3 _ _ (b2 _ _ hb e)))
          refine ⟨_, _, ls ++ [l], rfl, fun b o hb e => (upd_ne fun q => ?_).trans (b14 b o hb e), h4.upd hLh hLd, ?_, ?_, fun l' hl' => ?_⟩
          · rw [q, nL] at e
            cases e
          · rw [upd_same, List.map_append]
            rfl
          · rw [htk, List.filter_append, List.filter_cons, if_pos e, List.length_append, List.length_append, hll]
            rfl
          · rcases List.mem_append.mp hl' with hl' | hl'
            · obtain ⟨k1, l2, k2, k3⟩ := hls l' hl'
              have lh : l' ≠ h := hand_nei h2 k2
              exact ⟨k1, l2, (upd_ne k1).trans (b4 _ _ lh (b3 _ _ lh (s3 _ _ k2))), k3⟩
            · rw [List.mem_singleton.mp hl']
              exact ⟨lL, l0, (upd_ne lL).trans el, by omega⟩
        · refine ⟨_, _, ls, rfl, b2, h2, eL, ?_, hls⟩
          rw [htk, List.filter_append, List.filter_cons, if_neg e, hll]
          show _ = (_ ++ []).length
          rw [List.append_nil]
      · obtain ⟨y3, y4, ls, rfl, b2, h2, eL, hll, hls⟩ := hP
        rw [List.take_of_length_le (by omega)] at hll
        have eNJ := b2 _ _ (hand_nei h1 eN) eN
        refine ⟨_, rfl, h, d, ds, 6, rfl, by decide, h2, fun r3 H3 r30 r31 b3 h3 _ => ?_⟩
        refine ⟨_, rfl, by omega, by omega, fun C nC => ?_⟩
        have hCh := hand_ne h3 nC
        have hCd := hand_ne2 h3 nC
        refine lc_range (lo := 0) (n := r3.toNat) (fun i G => But h H3 G ∧ Hand G h d ds ∧ ∃ hs : List Int, G C = some (.lst (hs.map V.int)) ∧ hs.length = i) ⟨Same.but (same_new nC), h3.upd hCh hCd, [], upd_same, rfl⟩ (fun i G hi hP => ?_) (fun G hP => ?_)
        · obtain ⟨b4, h4, hs, eC, hhl⟩ := hP
          refine ⟨rfl, ?_⟩
          refine ⟨_, rfl, h, d, ds, 9, rfl, by decide, h4, fun r5 H5 r50 r51 b5 h5 _ => ?_⟩
          refine ⟨_, _, rfl, rfl, ?_⟩
          refine ⟨_, rfl, h, d, ds, 100003, rfl, by decide, h5, fun r6 H6 r60 r61 b6 h6 _ => ?_⟩
          refine ⟨_, _, rfl, rfl, _, _, rfl, rfl, ⟨by decide, by decide⟩, _, _, rfl, rfl, ?_⟩
          refine ⟨.inl ⟨by omega, by omega⟩, ?_⟩
          refine ⟨by show (2 : Nat) ≤ sizeLine; decide, fun p np => ?_⟩
          generalize hg : upd H6 p _ = H7
          obtain ⟨s7, e7⟩ := new_of np hg
          have hp := hand_ne h6 np
          refine ⟨_, rfl, h, d, ds, 9, rfl, by decide, h6.same s7, fun r8 H8 r80 r81 b8 h8 _ => ?_⟩
          refine ⟨_, _, rfl, rfl, ⟨by decide, by decide⟩, ?_⟩
          obtain ⟨v, hv, hva⟩ := atI_in (xs := [V.int (r5 - 3), V.int ((r6 - 50000) * 10 ^ (20 : Int).toNat)]) (i := r8 / 8) (by omega) (by show r8 / 8 < 2; omega)
          obtain ⟨z, rfl⟩ : ∃ z, v = V.int z := by
            simp only [List.mem_cons, List.not_mem_nil, or_false] at hv
            rcases hv with rfl | rfl <;> exact ⟨_, rfl⟩
          have e8 : H8 C = some (.lst (hs.map V.int)) := b8 _ _ hCh (s7 _ _ (b6 _ _ hCh (b5 _ _ hCh eC)))
          refine ⟨p, _, _, _, rfl, rfl, SqL.of (b8 _ _ hp e7), hva, ?_⟩
          refine ⟨_, e8, small_sz5 (by rw [List.length_map]; omega), ?_⟩
          have bb : But h H3 H8 := fun b o hb e => b8 _ _ hb (s7 _ _ (b6 _ _ hb (b5 _ _ hb (b4 _ _ hb e))))
          refine ⟨fun b o hb e => (upd_ne fun q => ?_).trans (bb b o hb e), h8.upd hCh hCd, hs ++ [z], ?_, by rw [List.length_append, hhl]; rfl⟩
          · rw [q, nC] at e
            cases e
          · rw [upd_same, List.map_append]
            rfl
        · obtain ⟨b4, h4, hs, eC, hhl⟩ := hP
          have hLh2 := hand_ner h2 eL
          have bJG : But h J G := fun b o hb e => b4 _ _ hb (b3 _ _ hb e)
          refine ⟨_, rfl, _, rfl, _, rfl, by show (3 : Nat) ≤ sizeLine; decide, fun R nR => ?_⟩
          have sR : Same G (upd G R (.lst [.ref N, .ref L, .ref C])) := same_new nR
          refine q R N L C zs hs ls _ (fun b o hb e => sR _ _ (bJG b o hb (b2 b o hb (bH1 b o hb e)))) (h4.same sR) upd_same (sR _ _ (bJG _ _ (hand_nei h1 eN) eNJ)) ?_ (sR _ _ (bJG _ _ hLh2 eL)) ?_ (fun l hl => ?_) (sR _ _ eC) (by omega)
          · rw [hzl, List.length_map, List.length_map]
            unfold numN
            rw [List.length_map]
            omega
          · rw [hll]
            unfold lnm
            rw [List.length_map]
          · obtain ⟨_, l0, k2, k3⟩ := hls l hl
            exact ⟨l0, sR _ _ (bJG _ _ (hand_nei h2 k2) k2), k3⟩
end
end SW

set_option maxHeartbeats 8000000
namespace SW
open PySem PySem.Spec PyProof.Rows L2
abbrev s_law : Stmt := topS 51
theorem sc_law : FnScope ["script", "hand", "n", "parts", "program", "one", "step", "numbers", "lists", "choices", "handed", "row", "run", "names", "name", "is_list", "at"] ["script"] (defScope s_law) := ⟨rfl, rfl, rfl, by decide +kernel, rfl, by decide +kernel, by decide +kernel⟩

theorem kit_tup {K : PySem.W.Frag} : PySem.W.kitOne K (.type "tuple") (.type "tuple") = some true := kit_ty (by decide +kernel)
theorem kit_lst {K : PySem.W.Frag} : PySem.W.kitOne K (.type "list") (.type "list") = some true := kit_ty (by decide +kernel)
theorem sqt_ty {K : PySem.W.Frag} {H : Hp} {a : Addr} {xs : List V} (h : SqT K H a xs) : TyX K H (.ref a) (.type "tuple") := by
  rcases h with (h | ⟨o, h⟩) | ⟨o, its, n, h1, h2, _⟩
  · exact .base (.tup h)
  · exact .fTuple h
  · exact .kTuple h1 h2
section
variable {P : Program} {w : World} {K : PySem.W.Frag} {mg : PySem.Str → Option Value} {base : Heap} {CP CG pp gg CS CU CL CF CM pq gq aA : Addr}
theorem PgAt.but {H H' : Hp} {pg h : Addr} {cs : List Pc} {us : List V} (p : PgAt K CP CG H pg cs) (hl : H h = some (.lst us)) (b : But h H H') (ok : ∀ c, c ∈ cs → c.ok) : PgAt K CP CG H' pg cs := by
  have m := but_m (K := K) hl b
  have ni : ∀ {u C dx : Addr} {fs : List (PySem.Str × V)}, H u = some (.ins C dx fs) → u ≠ h := fun {u C dx fs} e q => by
    rw [q, hl] at e
    cases e
  obtain ⟨dx, t, h1, h2⟩ := p.ex
  refine ⟨⟨dx, t, b _ _ (ni h1) h1, m _ _ h2⟩, fun c hc => ?_⟩
  obtain ⟨dc, v0, v2, v3, v4, v5, v6, v7, v8, g1, g2, g3, g4, g5⟩ := (p.at_ c hc).ex
  exact ⟨dc, v0, v2, v3, v4, v5, v6, v7, v8, b _ _ (ni g1) g1, dp_tups m _ _ (psE_nl _) g2, dp_tups m _ _ (strs_noL _) g3, dp_tups m _ _ (ltE_noL _) g4, dp_tups m _ _ (noL_blk (ok c hc).body) g5⟩
theorem ints_inj {l l' : List Int} (h : l.map V.int = l'.map V.int) : l = l' := by
  have := congrArg (fun l : List V => l.map fun v => match v with | V.int i => i | _ => 0) h
  simpa [List.map_map, Function.comp_def] using this
/-- the classes' defs -/
structure CkAll (K : PySem.W.Frag) (CP CG CS CU CL CF CM gg gq : Addr) where
  fault : CkM K CM "fault" "Machine.fault" s_Machine_fault ["self", "row", "kind"]
  choice : CkM K CM "choice" "Machine.choice" s_Machine_choice ["self"]
  begin_ : CkM K CM "begin" "Machine.begin" s_Machine_begin ["self", "procedure", "numbers", "lists", "target"]
  finish : CkM K CM "finish" "Machine.finish" s_Machine_finish ["self", "value"]
  go : CkM K CM "go" "Machine.go" s_Machine_go ["self"]
  step : CkM K CM "step" "Machine.step" s_Machine_step ["self"]
  enter : CkM K CF "enter" "Frame.enter" s_Frame_enter ["self", "block"]
  called : CkM K CG "called" "Program.called" s_called ["self", "name"]
  Place : CkI K CL "Place.__init__" s_Place ["self", "block"]
  Frame : CkI K CF "Frame.__init__" s_Frame ["self", "state", "target", "body"]
  State : CkI K CS "State.__init__" s_State ["self", "numbers", "lists", "old"]
  Machine : CkI K CM "Machine.__init__" s_Machine ["self", "program", "choices", "steps"]
  Run : CkI K CU "Run.__init__" s_Run ["self", "outcome", "lists", "turns"]
  P : CkI K CP "Procedure.__init__" s_Procedure prP
  G : CkI K CG "Program.__init__" s_Program ["self", "procedures"]
  fdl : FuncData
  Fl : Fun K "list_names" "Procedure.list_names" s_list_names gg fdl
  bl : Binds K fdl ["self"] []
  fdn : FuncData
  Fn : Fun K "number_names" "Procedure.number_names" s_number_names gq fdn
  bn : Binds K fdn ["self"] []
def spLaw (K : PySem.W.Frag) : Sp := fun vs H Q _ => ∃ (a : Addr) (ns : List Int), vs = [.ref a] ∧ SqL K H a (ns.map V.int) ∧ ns.length ≤ 63 ∧ ∀ H', Q (.bl true) H'
theorem ok_law (T : TxA K mg CP CG pp gg CS CU CL CF CM pq gq aA) (TR : TxR K mg CS) (c : CkAll K CP CG CS CU CL CF CM gg gq) (D_law : Df K mg "law" s_law ["script"]) (D_run_program : DfK K mg "run_program" s_run_program ["program", "name", "numbers", "lists", "choices", "steps"] 5 ["steps"]) (D_value_of : Df K mg "value_of" s_value_of ["term", "state"]) (D_cells_of : Df K mg "_cells_of" s_cells_of ["which", "state"]) (D_compares : Df K mg "compares" s_compares ["sign", "left", "right"]) (D_answer : Df K mg "_answer" s_answer ["condition", "state"]) (D_set : Df K mg "_set" s_set ["machine", "frame", "statement"]) (D_put : Df K mg "_put" s_put ["machine", "frame", "statement"]) (D_swap : Df K mg "_swap" s_swap ["machine", "frame", "statement"]) (D_choose : Df K mg "_choose" s_choose ["machine", "frame", "statement"]) (D_call : Df K mg "_call" s_call ["machine", "frame", "statement"]) (D_check : Df K mg "_check" s_check ["machine", "frame", "statement"]) (D_return : Df K mg "_return" s_return ["machine", "frame", "statement"]) (D_skip : Df K mg "_skip" s_skip ["machine", "frame", "statement"]) (D_if : Df K mg "_if" s_if ["machine", "frame", "statement"]) (D_while : Df K mg "_while" s_while ["machine", "frame", "statement"]) (D_l_draws : Df K mg "_law_draws" s_l_draws ["script", "many"]) (D_l_take : Df K mg "_law_take" s_l_take ["hand", "many"]) (D_l_names : Df K mg "_law_names" s_l_names ["hand"]) (D_l_rows : Df K mg "_law_rows" s_l_rows ["block", "row"]) (D_l_parts : Df K mg "_law_parts" s_l_parts ["procs"]) (D_l_made : Df K mg "_law_made" s_l_made ["one"]) (D_l_program : Df K mg "_law_program" s_l_program ["parts"]) (D_l_gen : Df K mg "_law_gen" s_l_gen ["hand", "n", "moved"]) (D_l_gen_block : Df K mg "_law_gen_block" s_l_gen_block ["hand", "ctx", "depth", "whiles", "many", "budget"]) (D_l_gen_simple : Df K mg "_law_gen_simple" s_l_gen_simple ["hand", "ctx"]) (D_l_gen_call : Df K mg "_law_gen_call" s_l_gen_call ["hand", "ctx"]) (D_l_gen_condition : Df K mg "_law_gen_condition" s_l_gen_condition ["hand", "ctx"]) (D_l_gen_cmp : Df K mg "_law_gen_cmp" s_l_gen_cmp ["hand", "ctx"]) (D_l_gen_term : Df K mg "_law_gen_term" s_l_gen_term ["hand", "ctx"]) (D_l_gen_index : Df K mg "_law_gen_index" s_l_gen_index ["hand", "ctx", "name"]) (D_l_gen_plain : Df K mg "_law_gen_plain" s_l_gen_plain ["hand", "ctx"]) (D_l_numbers : Df K mg "_law_numbers" s_l_numbers ["hand", "many"]) (D_l_begin : Df K mg "_law_begin" s_l_begin ["hand", "one"]) (D_l_kept : Df K mg "_law_kept" s_l_kept ["before", "after"])
    (A : AcS K w aA D_set.f D_put.f D_swap.f D_choose.f D_call.f D_check.f D_return.f D_skip.f D_if.f D_while.f) : FnOk P w K mg base CX0 26 D_law.f D_law.fd ["script"] (spLaw K) := by
  have G_step := ok_step (P := P) (w := w) (base := base) c.step.F T D_set D_put D_swap D_choose D_call D_check D_return D_skip D_if D_while A
    (ok_set T.toTxM TR c.fault D_value_of D_cells_of D_set) (ok_put T.toTxM TR c.fault D_value_of D_cells_of D_put) (ok_swap T.toTxM TR c.fault D_value_of D_cells_of D_swap) (ok_choose T.toTxM TR c.fault c.choice D_value_of D_cells_of D_choose)
    (ok_call T.toTxN TR c.fault c.begin_ c.called c.Place c.Frame c.State c.Fl c.bl c.Fn c.bn D_value_of D_cells_of D_call) (ok_check T.toTxM TR c.fault D_value_of D_cells_of D_compares D_answer D_check) (ok_return T.toTxM TR c.fault c.finish D_value_of D_cells_of D_return) (ok_skip D_skip)
    (ok_if T.toTxM TR c.fault c.Place c.enter D_value_of D_cells_of D_compares D_answer D_if) (ok_while T.toTxM TR c.fault c.Place c.enter D_value_of D_cells_of D_compares D_answer D_while)
  have G_go := ok_go (P := P) (w := w) (base := base) c.go.F T c.step.M G_step c.step.b
  have G_run_program := ok_run (P := P) (w := w) (base := base) T TR c.fault c.begin_ c.go c.called c.Place c.Frame c.State c.Machine c.Run c.Fl c.bl c.Fn c.bn G_go D_value_of D_cells_of D_run_program
  have G_l_draws := ok_l_draws (P := P) (w := w) (K := K) (base := base) T.toTxB D_l_draws
  have G_l_take := ok_l_take (P := P) (w := w) (K := K) (base := base) T.toTxB D_l_take
  have G_l_names := ok_l_names (P := P) (w := w) (K := K) (base := base) T.toTxB D_l_names D_l_take
  have G_l_gen := ok_l_gen (P := P) (w := w) (base := base) T.toTxB D_l_gen D_l_gen_block D_l_gen_simple D_l_gen_call D_l_gen_condition D_l_gen_cmp D_l_gen_term D_l_gen_index D_l_gen_plain D_l_take
  have G_l_parts := ok_l_parts (P := P) (w := w) (base := base) T.toTxB D_l_parts D_l_rows
  have G_l_program := ok_l_program (P := P) (w := w) (base := base) T.toTxQ c.P c.G D_l_program D_l_made
  have G_l_begin := ok_l_begin (P := P) (w := w) (base := base) T.toTxB D_l_begin D_l_numbers D_l_take
  have G_l_kept := ok_l_kept (P := P) (w := w) (K := K) (base := base) T.toTxB D_l_kept
  refine D_law.F.ok sc_law (fun vs H Q E h => ?_) (fun cdv A0 outer s H vs Q E hr h => ?_)
  · obtain ⟨a, ns, rfl, _⟩ := h
    rfl
  · obtain ⟨a, ns, rfl, hS, hn, q⟩ := h
    refine ⟨_, (pss_cons (ps_set (i := 1) sc_law.nd rfl (.inl rfl) (pe_lst (pa_cons (pe_call G_l_draws (hr.mono (by decide)) (by rfl) D_l_draws.g D_l_draws.F.kp D_l_draws.b .nil pass0 (pa_cons (pv 0) (pa_cons pe_int pa_nil))) (pa_cons pe_int pa_nil))))
    (pss_cons (ps_set (i := 2) sc_law.nd rfl (.inl rfl) (pe_call G_l_names (hr.mono (by decide)) (by rfl) D_l_names.g D_l_names.F.kp D_l_names.b .nil pass0 (pa_cons (pv 1) pa_nil)))
    (pss_cons (ps_set (i := 3) sc_law.nd rfl (.inl rfl) (pe_call G_l_parts (hr.mono (by decide)) (by rfl) D_l_parts.g D_l_parts.F.kp D_l_parts.b .nil pass0 (pa_cons (pe_call G_l_gen (hr.mono (by decide)) (by rfl) D_l_gen.g D_l_gen.F.kp D_l_gen.b .nil pass0 (pa_cons (pv 1) (pa_cons (pv 2) (pa_cons (pe_ix ix_list (pe_lst (pa_cons pe_int (pa_cons pe_int (pa_cons pe_int pa_nil)))) (pe_call G_l_take (hr.mono (by decide)) (by rfl) D_l_take.g D_l_take.F.kp D_l_take.b .nil pass0 (pa_cons (pv 1) (pa_cons pe_int pa_nil))) (fun _ _ => rfl)) pa_nil)))) pa_nil)))
    (pss_cons (ps_set (i := 4) sc_law.nd rfl (.inl rfl) (pe_call G_l_program (hr.mono (by decide)) (by rfl) D_l_program.g D_l_program.F.kp D_l_program.b .nil pass0 (pa_cons (pv 3) pa_nil)))
    (pss_cons (ps_for PassesOwn.never rfl (pi_list (pv 3)) (pg_name (i := 5) sc_law.nd rfl (.inl rfl))
    (pss_one (ps_for PassesOwn.never rfl (pi_range1 (by rfl) T.n_range (pa_cons pe_int pa_nil)) (pg_name (i := 6) sc_law.nd rfl (.inl rfl))
    (pss_cons (ps_asg (pe_call G_l_begin (hr.mono (by decide)) (by rfl) D_l_begin.g D_l_begin.F.kp D_l_begin.b .nil pass0 (pa_cons (pv 1) (pa_cons (pv 5) pa_nil))) (pg_lst (by rfl) (pgs_cons (pg_name (i := 7) sc_law.nd rfl (.inl rfl)) (pgs_cons (pg_name (i := 8) sc_law.nd rfl (.inl rfl)) (pgs_cons (pg_name (i := 9) sc_law.nd rfl (.inl rfl)) pgs_nil)))))
    (pss_cons (ps_setLc (i := 10) (own := [("row", 11)]) (g := gName 11) (by rfl) sc_law.nd rfl rfl (sw_true rfl rfl rfl (by decide +kernel)) (pi_list (pv 8)) (blkOk_by (own := [("row", 11)]) (N := ["script", "hand", "n", "parts", "program", "one", "step", "numbers", "lists", "choices", "handed", "row", "run", "names", "name", "is_list", "at"]) (sc := defScope s_law) (by decide +kernel)) (fun _ _ _ _ _ => pg_name (i := 11) sc_law.nd rfl (Or.inl rfl)) (fun _ _ _ _ _ => pts_nil) (fun _ _ _ _ _ => (pe_callTy (show CallR _ (.type "list") (rListK K) from call_list_of) (by rfl) T.n_list (by decide +kernel) (pa_cons (pv 11) pa_nil))))
    (pss_cons (ps_set (i := 12) sc_law.nd rfl (.inl rfl) (pe_callN G_run_program (hr.mono (by decide)) (by rfl) D_run_program.g D_run_program.F.kp D_run_program.kb pass0 (pa_cons (pv 4) (pa_cons (pe_ix ix_tup (pv 5) pe_int (fun _ _ => rfl)) (pa_cons (pv 7) (pa_cons (pv 10) (pa_cons (pv 9) pa_nil))))) (pk_cons (pe_call G_l_take (hr.mono (by decide)) (by rfl) D_l_take.g D_l_take.F.kp D_l_take.b .nil pass0 (pa_cons (pv 1) (pa_cons pe_int pa_nil))) pk_nil)))
    (pss_cons (ps_if (PW.pt (pw_or (pt_not (pt_val (pe_callB call_isi (by rfl) T.n_isinstance (by decide +kernel) (pa_cons (pe_fld (pv 12) rfl) (pa_cons (pe_bltn (v := .ty "tuple") (u := .type "tuple") (by rfl) T.n_tuple (by decide +kernel) rfl) pa_nil))))) (pw_or (pt_not (pt_val (pe_callB call_isi (by rfl) T.n_isinstance (by decide +kernel) (pa_cons (pe_fld (pv 12) rfl) (pa_cons (pe_bltn (v := .ty "list") (u := .type "list") (by rfl) T.n_list (by decide +kernel) rfl) pa_nil))))) (pw_or1 (pt_cmpR op_ne (pe_callB call_len_seq (by rfl) T.n_len PySem.boot_len (pa_cons (pe_fld (pv 12) rfl) pa_nil)) (pe_callB call_len_seq (by rfl) T.n_len PySem.boot_len (pa_cons (pv 8) pa_nil)) (nomark _))))))
    (pss_one (ps_ret pe_bl))
    pss_nil)
    (pss_cons (ps_if (pt_cmpR op_ne (pe_ix ix_tup (pe_fld (pv 12) rfl) pe_int (fun _ _ => rfl)) pe_str (nomark _))
    (pss_one ps_continue)
    pss_nil)
    (pss_cons (ps_setLc (i := 13) (own := [("name", 14), ("is_list", 15)]) (g := gTup K 2 (gCons (gName 14) (gCons (gName 15) gNil))) (by rfl) sc_law.nd rfl rfl (sw_true rfl rfl rfl (by decide +kernel)) (pi_tup (pe_ix ix_tup (pv 5) pe_int (fun _ _ => rfl))) (blkOk_by (own := [("name", 14), ("is_list", 15)]) (N := ["script", "hand", "n", "parts", "program", "one", "step", "numbers", "lists", "choices", "handed", "row", "run", "names", "name", "is_list", "at"]) (sc := defScope s_law) (by decide +kernel)) (fun _ _ _ _ _ => pg_tup rfl (pgs_cons (pg_name (i := 14) sc_law.nd rfl (Or.inl rfl)) (pgs_cons (pg_name (i := 15) sc_law.nd rfl (Or.inl rfl)) pgs_nil))) (fun _ _ _ _ _ => pts_one (pt_val (pv 15))) (fun _ _ _ _ _ => (pv 14)))
    (pss_one (ps_for PassesOwn.never rfl (pi_range1 (by rfl) T.n_range (pa_cons (pe_callB call_len_seq (by rfl) T.n_len PySem.boot_len (pa_cons (pv 13) pa_nil)) pa_nil)) (pg_name (i := 16) sc_law.nd rfl (.inl rfl))
    (pss_cons (ps_if (PW.pt (pw_and (pt_cmpR op_in_seq (pe_ix ix_list (pv 13) (pv 16) (fun _ _ => rfl)) (pe_ix ix_tup (pv 5) pe_int (fun _ _ => rfl)) (by rfl)) (pw_and1 (pt_not (pt_val (pe_call G_l_kept (hr.mono (by decide)) (by rfl) D_l_kept.g D_l_kept.F.kp D_l_kept.b .nil pass0 (pa_cons (pe_ix ix_list (pv 8) (pv 16) (fun _ _ => rfl)) (pa_cons (pe_ix ix_list (pe_fld (pv 12) rfl) (pv 16) (fun _ _ => rfl)) pa_nil))))))))
    (pss_one (ps_ret pe_bl))
    pss_nil)
    (pss_one (ps_if (pt_cmpR op_ne (pe_callB call_len_seq (by rfl) T.n_len PySem.boot_len (pa_cons (pe_ix ix_list (pe_fld (pv 12) rfl) (pv 16) (fun _ _ => rfl)) pa_nil)) (pe_callB call_len_seq (by rfl) T.n_len PySem.boot_len (pa_cons (pe_ix ix_list (pv 8) (pv 16) (fun _ _ => rfl)) pa_nil)) (nomark _))
    (pss_one (ps_ret pe_bl))
    pss_nil))))))))))))))
    (pss_one (ps_ret pe_bl))))))), ?_⟩
    refine ⟨_, rfl, a, ns, 500, rfl, hS, by omega, by decide, fun D ds H1 s1 nD eD => ⟨by show 2 ≤ sizeLine; decide, fun h nh => ?_⟩⟩
    generalize hG2 : upd H1 h _ = H2
    obtain ⟨s2, e2⟩ := new_of nh hG2
    have hd2 : Hand H2 h D ds := ⟨⟨0, e2⟩, s2 _ _ eD, ne_of_none eD nh⟩
    refine ⟨_, rfl, h, D, ds, rfl, hd2, fun N nm H3 b3 hd3 eN n16 nnd => ?_⟩
    refine ⟨_, rfl, _, rfl, by show 3 ≤ sizeLine; decide, fun tm nt => ?_⟩
    generalize hG4 : upd H3 tm _ = H4
    obtain ⟨s4, e4⟩ := new_of nt hG4
    refine ⟨_, rfl, h, D, ds, 3, rfl, by decide, hd3.same s4, fun r5 H5 r50 r51 b5 hd5 _ => ?_⟩
    obtain ⟨v5, hv5, ev5⟩ := atI_in (xs := [.int 1, .int 2, .int 4]) (i := r5) r50 (by show _ < (3 : Int); omega)
    obtain ⟨mv, rfl, hmv⟩ : ∃ mv : Int, v5 = .int mv ∧ 0 ≤ mv := by
      simp only [List.mem_cons, List.not_mem_nil, or_false] at hv5
      rcases hv5 with rfl | rfl | rfl <;> exact ⟨_, rfl, by decide⟩
    have hNh : N ≠ h := by
      obtain ⟨⟨i, e⟩, _, _⟩ := hd3
      intro e9
      rw [e9, e] at eN
      exact strs_ne (HO.lst.inj (Option.some.inj eN)).symm
    refine ⟨tm, _, _, _, rfl, rfl, SqL.of (b5 _ _ (hand_ne hd3 nt) e4), ev5, h, D, N, ds, nm, mv, rfl, hd5, b5 _ _ hNh (s4 _ _ eN), n16, nnd, hmv, fun Ap ps cs kn i H6 b6 hd6 eAp pq hi gs => ?_⟩
    have hcl := gs.len
    refine ⟨Ap, ps, cs, rfl, eAp, pq, gs.ok, by omega, fun M ys cs' H7 s7 eM pt sm => ?_⟩
    have hyl : ys.length ≤ 3 := by
      have h1 := pt.len
      have h2 := sm.len
      omega
    have cok' : ∀ c, c ∈ cs' → c.ok := (all_ok gs hi nnd n16 sm).ok
    refine ⟨_, rfl, M, ys, cs', rfl, eM, pt, cok', by omega, fun pg cp H8 s8 pga tr => ?_⟩
    have sm2 := sm.trip tr
    have al := all_ok gs hi nnd n16 sm2
    have pt8 := (pt.trip tr).same s8
    have eM8 := s8 _ _ eM
    have hd8 : Hand H8 h D ds := (hd6.same s7).same s8
    refine ⟨_, rfl, M, rfl, ⟨_, SqL.of eM8⟩, ?_⟩
    clear pt sm sm2 gs pq eAp hd6 b6 ev5 hv5 cok' b3 b5 hd2 hd3 hd5
    have hMh : M ≠ h := fun e => by
      obtain ⟨⟨j, e1⟩, _, _⟩ := hd8
      rw [e, e1] at eM8
      have e2 := HO.lst.inj (Option.some.inj eM8)
      have h1 : ys[1]? = some (.int (j : Nat)) := by rw [← e2]; rfl
      have h3 := pt8.len
      have h2 : 1 < cp.length := by
        rw [← h3, ← e2]
        exact Nat.lt_succ_self 1
      obtain ⟨t, v0, v2, v3, v4, v5, v6, v7, v8, q1, _⟩ := (pt8.at_ 1 _ _ h1 (List.getElem?_eq_getElem h2)).ex
      cases q1
    refine for_list (K := K) (a := M) (xs := ys) (fun i σ J => But h H8 J ∧ Hand J h D ds ∧ ∃ y5 y6 y7 y8 y9 y10 y11 y12 y13 y14 y15 y16 : Option V, σ = [some (.ref a), some (.ref h), some (.ref N), some (.ref M), some (.ref pg), y5, y6, y7, y8, y9, y10, y11, y12, y13, y14, y15, y16]) ⟨fun b o _ e => e, hd8, _, _, _, _, _, _, _, _, _, _, _, _, rfl⟩ (fun i σ J _ hP => SqL.of (hP.1 _ _ hMh eM8)) (fun i v σ J hv hP => ?_) (fun σ J hP => ?_)
    · obtain ⟨bJ, hdJ, y5, y6, y7, y8, y9, y10, y11, y12, y13, y14, y15, y16, rfl⟩ := hP
      have hiy : i < ys.length := (List.getElem?_eq_some_iff.mp hv).1
      have hic : i < cp.length := by
        have := pt8.len
        omega
      have hc := List.getElem?_eq_getElem hic
      have hcm := List.getElem_mem hic
      have pto := pt8.at_ i v _ hv hc
      generalize cp[i] = c1 at pto hcm hc
      refine ⟨_, rfl, by decide, by decide, ?_⟩
      refine for_range (lo := 0) (n := 3) (fun k σ G => But h H8 G ∧ Hand G h D ds ∧ ∃ y7 y8 y9 y10 y11 y12 y13 y14 y15 y16 y6 : Option V, σ = [some (.ref a), some (.ref h), some (.ref N), some (.ref M), some (.ref pg), some v, y6, y7, y8, y9, y10, y11, y12, y13, y14, y15, y16]) ⟨bJ, hdJ, _, _, _, _, _, _, _, _, _, _, _, rfl⟩ (fun k σ G hk hP => ?_) (fun σ G hP => ?_)
      · obtain ⟨bG, hdG, y7, y8, y9, y10, y11, y12, y13, y14, y15, y16, y6, rfl⟩ := hP
        have ptG : PtAt K G v c1 := by
          obtain ⟨⟨j, e0⟩, _, _⟩ := hd8
          exact pto.but e0 bG (al.ok c1 hcm).body
        obtain ⟨pn1, pn2⟩ := al.pn c1 hcm
        refine ⟨_, rfl, _, rfl, h, D, ds, v, c1, rfl, hdG, ptG, pn2, fun R N2 L C zs hs ls G1 b1 hd1 eR eN1 hzl eL hll hls eC hhl => ?_⟩
        refine ⟨R, _, rfl, SqL.of eR, rfl, _, _, rfl, _, _, rfl, _, _, rfl, rfl, ?_⟩
        have bG1 : But h H8 G1 := fun b o hb e => b1 b o hb (bG b o hb e)
        have hll2 : (lnm c1.ps).length ≤ 20 := by
          unfold lnm
          rw [List.length_map]
          exact Nat.le_trans (List.length_filter_le _ _) pn2
        refine ⟨_, rfl, L, rfl, ⟨_, SqL.of eL⟩, fun F nF => ?_⟩
        refine lc_list (K := K) (a := L) (xs := ls.map V.ref) (fun i J => Same G1 J ∧ ∃ hz : List Addr, J F = some (.lst (hz.map V.ref)) ∧ hz.length = i ∧ (∀ z, z ∈ hz → z ≠ F) ∧ ∀ (j : Nat) (l z : Addr), ls[j]? = some l → hz[j]? = some z → ∃ l0 : List Int, G1 l = some (.lst (l0.map V.int)) ∧ J z = some (.lst (l0.map V.int)) ∧ l0.length ≤ 100) ⟨same_new nF, [], upd_same, rfl, fun _ h => (by cases h), fun _ _ _ _ h => (by cases h)⟩ (fun i J _ hP => SqL.of (hP.1 _ _ eL)) (fun i v J hv hP => ?_) (fun J hP => ?_)
        · obtain ⟨sJ, hz, eF, hzl, hzF, hza⟩ := hP
          rw [List.getElem?_map] at hv
          obtain ⟨l, hl, rfl⟩ := Option.map_eq_some_iff.mp hv
          have hi : i < ls.length := (List.getElem?_eq_some_iff.mp hl).1
          obtain ⟨l0, e0, z0⟩ := hls l (List.mem_of_getElem? hl)
          refine ⟨rfl, _, rfl, l, _, rfl, .inl (SqL.of (sJ _ _ e0)), fun z nz => ?_⟩
          have zF : z ≠ F := fun e => by rw [e, eF] at nz; cases nz
          refine ⟨_, (upd_ne (Ne.symm zF)).trans eF, small_sz5 (by rw [List.length_map]; omega), ?_⟩
          refine ⟨same_mut (sJ.trans (same_new nz)) nF, hz ++ [z], ?_, by rw [List.length_append, hzl]; rfl, fun u hu => ?_, fun j l' z' h1 h2 => ?_⟩
          · rw [upd_same, List.map_append]
            rfl
          · rcases List.mem_append.mp hu with hu | hu
            · exact hzF u hu
            · rw [List.mem_singleton.mp hu]
              exact zF
          · by_cases hj : j < hz.length
            · rw [List.getElem?_append_left hj] at h2
              obtain ⟨l1, e1, e2, e3⟩ := hza j l' z' h1 h2
              refine ⟨l1, e1, (upd_ne (hzF z' (List.mem_of_getElem? h2))).trans ((upd_ne fun e => ?_).trans e2), e3⟩
              rw [e, nz] at e2
              cases e2
            · have hj2 : j = hz.length := by
                have := (List.getElem?_eq_some_iff.mp h2).1
                rw [List.length_append] at this
                have : j < hz.length + 1 := this
                omega
              rw [hj2, List.getElem?_append_right (Nat.le_refl _), Nat.sub_self] at h2
              cases h2
              rw [hj2, hzl, hl] at h1
              cases h1
              exact ⟨l0, e0, (upd_ne zF).trans upd_same, z0⟩
        · obtain ⟨sJ, hz, eF, hzl2, hzF, hza⟩ := hP
          rw [List.length_map] at hzl2
          have hdJ2 := hd1.same sJ
          obtain ⟨⟨j0, eh8⟩, _, _⟩ := id hd8
          have bJ2 : But h H8 J := fun b o hb e => sJ _ _ (bG1 b o hb e)
          obtain ⟨t1, v0, v2, v3, v4, v5, v6, v7, v8, rfl, ht1, d2, d5, d7, d8⟩ := (pto.but eh8 bJ2 (al.ok c1 hcm).body).ex
          refine ⟨_, rfl, _, rfl, t1, _, _, _, rfl, rfl, ht1, atI_nat (j := 1) rfl, _, rfl, _, rfl, _, rfl, ?_⟩
          refine ⟨_, rfl, h, D, ds, 91, rfl, by decide, hdJ2, fun st G2 st0 st1 b2 hdG2 _ => ⟨rfl, rfl, ?_⟩⟩
          have bG2 : But h H8 G2 := fun b o hb e => b2 b o hb (bJ2 b o hb e)
          have pgG2 : PgAt K CP CG G2 pg cp := pga.but eh8 bG2 al.ok
          refine ⟨pg, N2, F, C, st, cp, c1, zs, hs, hz, rfl, pgG2, al, hcm, b2 _ _ (hand_nei hd1 eN1) (sJ _ _ eN1), hzl, b2 _ _ (hand_ner hdJ2 eF) eF, by omega, fun l hl => ?_, b2 _ _ (hand_nei hd1 eC) (sJ _ _ eC), hhl, by omega, fun R2 dR t3 D3 T3 z us zs' G3 s3 nR2 eR2 et3 eD3 rn => ?_⟩
          · obtain ⟨j, hj, e⟩ := List.mem_iff_getElem.mp hl
            obtain ⟨l0, _, e2, e3⟩ := hza j (ls[j]'(by omega)) l (List.getElem?_eq_getElem (by omega)) (by rw [List.getElem?_eq_getElem hj, e])
            exact ⟨l0, b2 _ _ (hand_nei hdJ2 e2) e2, e3⟩
          · have tR : Same G2 G3 := s3
            refine ⟨_, rfl, R2, CU, dR, _, _, rfl, eR2, T.cRun, T.nRun_outcome, ruF_outcome _ _ _, _, _, _, _, true, rfl, .ty "tuple", sqt_ty et3, kit_tup, _, rfl, iteF ?_⟩
            have eL3 : G3 L = some (.lst (ls.map V.ref)) := s3 _ _ (b2 _ _ (hand_ner hd1 eL) (sJ _ _ eL))
            have rnl := rn.len
            refine ⟨_, rfl, R2, CU, dR, _, _, rfl, eR2, T.cRun, T.nRun_lists, ruF_lists _ _ _, _, _, _, _, true, rfl, .ty "list", .base (.lst eD3), kit_lst, _, rfl, iteF ?_⟩
            refine ⟨_, rfl, R2, CU, dR, _, _, rfl, eR2, T.cRun, T.nRun_lists, ruF_lists _ _ _, D3, _, rfl, .inl (SqL.of eD3), _, rfl, L, _, rfl, .inl (SqL.of eL3), ?_⟩
            refine ⟨rfl, _, rfl, ite2 (fun e => ?_) (fun _ => ?_)⟩
            · rw [decide_eq_true (by rw [List.length_map, List.length_map, rnl, hzl2])] at e
              cases e
            refine ⟨_, rfl, R2, CU, dR, _, _, rfl, eR2, T.cRun, T.nRun_outcome, ruF_outcome _ _ _, t3, _, _, _, rfl, rfl, et3, atI_nat (j := 0) rfl, ?_⟩
            have hb3 : But h H8 G3 := fun b o hb e => s3 _ _ (bG2 b o hb e)
            have hd3 := hdG2.same s3
            refine ⟨rfl, _, rfl, ite2 (fun e => ⟨hb3, hd3, _, _, _, _, _, _, _, _, _, _, _, rfl⟩) (fun _ => ?_)⟩
            have ht3 := sqt_same s3 (hdJ2.sqt b2 ht1)
            have d2' := (hdJ2.dp b2 (psE_nl _) d2).same s3
            have d5' := (hdJ2.dp b2 (strs_noL _) d5).same s3
            obtain ⟨tp, us2, rfl, htp, hus⟩ := dp_tup_inv (show Dp K G3 v2 (.tuple (c1.ps.map encP)) from d2')
            have hul : us2.length = c1.ps.length := by rw [dpa_len hus, List.length_map]
            refine ⟨_, rfl, t1, _, _, _, rfl, rfl, ht3, atI_nat (j := 2) rfl, tp, rfl, ⟨_, htp⟩, fun F2 nF2 => ?_⟩
            refine lc_tup (K := K) (a := tp) (xs := us2) (fun i J => Same G3 J ∧ J F2 = some (.lst ((lnm (c1.ps.take i)).map V.str))) ⟨same_new nF2, upd_same⟩ (fun i J _ hP => sqt_same hP.1 htp) (fun i v J hv hP => ?_) (fun G4 hP => ?_)
            · obtain ⟨sJ, eF2⟩ := hP
              have hi : i < c1.ps.length := by
                rw [← hul]
                exact (List.getElem?_eq_some_iff.mp hv).1
              obtain ⟨v', g1, d1⟩ := dp_mem hus hi
              rw [hv] at g1
              cases g1
              obtain ⟨t2, w1, w2, rfl, ht2, e2, e3⟩ := dp_inv2 (d1.same sJ)
              cases dp_str_inv e2
              cases dp_bool_inv e3
              have hll3 : (lnm (c1.ps.take i)).length ≤ 20 := by
                unfold lnm
                rw [List.length_map]
                refine Nat.le_trans (List.length_filter_le _ _) ?_
                rw [List.length_take]
                omega
              refine ⟨t2, _, rfl, ht2, rfl, _, _, rfl, _, _, rfl, rfl, rfl, _, rfl, _, rfl, ite2 (fun e => ?_) (fun e => ?_)⟩
              · refine ⟨_, rfl, _, eF2, small_sz5 (by rw [List.length_map]; omega), same_mut sJ nF2, ?_⟩
                unfold lnm
                rw [upd_same, List.take_succ_eq_append_getElem hi, List.filter_append, List.filter_cons, if_pos e, List.map_append, List.map_append]
                rfl
              · refine ⟨sJ, ?_⟩
                unfold lnm
                rw [List.take_succ_eq_append_getElem hi, List.filter_append, List.filter_cons, if_neg e]
                show J F2 = some (.lst (((_ ++ []).map Prod.fst).map V.str))
                rw [List.append_nil]
                exact eF2
            · obtain ⟨s4, eF2⟩ := hP
              rw [List.take_of_length_le (by omega)] at eF2
              have lnl : (lnm c1.ps).length = ls.length := hll.symm
              refine ⟨_, rfl, F2, _, rfl, .inl (SqL.of eF2), _, rfl, by rw [List.length_map]; omega, by rw [List.length_map]; omega, ?_⟩
              have h43 : Same G3 G4 := s4
              obtain ⟨tm2, ws2, rfl, htm2, hws2⟩ := dp_tup_inv d5'
              obtain rfl := dpa_strs_inv hws2
              have hb4 : But h H8 G4 := fun b o hb e => s4 _ _ (hb3 b o hb e)
              refine for_range (lo := 0) (n := ((((lnm c1.ps).map V.str).length : Nat) : Int).toNat) (fun k2 σ J => Same G4 J ∧ ∃ y16 : Option V, σ = [some (.ref a), some (.ref h), some (.ref N), some (.ref M), some (.ref pg), some (.ref t1), some (.int (0 + (k : Nat))), some (.ref N2), some (.ref L), some (.ref C), some (.ref F), y11, some (.ref R2), some (.ref F2), y14, y15, y16]) ⟨.refl _, _, rfl⟩ (fun k2 σ J hk2 hP => ?_) (fun σ J hP => ?_)
              · obtain ⟨sJ4, y16, rfl⟩ := hP
                have hk3 : k2 < (lnm c1.ps).length := by
                  rw [List.length_map] at hk2
                  omega
                have hy := List.getElem?_eq_getElem hk3
                generalize (lnm c1.ps)[k2] = y at hy
                have s3J := s4.trans sJ4
                have hkl : k2 < ls.length := by omega
                have hkz : k2 < zs'.length := by omega
                have hkh : k2 < hz.length := by omega
                have hl := List.getElem?_eq_getElem hkl
                have hz' := List.getElem?_eq_getElem hkz
                have hh := List.getElem?_eq_getElem hkh
                obtain ⟨l0, e6, e7, e8⟩ := hza k2 _ _ hl hh
                obtain ⟨l2, l1, e9, e10, e11, e12⟩ := rn.at_ k2 _ _ hh hz'
                have e7' := b2 _ _ (hand_nei hdJ2 e7) e7
                rw [e9] at e7'
                have hll4 : l2 = l0 := ints_inj (HO.lst.inj (Option.some.inj e7'))
                subst hll4
                have eA : J (ls[k2]) = some (.lst (l2.map V.int)) := s3J _ _ (s3 _ _ (b2 _ _ (hand_nei hd1 e6) (sJ _ _ e6)))
                have eB : J (zs'[k2]) = some (.lst (l1.map V.int)) := s3J _ _ e10
                have eLJ := s3J _ _ eL3
                have eDJ := s3J _ _ eD3
                have hlr : (ls.map V.ref)[k2]? = some (.ref ls[k2]) := by rw [List.getElem?_map, hl]; rfl
                have hzr : (zs'.map V.ref)[k2]? = some (.ref zs'[k2]) := by rw [List.getElem?_map, hz']; rfl
                refine ⟨_, rfl, _, rfl, F2, _, _, .str y, rfl, rfl, SqL.of (sJ4 _ _ eF2), at_nat (j := k2) (Int.zero_add _) (by rw [List.getElem?_map, hy]; rfl), ?_⟩
                refine ⟨_, rfl, t1, _, _, _, rfl, rfl, sqt_same s3J ht3, atI_nat (j := 5) rfl, tm2, _, rfl, .inr (sqt_same s3J htm2), rfl, ?_, _, rfl, ite2 (fun e => ?_) (fun e => ?_)⟩
                · rw [List.all_map]
                  exact List.all_eq_true.mpr fun _ _ => rfl
                · have hym := in_of e
                  refine ⟨_, rfl, _, rfl, L, _, _, .ref ls[k2], rfl, rfl, SqL.of eLJ, at_nat (j := k2) (Int.zero_add _) hlr, _, rfl, R2, CU, dR, _, _, rfl, s3J _ _ eR2, T.cRun, T.nRun_lists, ruF_lists _ _ _, _, rfl, D3, _, _, .ref zs'[k2], rfl, rfl, SqL.of eDJ, at_nat (j := k2) (Int.zero_add _) hzr, ?_⟩
                  refine ⟨_, _, l2, l1, rfl, eA, eB, by omega, e12 y hy hym, fun J5 sK => ?_⟩
                  refine ⟨_, rfl, iteF ?_⟩
                  refine ⟨_, rfl, R2, CU, dR, _, _, rfl, (s3J.trans sK) _ _ eR2, T.cRun, T.nRun_lists, ruF_lists _ _ _, _, rfl, D3, _, _, .ref zs'[k2], rfl, rfl, SqL.of (sK _ _ eDJ), at_nat (j := k2) (Int.zero_add _) hzr, zs'[k2], _, rfl, .inl (SqL.of (sK _ _ eB)), _, rfl, _, rfl, L, _, _, .ref ls[k2], rfl, rfl, SqL.of (sK _ _ eLJ), at_nat (j := k2) (Int.zero_add _) hlr, ls[k2], _, rfl, .inl (SqL.of (sK _ _ eA)), ?_⟩
                  refine ⟨rfl, _, rfl, ite2 (fun e5 => ?_) (fun _ => ?_)⟩
                  · rw [decide_eq_true (by rw [List.length_map, List.length_map, e11])] at e5
                    cases e5
                  · exact ⟨sJ4.trans sK, _, rfl⟩
                · refine ⟨_, rfl, R2, CU, dR, _, _, rfl, s3J _ _ eR2, T.cRun, T.nRun_lists, ruF_lists _ _ _, _, rfl, D3, _, _, .ref zs'[k2], rfl, rfl, SqL.of (eDJ), at_nat (j := k2) (Int.zero_add _) hzr, zs'[k2], _, rfl, .inl (SqL.of (eB)), _, rfl, _, rfl, L, _, _, .ref ls[k2], rfl, rfl, SqL.of (eLJ), at_nat (j := k2) (Int.zero_add _) hlr, ls[k2], _, rfl, .inl (SqL.of (eA)), ?_⟩
                  refine ⟨rfl, _, rfl, ite2 (fun e5 => ?_) (fun _ => ?_)⟩
                  · rw [decide_eq_true (by rw [List.length_map, List.length_map, e11])] at e5
                    cases e5
                  · exact ⟨sJ4, _, rfl⟩
              · obtain ⟨sJ4, y16, rfl⟩ := hP
                exact ⟨fun b o hb e => sJ4 _ _ (hb4 b o hb e), (hd3.same s4).same sJ4, _, _, _, _, _, _, _, _, _, _, _, rfl⟩
      · obtain ⟨bG, hdG, y7, y8, y9, y10, y11, y12, y13, y14, y15, y16, y6, rfl⟩ := hP
        exact ⟨bG, hdG, _, _, _, _, _, _, _, _, _, _, _, _, rfl⟩
    · obtain ⟨bJ, hdJ, y5, y6, y7, y8, y9, y10, y11, y12, y13, y14, y15, y16, rfl⟩ := hP
      exact q _
end
end SW

namespace SW
open PySem PySem.Spec PyProof.Rows L2
/-! ### makers (printed by K11NG.py) -/
theorem txq_mk {K : PySem.W.Frag} {h : Heap} {mg : PySem.Str → Option Value} {CP CG p g : Addr} (X : K.In h) (G : h.Ns mainGlobals mg) (B : TxB mg)
    (aP : PySem.W.nsIn K mainGlobals "Procedure" = some (some (.ref CP))) (aG : PySem.W.nsIn K mainGlobals "Program" = some (some (.ref CG)))
    (cP : Cls K CP) (cG : Cls K CG)
    (n0 : PySem.W.findIn K (.ref CP) "row" = some none) (n1 : PySem.W.findIn K (.ref CP) "name" = some none) (n2 : PySem.W.findIn K (.ref CP) "parameters" = some none) (n3 : PySem.W.findIn K (.ref CP) "needs" = some none) (n4 : PySem.W.findIn K (.ref CP) "gives" = some none) (n5 : PySem.W.findIn K (.ref CP) "moves" = some none) (n6 : PySem.W.findIn K (.ref CP) "falls" = some none) (n7 : PySem.W.findIn K (.ref CP) "lets" = some none) (n8 : PySem.W.findIn K (.ref CP) "body" = some none)
    (m0 : PySem.W.findIn K (.ref CG) "procedures" = some none) (pr : PropOf K CP "list_names" p g) : TxQ K mg CP CG p g :=
  { toTxB := B, cp := cP, a0 := n0, a1 := n1, a2 := n2, a3 := n3, a4 := n4, a5 := n5, a6 := n6, a7 := n7, a8 := n8, pr := pr, mg_Procedure := PySem.W.mg_of X G aP, cl := cG, b0 := m0, mg_Program := PySem.W.mg_of X G aG }
theorem cls_mk {K : PySem.W.Frag} {C : Addr} (p1 : PySem.W.plainGet K C Str.empty = true) (p2 : PySem.W.hasDictIn K C = true) (p3 : PySem.W.plainOver K C = true) (p4 : PySem.W.findIn K (.ref C) "__setattr__" = some (some (.builtin "object.__setattr__"))) : Cls K C := ⟨p1, p2, p3, p4⟩
theorem prop_mk {K : PySem.W.Frag} {C p g : Addr} {x : PySem.Str} {rest : List Value} (q1 : PySem.W.findIn K (.ref C) x = some (some (.ref p))) (q2 : PySem.W.specialIn K (.ref p) "__get__" = some (some (.builtin "property.__get__"))) (q3 : PySem.W.takesIn K (.ref p) = some true) (q4 : PySem.W.recIn K p "property" = some (.ref g :: rest)) : PropOf K C x p g := ⟨q1, q2, q3, ⟨rest, q4⟩⟩
theorem txr_mk {K : PySem.W.Frag} {mg : PySem.Str → Option Value} {CP CG p g CS CU CL CF CM : Addr} (T : TxM K mg CP CG p g CS CU CL CF CM) : TxR K mg CS := { toTxB := T.toTxB, cs := T.cState, s0 := T.nState_numbers, s1 := T.nState_lists, s2 := T.nState_old }
theorem txa_mk {K : PySem.W.Frag} {h : Heap} {mg : PySem.Str → Option Value} {CP CG p g CS CU CL CF CM pq gq aA : Addr} (X : K.In h) (G : h.Ns mainGlobals mg) (Q : TxQ K mg CP CG p g)
    (cState : Cls K CS) (mState : PySem.W.nsIn K mainGlobals "State" = some (some (.ref CS))) (nState_numbers : PySem.W.findIn K (.ref CS) "numbers" = some none) (nState_lists : PySem.W.findIn K (.ref CS) "lists" = some none) (nState_old : PySem.W.findIn K (.ref CS) "old" = some none)
    (cRun : Cls K CU) (mRun : PySem.W.nsIn K mainGlobals "Run" = some (some (.ref CU))) (nRun_outcome : PySem.W.findIn K (.ref CU) "outcome" = some none) (nRun_lists : PySem.W.findIn K (.ref CU) "lists" = some none) (nRun_turns : PySem.W.findIn K (.ref CU) "turns" = some none)
    (cPlace : Cls K CL) (mPlace : PySem.W.nsIn K mainGlobals "Place" = some (some (.ref CL))) (nPlace_block : PySem.W.findIn K (.ref CL) "block" = some none) (nPlace_at : PySem.W.findIn K (.ref CL) "at" = some none) (nPlace_loop : PySem.W.findIn K (.ref CL) "loop" = some none)
    (cFrame : Cls K CF) (mFrame : PySem.W.nsIn K mainGlobals "Frame" = some (some (.ref CF))) (nFrame_state : PySem.W.findIn K (.ref CF) "state" = some none) (nFrame_target : PySem.W.findIn K (.ref CF) "target" = some none) (nFrame_places : PySem.W.findIn K (.ref CF) "places" = some none)
    (cMachine : Cls K CM) (mMachine : PySem.W.nsIn K mainGlobals "Machine" = some (some (.ref CM))) (nMachine_program : PySem.W.findIn K (.ref CM) "program" = some none) (nMachine_choices : PySem.W.findIn K (.ref CM) "choices" = some none) (nMachine_chosen : PySem.W.findIn K (.ref CM) "chosen" = some none) (nMachine_steps : PySem.W.findIn K (.ref CM) "steps" = some none) (nMachine_frames : PySem.W.findIn K (.ref CM) "frames" = some none) (nMachine_turns : PySem.W.findIn K (.ref CM) "turns" = some none) (nMachine_outcome : PySem.W.findIn K (.ref CM) "outcome" = some none)
    (pn : PropOf K CP "number_names" pq gq) (am : PySem.W.nsIn K mainGlobals "ACTIONS" = some (some (.ref aA))) : TxA K mg CP CG p g CS CU CL CF CM pq gq aA :=
  { toTxQ := Q, cState := cState, mg_State := PySem.W.mg_of X G mState, nState_numbers := nState_numbers, nState_lists := nState_lists, nState_old := nState_old, cRun := cRun, mg_Run := PySem.W.mg_of X G mRun, nRun_outcome := nRun_outcome, nRun_lists := nRun_lists, nRun_turns := nRun_turns, cPlace := cPlace, mg_Place := PySem.W.mg_of X G mPlace, nPlace_block := nPlace_block, nPlace_at := nPlace_at, nPlace_loop := nPlace_loop, cFrame := cFrame, mg_Frame := PySem.W.mg_of X G mFrame, nFrame_state := nFrame_state, nFrame_target := nFrame_target, nFrame_places := nFrame_places, cMachine := cMachine, mg_Machine := PySem.W.mg_of X G mMachine, nMachine_program := nMachine_program, nMachine_choices := nMachine_choices, nMachine_chosen := nMachine_chosen, nMachine_steps := nMachine_steps, nMachine_frames := nMachine_frames, nMachine_turns := nMachine_turns, nMachine_outcome := nMachine_outcome, pn := pn, m_ACTIONS := PySem.W.mg_of X G am }
def ck_fault {K : PySem.W.Frag} {C f : Addr} {oc : Value} {od an : Option Addr} {sl : Array (Option Value)} {kV doc pm cd ct : Value}
    (a : PySem.W.findIn K (.ref C) "fault" = some (some (.ref f))) (i : PySem.W.isFn K (.ref f) = true) (l : K.lookup f = some ⟨oc, od, .func (PySem.W.fnOf "fault" "Machine.fault" (defArgs s_Machine_fault) (defBody s_Machine_fault) (defScope s_Machine_fault) .none kV doc pm an cd ct), sl⟩) (c : PySem.W.codeIn K cd "Machine.fault" = true) (k : PySem.W.keepIn K (.ref f) = true) : CkM K C "fault" "Machine.fault" s_Machine_fault ["self", "row", "kind"] :=
  ⟨f, _, fun_mk (st := s_Machine_fault) l c k, (fun_mk (st := s_Machine_fault) l c k).binds (ps := ["self", "row", "kind"]) fun _ _ _ _ _ _ us hl => match us, hl with | [_, _, _], _ => rfl, ⟨a, i, k⟩⟩
def ck_choice {K : PySem.W.Frag} {C f : Addr} {oc : Value} {od an : Option Addr} {sl : Array (Option Value)} {kV doc pm cd ct : Value}
    (a : PySem.W.findIn K (.ref C) "choice" = some (some (.ref f))) (i : PySem.W.isFn K (.ref f) = true) (l : K.lookup f = some ⟨oc, od, .func (PySem.W.fnOf "choice" "Machine.choice" (defArgs s_Machine_choice) (defBody s_Machine_choice) (defScope s_Machine_choice) .none kV doc pm an cd ct), sl⟩) (c : PySem.W.codeIn K cd "Machine.choice" = true) (k : PySem.W.keepIn K (.ref f) = true) : CkM K C "choice" "Machine.choice" s_Machine_choice ["self"] :=
  ⟨f, _, fun_mk (st := s_Machine_choice) l c k, (fun_mk (st := s_Machine_choice) l c k).binds (ps := ["self"]) fun _ _ _ _ _ _ us hl => match us, hl with | [_], _ => rfl, ⟨a, i, k⟩⟩
def ck_begin_ {K : PySem.W.Frag} {C f : Addr} {oc : Value} {od an : Option Addr} {sl : Array (Option Value)} {kV doc pm cd ct : Value}
    (a : PySem.W.findIn K (.ref C) "begin" = some (some (.ref f))) (i : PySem.W.isFn K (.ref f) = true) (l : K.lookup f = some ⟨oc, od, .func (PySem.W.fnOf "begin" "Machine.begin" (defArgs s_Machine_begin) (defBody s_Machine_begin) (defScope s_Machine_begin) .none kV doc pm an cd ct), sl⟩) (c : PySem.W.codeIn K cd "Machine.begin" = true) (k : PySem.W.keepIn K (.ref f) = true) : CkM K C "begin" "Machine.begin" s_Machine_begin ["self", "procedure", "numbers", "lists", "target"] :=
  ⟨f, _, fun_mk (st := s_Machine_begin) l c k, (fun_mk (st := s_Machine_begin) l c k).binds (ps := ["self", "procedure", "numbers", "lists", "target"]) fun _ _ _ _ _ _ us hl => match us, hl with | [_, _, _, _, _], _ => rfl, ⟨a, i, k⟩⟩
def ck_finish {K : PySem.W.Frag} {C f : Addr} {oc : Value} {od an : Option Addr} {sl : Array (Option Value)} {kV doc pm cd ct : Value}
    (a : PySem.W.findIn K (.ref C) "finish" = some (some (.ref f))) (i : PySem.W.isFn K (.ref f) = true) (l : K.lookup f = some ⟨oc, od, .func (PySem.W.fnOf "finish" "Machine.finish" (defArgs s_Machine_finish) (defBody s_Machine_finish) (defScope s_Machine_finish) .none kV doc pm an cd ct), sl⟩) (c : PySem.W.codeIn K cd "Machine.finish" = true) (k : PySem.W.keepIn K (.ref f) = true) : CkM K C "finish" "Machine.finish" s_Machine_finish ["self", "value"] :=
  ⟨f, _, fun_mk (st := s_Machine_finish) l c k, (fun_mk (st := s_Machine_finish) l c k).binds (ps := ["self", "value"]) fun _ _ _ _ _ _ us hl => match us, hl with | [_, _], _ => rfl, ⟨a, i, k⟩⟩
def ck_go {K : PySem.W.Frag} {C f : Addr} {oc : Value} {od an : Option Addr} {sl : Array (Option Value)} {kV doc pm cd ct : Value}
    (a : PySem.W.findIn K (.ref C) "go" = some (some (.ref f))) (i : PySem.W.isFn K (.ref f) = true) (l : K.lookup f = some ⟨oc, od, .func (PySem.W.fnOf "go" "Machine.go" (defArgs s_Machine_go) (defBody s_Machine_go) (defScope s_Machine_go) .none kV doc pm an cd ct), sl⟩) (c : PySem.W.codeIn K cd "Machine.go" = true) (k : PySem.W.keepIn K (.ref f) = true) : CkM K C "go" "Machine.go" s_Machine_go ["self"] :=
  ⟨f, _, fun_mk (st := s_Machine_go) l c k, (fun_mk (st := s_Machine_go) l c k).binds (ps := ["self"]) fun _ _ _ _ _ _ us hl => match us, hl with | [_], _ => rfl, ⟨a, i, k⟩⟩
def ck_step {K : PySem.W.Frag} {C f : Addr} {oc : Value} {od an : Option Addr} {sl : Array (Option Value)} {kV doc pm cd ct : Value}
    (a : PySem.W.findIn K (.ref C) "step" = some (some (.ref f))) (i : PySem.W.isFn K (.ref f) = true) (l : K.lookup f = some ⟨oc, od, .func (PySem.W.fnOf "step" "Machine.step" (defArgs s_Machine_step) (defBody s_Machine_step) (defScope s_Machine_step) .none kV doc pm an cd ct), sl⟩) (c : PySem.W.codeIn K cd "Machine.step" = true) (k : PySem.W.keepIn K (.ref f) = true) : CkM K C "step" "Machine.step" s_Machine_step ["self"] :=
  ⟨f, _, fun_mk (st := s_Machine_step) l c k, (fun_mk (st := s_Machine_step) l c k).binds (ps := ["self"]) fun _ _ _ _ _ _ us hl => match us, hl with | [_], _ => rfl, ⟨a, i, k⟩⟩
def ck_enter {K : PySem.W.Frag} {C f : Addr} {oc : Value} {od an : Option Addr} {sl : Array (Option Value)} {kV doc pm cd ct : Value}
    (a : PySem.W.findIn K (.ref C) "enter" = some (some (.ref f))) (i : PySem.W.isFn K (.ref f) = true) (l : K.lookup f = some ⟨oc, od, .func (PySem.W.fnOf "enter" "Frame.enter" (defArgs s_Frame_enter) (defBody s_Frame_enter) (defScope s_Frame_enter) .none kV doc pm an cd ct), sl⟩) (c : PySem.W.codeIn K cd "Frame.enter" = true) (k : PySem.W.keepIn K (.ref f) = true) : CkM K C "enter" "Frame.enter" s_Frame_enter ["self", "block"] :=
  ⟨f, _, fun_mk (st := s_Frame_enter) l c k, (fun_mk (st := s_Frame_enter) l c k).binds (ps := ["self", "block"]) fun _ _ _ _ _ _ us hl => match us, hl with | [_, _], _ => rfl, ⟨a, i, k⟩⟩
def ck_called {K : PySem.W.Frag} {C f : Addr} {oc : Value} {od an : Option Addr} {sl : Array (Option Value)} {kV doc pm cd ct : Value}
    (a : PySem.W.findIn K (.ref C) "called" = some (some (.ref f))) (i : PySem.W.isFn K (.ref f) = true) (l : K.lookup f = some ⟨oc, od, .func (PySem.W.fnOf "called" "Program.called" (defArgs s_called) (defBody s_called) (defScope s_called) .none kV doc pm an cd ct), sl⟩) (c : PySem.W.codeIn K cd "Program.called" = true) (k : PySem.W.keepIn K (.ref f) = true) : CkM K C "called" "Program.called" s_called ["self", "name"] :=
  ⟨f, _, fun_mk (st := s_called) l c k, (fun_mk (st := s_called) l c k).binds (ps := ["self", "name"]) fun _ _ _ _ _ _ us hl => match us, hl with | [_, _], _ => rfl, ⟨a, i, k⟩⟩
def ci_Place {K : PySem.W.Frag} {C f : Addr} {oc : Value} {od an : Option Addr} {sl : Array (Option Value)} {kV doc pm cd ct : Value}
    (a : PySem.W.findIn K (.ref C) "__init__" = some (some (.ref f))) (i : PySem.W.isFn K (.ref f) = true) (l : K.lookup f = some ⟨oc, od, .func (PySem.W.fnOf "__init__" "Place.__init__" (defArgs s_Place) (defBody s_Place) (defScope s_Place) .none kV doc pm an cd ct), sl⟩) (c : PySem.W.codeIn K cd "Place.__init__" = true) (k : PySem.W.keepIn K (.ref f) = true)
    (mk : PySem.W.makesIn K C = true) (kc : PySem.W.keepIn K (.ref C) = true) : CkI K C "Place.__init__" s_Place ["self", "block"] :=
  ⟨f, _, fun_mk (st := s_Place) l c k, (fun_mk (st := s_Place) l c k).binds (ps := ["self", "block"]) fun _ _ _ _ _ _ us hl => match us, hl with | [_, _], _ => rfl, ⟨mk, a, i, kc⟩⟩
def ci_Frame {K : PySem.W.Frag} {C f : Addr} {oc : Value} {od an : Option Addr} {sl : Array (Option Value)} {kV doc pm cd ct : Value}
    (a : PySem.W.findIn K (.ref C) "__init__" = some (some (.ref f))) (i : PySem.W.isFn K (.ref f) = true) (l : K.lookup f = some ⟨oc, od, .func (PySem.W.fnOf "__init__" "Frame.__init__" (defArgs s_Frame) (defBody s_Frame) (defScope s_Frame) .none kV doc pm an cd ct), sl⟩) (c : PySem.W.codeIn K cd "Frame.__init__" = true) (k : PySem.W.keepIn K (.ref f) = true)
    (mk : PySem.W.makesIn K C = true) (kc : PySem.W.keepIn K (.ref C) = true) : CkI K C "Frame.__init__" s_Frame ["self", "state", "target", "body"] :=
  ⟨f, _, fun_mk (st := s_Frame) l c k, (fun_mk (st := s_Frame) l c k).binds (ps := ["self", "state", "target", "body"]) fun _ _ _ _ _ _ us hl => match us, hl with | [_, _, _, _], _ => rfl, ⟨mk, a, i, kc⟩⟩
def ci_State {K : PySem.W.Frag} {C f : Addr} {oc : Value} {od an : Option Addr} {sl : Array (Option Value)} {kV doc pm cd ct : Value}
    (a : PySem.W.findIn K (.ref C) "__init__" = some (some (.ref f))) (i : PySem.W.isFn K (.ref f) = true) (l : K.lookup f = some ⟨oc, od, .func (PySem.W.fnOf "__init__" "State.__init__" (defArgs s_State) (defBody s_State) (defScope s_State) .none kV doc pm an cd ct), sl⟩) (c : PySem.W.codeIn K cd "State.__init__" = true) (k : PySem.W.keepIn K (.ref f) = true)
    (mk : PySem.W.makesIn K C = true) (kc : PySem.W.keepIn K (.ref C) = true) : CkI K C "State.__init__" s_State ["self", "numbers", "lists", "old"] :=
  ⟨f, _, fun_mk (st := s_State) l c k, (fun_mk (st := s_State) l c k).binds (ps := ["self", "numbers", "lists", "old"]) fun _ _ _ _ _ _ us hl => match us, hl with | [_, _, _, _], _ => rfl, ⟨mk, a, i, kc⟩⟩
def ci_Machine {K : PySem.W.Frag} {C f : Addr} {oc : Value} {od an : Option Addr} {sl : Array (Option Value)} {kV doc pm cd ct : Value}
    (a : PySem.W.findIn K (.ref C) "__init__" = some (some (.ref f))) (i : PySem.W.isFn K (.ref f) = true) (l : K.lookup f = some ⟨oc, od, .func (PySem.W.fnOf "__init__" "Machine.__init__" (defArgs s_Machine) (defBody s_Machine) (defScope s_Machine) .none kV doc pm an cd ct), sl⟩) (c : PySem.W.codeIn K cd "Machine.__init__" = true) (k : PySem.W.keepIn K (.ref f) = true)
    (mk : PySem.W.makesIn K C = true) (kc : PySem.W.keepIn K (.ref C) = true) : CkI K C "Machine.__init__" s_Machine ["self", "program", "choices", "steps"] :=
  ⟨f, _, fun_mk (st := s_Machine) l c k, (fun_mk (st := s_Machine) l c k).binds (ps := ["self", "program", "choices", "steps"]) fun _ _ _ _ _ _ us hl => match us, hl with | [_, _, _, _], _ => rfl, ⟨mk, a, i, kc⟩⟩
def ci_Run {K : PySem.W.Frag} {C f : Addr} {oc : Value} {od an : Option Addr} {sl : Array (Option Value)} {kV doc pm cd ct : Value}
    (a : PySem.W.findIn K (.ref C) "__init__" = some (some (.ref f))) (i : PySem.W.isFn K (.ref f) = true) (l : K.lookup f = some ⟨oc, od, .func (PySem.W.fnOf "__init__" "Run.__init__" (defArgs s_Run) (defBody s_Run) (defScope s_Run) .none kV doc pm an cd ct), sl⟩) (c : PySem.W.codeIn K cd "Run.__init__" = true) (k : PySem.W.keepIn K (.ref f) = true)
    (mk : PySem.W.makesIn K C = true) (kc : PySem.W.keepIn K (.ref C) = true) : CkI K C "Run.__init__" s_Run ["self", "outcome", "lists", "turns"] :=
  ⟨f, _, fun_mk (st := s_Run) l c k, (fun_mk (st := s_Run) l c k).binds (ps := ["self", "outcome", "lists", "turns"]) fun _ _ _ _ _ _ us hl => match us, hl with | [_, _, _, _], _ => rfl, ⟨mk, a, i, kc⟩⟩
def ci_P {K : PySem.W.Frag} {C f : Addr} {oc : Value} {od an : Option Addr} {sl : Array (Option Value)} {kV doc pm cd ct : Value}
    (a : PySem.W.findIn K (.ref C) "__init__" = some (some (.ref f))) (i : PySem.W.isFn K (.ref f) = true) (l : K.lookup f = some ⟨oc, od, .func (PySem.W.fnOf "__init__" "Procedure.__init__" (defArgs s_Procedure) (defBody s_Procedure) (defScope s_Procedure) .none kV doc pm an cd ct), sl⟩) (c : PySem.W.codeIn K cd "Procedure.__init__" = true) (k : PySem.W.keepIn K (.ref f) = true)
    (mk : PySem.W.makesIn K C = true) (kc : PySem.W.keepIn K (.ref C) = true) : CkI K C "Procedure.__init__" s_Procedure ["self", "row", "name", "parameters", "needs", "gives", "moves", "falls", "lets", "body"] :=
  ⟨f, _, fun_mk (st := s_Procedure) l c k, (fun_mk (st := s_Procedure) l c k).binds (ps := ["self", "row", "name", "parameters", "needs", "gives", "moves", "falls", "lets", "body"]) fun _ _ _ _ _ _ us hl => match us, hl with | [_, _, _, _, _, _, _, _, _, _], _ => rfl, ⟨mk, a, i, kc⟩⟩
def ci_G {K : PySem.W.Frag} {C f : Addr} {oc : Value} {od an : Option Addr} {sl : Array (Option Value)} {kV doc pm cd ct : Value}
    (a : PySem.W.findIn K (.ref C) "__init__" = some (some (.ref f))) (i : PySem.W.isFn K (.ref f) = true) (l : K.lookup f = some ⟨oc, od, .func (PySem.W.fnOf "__init__" "Program.__init__" (defArgs s_Program) (defBody s_Program) (defScope s_Program) .none kV doc pm an cd ct), sl⟩) (c : PySem.W.codeIn K cd "Program.__init__" = true) (k : PySem.W.keepIn K (.ref f) = true)
    (mk : PySem.W.makesIn K C = true) (kc : PySem.W.keepIn K (.ref C) = true) : CkI K C "Program.__init__" s_Program ["self", "procedures"] :=
  ⟨f, _, fun_mk (st := s_Program) l c k, (fun_mk (st := s_Program) l c k).binds (ps := ["self", "procedures"]) fun _ _ _ _ _ _ us hl => match us, hl with | [_, _], _ => rfl, ⟨mk, a, i, kc⟩⟩
structure CkN (K : PySem.W.Frag) (g : Addr) (x q : PySem.Str) (st : Stmt) where
  fd : FuncData
  F : Fun K x q st g fd
  b : Binds K fd ["self"] []
def cn_list {K : PySem.W.Frag} {g : Addr} {oc : Value} {od an : Option Addr} {sl : Array (Option Value)} {kV doc pm cd ct : Value}
    (l : K.lookup g = some ⟨oc, od, .func (PySem.W.fnOf "list_names" "Procedure.list_names" (defArgs s_list_names) (defBody s_list_names) (defScope s_list_names) .none kV doc pm an cd ct), sl⟩) (c : PySem.W.codeIn K cd "Procedure.list_names" = true) (k : PySem.W.keepIn K (.ref g) = true) : CkN K g "list_names" "Procedure.list_names" s_list_names :=
  ⟨_, fun_mk (st := s_list_names) l c k, (fun_mk (st := s_list_names) l c k).binds (ps := ["self"]) fun _ _ _ _ _ _ us hl => match us, hl with | [_], _ => rfl⟩
def cn_num {K : PySem.W.Frag} {g : Addr} {oc : Value} {od an : Option Addr} {sl : Array (Option Value)} {kV doc pm cd ct : Value}
    (l : K.lookup g = some ⟨oc, od, .func (PySem.W.fnOf "number_names" "Procedure.number_names" (defArgs s_number_names) (defBody s_number_names) (defScope s_number_names) .none kV doc pm an cd ct), sl⟩) (c : PySem.W.codeIn K cd "Procedure.number_names" = true) (k : PySem.W.keepIn K (.ref g) = true) : CkN K g "number_names" "Procedure.number_names" s_number_names :=
  ⟨_, fun_mk (st := s_number_names) l c k, (fun_mk (st := s_number_names) l c k).binds (ps := ["self"]) fun _ _ _ _ _ _ us hl => match us, hl with | [_], _ => rfl⟩
def ckall {K : PySem.W.Frag} {CP CG CS CU CL CF CM gg gq : Addr} (fault : CkM K CM "fault" "Machine.fault" s_Machine_fault ["self", "row", "kind"]) (choice : CkM K CM "choice" "Machine.choice" s_Machine_choice ["self"]) (begin_ : CkM K CM "begin" "Machine.begin" s_Machine_begin ["self", "procedure", "numbers", "lists", "target"]) (finish : CkM K CM "finish" "Machine.finish" s_Machine_finish ["self", "value"]) (go : CkM K CM "go" "Machine.go" s_Machine_go ["self"]) (step : CkM K CM "step" "Machine.step" s_Machine_step ["self"]) (enter : CkM K CF "enter" "Frame.enter" s_Frame_enter ["self", "block"]) (called : CkM K CG "called" "Program.called" s_called ["self", "name"]) (iPlace : CkI K CL "Place.__init__" s_Place ["self", "block"]) (iFrame : CkI K CF "Frame.__init__" s_Frame ["self", "state", "target", "body"]) (iState : CkI K CS "State.__init__" s_State ["self", "numbers", "lists", "old"]) (iMachine : CkI K CM "Machine.__init__" s_Machine ["self", "program", "choices", "steps"]) (iRun : CkI K CU "Run.__init__" s_Run ["self", "outcome", "lists", "turns"]) (iP : CkI K CP "Procedure.__init__" s_Procedure ["self", "row", "name", "parameters", "needs", "gives", "moves", "falls", "lets", "body"]) (iG : CkI K CG "Program.__init__" s_Program ["self", "procedures"]) (nl : CkN K gg "list_names" "Procedure.list_names" s_list_names) (nn : CkN K gq "number_names" "Procedure.number_names" s_number_names) : CkAll K CP CG CS CU CL CF CM gg gq :=
  ⟨fault, choice, begin_, finish, go, step, enter, called, iPlace, iFrame, iState, iMachine, iRun, iP, iG, nl.fd, nl.F, nl.b, nn.fd, nn.F, nn.b⟩
theorem acs_mk {K : PySem.W.Frag} {w : World} {aA f0 f1 f2 f3 f4 f5 f6 f7 f8 f9 : Addr} {es : Array DictEntry} {en : Nat} (kl : K.lookup aA = some ⟨.type "dict", none, .dict es en, #[]⟩) (kk : PySem.W.KeysLit w.params es.toList)
    (h0 : PySem.W.nsIn K aA "set" = some (some (.ref f0))) (h1 : PySem.W.nsIn K aA "put" = some (some (.ref f1))) (h2 : PySem.W.nsIn K aA "swap" = some (some (.ref f2))) (h3 : PySem.W.nsIn K aA "choose" = some (some (.ref f3))) (h4 : PySem.W.nsIn K aA "call" = some (some (.ref f4))) (h5 : PySem.W.nsIn K aA "check" = some (some (.ref f5))) (h6 : PySem.W.nsIn K aA "return" = some (some (.ref f6))) (h7 : PySem.W.nsIn K aA "skip" = some (some (.ref f7))) (h8 : PySem.W.nsIn K aA "if" = some (some (.ref f8))) (h9 : PySem.W.nsIn K aA "while" = some (some (.ref f9))) : AcS K w aA f0 f1 f2 f3 f4 f5 f6 f7 f8 f9 :=
  ⟨⟨es, en, _, kl, kk, h0, rfl⟩, ⟨es, en, _, kl, kk, h1, rfl⟩, ⟨es, en, _, kl, kk, h2, rfl⟩, ⟨es, en, _, kl, kk, h3, rfl⟩, ⟨es, en, _, kl, kk, h4, rfl⟩, ⟨es, en, _, kl, kk, h5, rfl⟩, ⟨es, en, _, kl, kk, h6, rfl⟩, ⟨es, en, _, kl, kk, h7, rfl⟩, ⟨es, en, _, kl, kk, h8, rfl⟩, ⟨es, en, _, kl, kk, h9, rfl⟩⟩
end SW

namespace SW
open PySem PySem.Spec PyProof.Rows L2
theorem all_mk {P : Program} {w : World} {K : PySem.W.Frag} {mg : PySem.Str → Option Value} {fa CP CG pp gg CS CU CL CF CM pq gq aA : Addr} (hfa : mg "law" = some (.ref fa)) (T : TxA K mg CP CG pp gg CS CU CL CF CM pq gq aA) (c : CkAll K CP CG CS CU CL CF CM gg gq)
  (D_law : Df K mg "law" s_law ["script"]) (hb : ∀ (s : Shared) (v : Value), BindsTo s D_law.fd ⟨[v], []⟩ [("script", v)]) (D_run_program : DfK K mg "run_program" s_run_program ["program", "name", "numbers", "lists", "choices", "steps"] 5 ["steps"]) (D_value_of : Df K mg "value_of" s_value_of ["term", "state"]) (D_cells_of : Df K mg "_cells_of" s_cells_of ["which", "state"]) (D_compares : Df K mg "compares" s_compares ["sign", "left", "right"]) (D_answer : Df K mg "_answer" s_answer ["condition", "state"]) (D_set : Df K mg "_set" s_set ["machine", "frame", "statement"]) (D_put : Df K mg "_put" s_put ["machine", "frame", "statement"]) (D_swap : Df K mg "_swap" s_swap ["machine", "frame", "statement"]) (D_choose : Df K mg "_choose" s_choose ["machine", "frame", "statement"]) (D_call : Df K mg "_call" s_call ["machine", "frame", "statement"]) (D_check : Df K mg "_check" s_check ["machine", "frame", "statement"]) (D_return : Df K mg "_return" s_return ["machine", "frame", "statement"]) (D_skip : Df K mg "_skip" s_skip ["machine", "frame", "statement"]) (D_if : Df K mg "_if" s_if ["machine", "frame", "statement"]) (D_while : Df K mg "_while" s_while ["machine", "frame", "statement"]) (D_l_draws : Df K mg "_law_draws" s_l_draws ["script", "many"]) (D_l_take : Df K mg "_law_take" s_l_take ["hand", "many"]) (D_l_names : Df K mg "_law_names" s_l_names ["hand"]) (D_l_rows : Df K mg "_law_rows" s_l_rows ["block", "row"]) (D_l_parts : Df K mg "_law_parts" s_l_parts ["procs"]) (D_l_made : Df K mg "_law_made" s_l_made ["one"]) (D_l_program : Df K mg "_law_program" s_l_program ["parts"]) (D_l_gen : Df K mg "_law_gen" s_l_gen ["hand", "n", "moved"]) (D_l_gen_block : Df K mg "_law_gen_block" s_l_gen_block ["hand", "ctx", "depth", "whiles", "many", "budget"]) (D_l_gen_simple : Df K mg "_law_gen_simple" s_l_gen_simple ["hand", "ctx"]) (D_l_gen_call : Df K mg "_law_gen_call" s_l_gen_call ["hand", "ctx"]) (D_l_gen_condition : Df K mg "_law_gen_condition" s_l_gen_condition ["hand", "ctx"]) (D_l_gen_cmp : Df K mg "_law_gen_cmp" s_l_gen_cmp ["hand", "ctx"]) (D_l_gen_term : Df K mg "_law_gen_term" s_l_gen_term ["hand", "ctx"]) (D_l_gen_index : Df K mg "_law_gen_index" s_l_gen_index ["hand", "ctx", "name"]) (D_l_gen_plain : Df K mg "_law_gen_plain" s_l_gen_plain ["hand", "ctx"]) (D_l_numbers : Df K mg "_law_numbers" s_l_numbers ["hand", "many"]) (D_l_begin : Df K mg "_law_begin" s_l_begin ["hand", "one"]) (D_l_kept : Df K mg "_law_kept" s_l_kept ["before", "after"]) (AK : AcS K w aA D_set.f D_put.f D_swap.f D_choose.f D_call.f D_check.f D_return.f D_skip.f D_if.f D_while.f) :
    ∃ fd : FuncData, (∀ (s : Shared) (v : Value), BindsTo s fd ⟨[v], []⟩ [("script", v)]) ∧ ∀ base : Heap, K.In base → base.Ns mainGlobals mg → FnOk P w K mg base CX0 27 fa fd ["script"] (spLaw K) := by
  have e := hfa.symm.trans D_law.g
  cases e
  exact ⟨D_law.fd, hb, fun base _ _ => (ok_law T (txr_mk T.toTxM) c D_law D_run_program D_value_of D_cells_of D_compares D_answer D_set D_put D_swap D_choose D_call D_check D_return D_skip D_if D_while D_l_draws D_l_take D_l_names D_l_rows D_l_parts D_l_made D_l_program D_l_gen D_l_gen_block D_l_gen_simple D_l_gen_call D_l_gen_condition D_l_gen_cmp D_l_gen_term D_l_gen_index D_l_gen_plain D_l_numbers D_l_begin D_l_kept AK).mono (by decide)⟩
end SW

open PySem PySem.W PyProof.Rows
set_option maxHeartbeats 0 in
theorem PySem.Challenge.cw_swornrun_k11_moved_lists_keep_their_cell_holds : PySem.Challenge.rw_swornrun_k11_moved_lists_keep_their_cell.Holds := by
  w_on; o_law; k_head; (case hw => w_witness2)
  k_fill
  refine L2.walk_of (l := PySem.Challenge.rw_swornrun_k11_moved_lists_keep_their_cell) (n := 63) (k := 27) (x := "script") (CX := fun _ => L2.CX0) (sp := fun w => SW.spLaw _) rfl (by decide) rfl ⟨rfl, by decide, by decide⟩ (fun w h Y => PySem.W.kIn_of Y) ?F (fun _ _ a ns hl _ hS => ⟨a, ns, rfl, hS, hl, fun _ => rfl⟩) (fun _ _ _ _ _ h => h)
  case F =>
    intro w mg fa h KX G hmg
    refine' SW.all_mk hmg (SW.txa_mk KX G (SW.txq_mk KX G ⟨PySem.W.mg_none_of KX G ?n_len, PySem.W.mg_none_of KX G ?n_range, PySem.W.mg_none_of KX G ?n_int, PySem.W.mg_none_of KX G ?n_abs, PySem.W.mg_none_of KX G ?n_isinstance, PySem.W.mg_none_of KX G ?n_list, PySem.W.mg_none_of KX G ?n_str, PySem.W.mg_none_of KX G ?n_bool, PySem.W.mg_none_of KX G ?n_tuple, PySem.W.mg_none_of KX G ?n_min, PySem.W.mg_none_of KX G ?n_max, PySem.W.mg_none_of KX G ?n_sum, PySem.W.mg_none_of KX G ?n_sorted, PySem.W.mg_none_of KX G ?n_any, PySem.W.mg_none_of KX G ?n_all, PySem.W.mg_none_of KX G ?n_zip, PySem.W.mg_none_of KX G ?n_enumerate, PySem.W.mg_none_of KX G ?n_reversed, PySem.W.mg_none_of KX G ?n_dict, PySem.W.mg_none_of KX G ?n_set, PySem.W.mg_none_of KX G ?n_repr, PySem.W.mg_none_of KX G ?n_ord⟩ ?haP ?haG (SW.cls_mk ?hCP1 ?hCP2 ?hCP3 ?hCP4) (SW.cls_mk ?hCG1 ?hCG2 ?hCG3 ?hCG4) ?hn0 ?hn1 ?hn2 ?hn3 ?hn4 ?hn5 ?hn6 ?hn7 ?hn8 ?hm0 (SW.prop_mk ?hq1 ?hq2 ?hq3 ?hq4)) (SW.cls_mk ?hCS1 ?hCS2 ?hCS3 ?hCS4) ?hmCS ?hnCS_numbers ?hnCS_lists ?hnCS_old (SW.cls_mk ?hCU1 ?hCU2 ?hCU3 ?hCU4) ?hmCU ?hnCU_outcome ?hnCU_lists ?hnCU_turns (SW.cls_mk ?hCL1 ?hCL2 ?hCL3 ?hCL4) ?hmCL ?hnCL_block ?hnCL_at ?hnCL_loop (SW.cls_mk ?hCF1 ?hCF2 ?hCF3 ?hCF4) ?hmCF ?hnCF_state ?hnCF_target ?hnCF_places (SW.cls_mk ?hCM1 ?hCM2 ?hCM3 ?hCM4) ?hmCM ?hnCM_program ?hnCM_choices ?hnCM_chosen ?hnCM_steps ?hnCM_frames ?hnCM_turns ?hnCM_outcome (SW.prop_mk ?hp1 ?hp2 ?hp3 ?hp4) ?ham) (SW.ckall (SW.ck_fault ?xfault0 ?xfault1 ?xfault2 ?xfault3 ?xfault4) (SW.ck_choice ?xchoice0 ?xchoice1 ?xchoice2 ?xchoice3 ?xchoice4) (SW.ck_begin_ ?xbegin_0 ?xbegin_1 ?xbegin_2 ?xbegin_3 ?xbegin_4) (SW.ck_finish ?xfinish0 ?xfinish1 ?xfinish2 ?xfinish3 ?xfinish4) (SW.ck_go ?xgo0 ?xgo1 ?xgo2 ?xgo3 ?xgo4) (SW.ck_step ?xstep0 ?xstep1 ?xstep2 ?xstep3 ?xstep4) (SW.ck_enter ?xenter0 ?xenter1 ?xenter2 ?xenter3 ?xenter4) (SW.ck_called ?xcalled0 ?xcalled1 ?xcalled2 ?xcalled3 ?xcalled4) (SW.ci_Place ?yPlace0 ?yPlace1 ?yPlace2 ?yPlace3 ?yPlace4 ?yPlace5 ?yPlace6) (SW.ci_Frame ?yFrame0 ?yFrame1 ?yFrame2 ?yFrame3 ?yFrame4 ?yFrame5 ?yFrame6) (SW.ci_State ?yState0 ?yState1 ?yState2 ?yState3 ?yState4 ?yState5 ?yState6) (SW.ci_Machine ?yMachine0 ?yMachine1 ?yMachine2 ?yMachine3 ?yMachine4 ?yMachine5 ?yMachine6) (SW.ci_Run ?yRun0 ?yRun1 ?yRun2 ?yRun3 ?yRun4 ?yRun5 ?yRun6) (SW.ci_P ?yP0 ?yP1 ?yP2 ?yP3 ?yP4 ?yP5 ?yP6) (SW.ci_G ?yG0 ?yG1 ?yG2 ?yG3 ?yG4 ?yG5 ?yG6) (SW.cn_list ?w1 ?w2 ?w3) (SW.cn_num ?w4 ?w5 ?w6)) (SW.df_mk KX G ?a0 ?l0 ?c0 ?k0 (fun _ _ _ _ _ _ us hl => match us, hl with | [_], _ => rfl)) (fun s v => .of_eq rfl) (SW.dfk_mk KX G ?a1 ?l1 ?c1 ?k1 SW.kr_run) (SW.df_mk KX G ?a2 ?l2 ?c2 ?k2 (fun _ _ _ _ _ _ us hl => match us, hl with | [_, _], _ => rfl)) (SW.df_mk KX G ?a3 ?l3 ?c3 ?k3 (fun _ _ _ _ _ _ us hl => match us, hl with | [_, _], _ => rfl)) (SW.df_mk KX G ?a4 ?l4 ?c4 ?k4 (fun _ _ _ _ _ _ us hl => match us, hl with | [_, _, _], _ => rfl)) (SW.df_mk KX G ?a5 ?l5 ?c5 ?k5 (fun _ _ _ _ _ _ us hl => match us, hl with | [_, _], _ => rfl)) (SW.df_mk KX G ?a6 ?l6 ?c6 ?k6 (fun _ _ _ _ _ _ us hl => match us, hl with | [_, _, _], _ => rfl)) (SW.df_mk KX G ?a7 ?l7 ?c7 ?k7 (fun _ _ _ _ _ _ us hl => match us, hl with | [_, _, _], _ => rfl)) (SW.df_mk KX G ?a8 ?l8 ?c8 ?k8 (fun _ _ _ _ _ _ us hl => match us, hl with | [_, _, _], _ => rfl)) (SW.df_mk KX G ?a9 ?l9 ?c9 ?k9 (fun _ _ _ _ _ _ us hl => match us, hl with | [_, _, _], _ => rfl)) (SW.df_mk KX G ?a10 ?l10 ?c10 ?k10 (fun _ _ _ _ _ _ us hl => match us, hl with | [_, _, _], _ => rfl)) (SW.df_mk KX G ?a11 ?l11 ?c11 ?k11 (fun _ _ _ _ _ _ us hl => match us, hl with | [_, _, _], _ => rfl)) (SW.df_mk KX G ?a12 ?l12 ?c12 ?k12 (fun _ _ _ _ _ _ us hl => match us, hl with | [_, _, _], _ => rfl)) (SW.df_mk KX G ?a13 ?l13 ?c13 ?k13 (fun _ _ _ _ _ _ us hl => match us, hl with | [_, _, _], _ => rfl)) (SW.df_mk KX G ?a14 ?l14 ?c14 ?k14 (fun _ _ _ _ _ _ us hl => match us, hl with | [_, _, _], _ => rfl)) (SW.df_mk KX G ?a15 ?l15 ?c15 ?k15 (fun _ _ _ _ _ _ us hl => match us, hl with | [_, _, _], _ => rfl)) (SW.df_mk KX G ?a16 ?l16 ?c16 ?k16 (fun _ _ _ _ _ _ us hl => match us, hl with | [_, _], _ => rfl)) (SW.df_mk KX G ?a17 ?l17 ?c17 ?k17 (fun _ _ _ _ _ _ us hl => match us, hl with | [_, _], _ => rfl)) (SW.df_mk KX G ?a18 ?l18 ?c18 ?k18 (fun _ _ _ _ _ _ us hl => match us, hl with | [_], _ => rfl)) (SW.df_mk KX G ?a19 ?l19 ?c19 ?k19 (fun _ _ _ _ _ _ us hl => match us, hl with | [_, _], _ => rfl)) (SW.df_mk KX G ?a20 ?l20 ?c20 ?k20 (fun _ _ _ _ _ _ us hl => match us, hl with | [_], _ => rfl)) (SW.df_mk KX G ?a21 ?l21 ?c21 ?k21 (fun _ _ _ _ _ _ us hl => match us, hl with | [_], _ => rfl)) (SW.df_mk KX G ?a22 ?l22 ?c22 ?k22 (fun _ _ _ _ _ _ us hl => match us, hl with | [_], _ => rfl)) (SW.df_mk KX G ?a23 ?l23 ?c23 ?k23 (fun _ _ _ _ _ _ us hl => match us, hl with | [_, _, _], _ => rfl)) (SW.df_mk KX G ?a24 ?l24 ?c24 ?k24 (fun _ _ _ _ _ _ us hl => match us, hl with | [_, _, _, _, _, _], _ => rfl)) (SW.df_mk KX G ?a25 ?l25 ?c25 ?k25 (fun _ _ _ _ _ _ us hl => match us, hl with | [_, _], _ => rfl)) (SW.df_mk KX G ?a26 ?l26 ?c26 ?k26 (fun _ _ _ _ _ _ us hl => match us, hl with | [_, _], _ => rfl)) (SW.df_mk KX G ?a27 ?l27 ?c27 ?k27 (fun _ _ _ _ _ _ us hl => match us, hl with | [_, _], _ => rfl)) (SW.df_mk KX G ?a28 ?l28 ?c28 ?k28 (fun _ _ _ _ _ _ us hl => match us, hl with | [_, _], _ => rfl)) (SW.df_mk KX G ?a29 ?l29 ?c29 ?k29 (fun _ _ _ _ _ _ us hl => match us, hl with | [_, _], _ => rfl)) (SW.df_mk KX G ?a30 ?l30 ?c30 ?k30 (fun _ _ _ _ _ _ us hl => match us, hl with | [_, _, _], _ => rfl)) (SW.df_mk KX G ?a31 ?l31 ?c31 ?k31 (fun _ _ _ _ _ _ us hl => match us, hl with | [_, _], _ => rfl)) (SW.df_mk KX G ?a32 ?l32 ?c32 ?k32 (fun _ _ _ _ _ _ us hl => match us, hl with | [_, _], _ => rfl)) (SW.df_mk KX G ?a33 ?l33 ?c33 ?k33 (fun _ _ _ _ _ _ us hl => match us, hl with | [_, _], _ => rfl)) (SW.df_mk KX G ?a34 ?l34 ?c34 ?k34 (fun _ _ _ _ _ _ us hl => match us, hl with | [_, _], _ => rfl)) (SW.acs_mk ?zml ?zmm ?zf0 ?zf1 ?zf2 ?zf3 ?zf4 ?zf5 ?zf6 ?zf7 ?zf8 ?zf9)
    (case a0 => k_is)
    (case l0 => k_is)
    (case c0 => k_is)
    (case k0 => k_is)
    (case a1 => k_is)
    (case l1 => k_is)
    (case c1 => k_is)
    (case k1 => k_is)
    (case a2 => k_is)
    (case l2 => k_is)
    (case c2 => k_is)
    (case k2 => k_is)
    (case a3 => k_is)
    (case l3 => k_is)
    (case c3 => k_is)
    (case k3 => k_is)
    (case a4 => k_is)
    (case l4 => k_is)
    (case c4 => k_is)
    (case k4 => k_is)
    (case a5 => k_is)
    (case l5 => k_is)
    (case c5 => k_is)
    (case k5 => k_is)
    (case a6 => k_is)
    (case l6 => k_is)
    (case c6 => k_is)
    (case k6 => k_is)
    (case a7 => k_is)
    (case l7 => k_is)
    (case c7 => k_is)
    (case k7 => k_is)
    (case a8 => k_is)
    (case l8 => k_is)
    (case c8 => k_is)
    (case k8 => k_is)
    (case a9 => k_is)
    (case l9 => k_is)
    (case c9 => k_is)
    (case k9 => k_is)
    (case a10 => k_is)
    (case l10 => k_is)
    (case c10 => k_is)
    (case k10 => k_is)
    (case a11 => k_is)
    (case l11 => k_is)
    (case c11 => k_is)
    (case k11 => k_is)
    (case a12 => k_is)
    (case l12 => k_is)
    (case c12 => k_is)
    (case k12 => k_is)
    (case a13 => k_is)
    (case l13 => k_is)
    (case c13 => k_is)
    (case k13 => k_is)
    (case a14 => k_is)
    (case l14 => k_is)
    (case c14 => k_is)
    (case k14 => k_is)
    (case a15 => k_is)
    (case l15 => k_is)
    (case c15 => k_is)
    (case k15 => k_is)
    (case a16 => k_is)
    (case l16 => k_is)
    (case c16 => k_is)
    (case k16 => k_is)
    (case a17 => k_is)
    (case l17 => k_is)
    (case c17 => k_is)
    (case k17 => k_is)
    (case a18 => k_is)
    (case l18 => k_is)
    (case c18 => k_is)
    (case k18 => k_is)
    (case a19 => k_is)
    (case l19 => k_is)
    (case c19 => k_is)
    (case k19 => k_is)
    (case a20 => k_is)
    (case l20 => k_is)
    (case c20 => k_is)
    (case k20 => k_is)
    (case a21 => k_is)
    (case l21 => k_is)
    (case c21 => k_is)
    (case k21 => k_is)
    (case a22 => k_is)
    (case l22 => k_is)
    (case c22 => k_is)
    (case k22 => k_is)
    (case a23 => k_is)
    (case l23 => k_is)
    (case c23 => k_is)
    (case k23 => k_is)
    (case a24 => k_is)
    (case l24 => k_is)
    (case c24 => k_is)
    (case k24 => k_is)
    (case a25 => k_is)
    (case l25 => k_is)
    (case c25 => k_is)
    (case k25 => k_is)
    (case a26 => k_is)
    (case l26 => k_is)
    (case c26 => k_is)
    (case k26 => k_is)
    (case a27 => k_is)
    (case l27 => k_is)
    (case c27 => k_is)
    (case k27 => k_is)
    (case a28 => k_is)
    (case l28 => k_is)
    (case c28 => k_is)
    (case k28 => k_is)
    (case a29 => k_is)
    (case l29 => k_is)
    (case c29 => k_is)
    (case k29 => k_is)
    (case a30 => k_is)
    (case l30 => k_is)
    (case c30 => k_is)
    (case k30 => k_is)
    (case a31 => k_is)
    (case l31 => k_is)
    (case c31 => k_is)
    (case k31 => k_is)
    (case a32 => k_is)
    (case l32 => k_is)
    (case c32 => k_is)
    (case k32 => k_is)
    (case a33 => k_is)
    (case l33 => k_is)
    (case c33 => k_is)
    (case k33 => k_is)
    (case a34 => k_is)
    (case l34 => k_is)
    (case c34 => k_is)
    (case k34 => k_is)
    (case n_len => k_is)
    (case n_range => k_is)
    (case n_int => k_is)
    (case n_abs => k_is)
    (case n_isinstance => k_is)
    (case n_list => k_is)
    (case n_str => k_is)
    (case n_bool => k_is)
    (case n_tuple => k_is)
    (case n_min => k_is)
    (case n_max => k_is)
    (case n_sum => k_is)
    (case n_sorted => k_is)
    (case n_any => k_is)
    (case n_all => k_is)
    (case n_zip => k_is)
    (case n_enumerate => k_is)
    (case n_reversed => k_is)
    (case n_dict => k_is)
    (case n_set => k_is)
    (case n_repr => k_is)
    (case n_ord => k_is)
    (case haP => k_is)
    (case haG => k_is)
    (case hmCS => k_is)
    (case hmCU => k_is)
    (case hmCL => k_is)
    (case hmCF => k_is)
    (case hmCM => k_is)
    (case ham => k_is)
    (case hCP1 => k_is)
    (case hCP2 => k_is)
    (case hCP3 => k_is)
    (case hCP4 => k_is)
    (case hCG1 => k_is)
    (case hCG2 => k_is)
    (case hCG3 => k_is)
    (case hCG4 => k_is)
    (case hn0 => k_is)
    (case hn1 => k_is)
    (case hn2 => k_is)
    (case hn3 => k_is)
    (case hn4 => k_is)
    (case hn5 => k_is)
    (case hn6 => k_is)
    (case hn7 => k_is)
    (case hn8 => k_is)
    (case hm0 => k_is)
    (case hq1 => k_is)
    (case hq2 => k_is)
    (case hq3 => k_is)
    (case hq4 => k_is)
    (case hCS1 => k_is)
    (case hCS2 => k_is)
    (case hCS3 => k_is)
    (case hCS4 => k_is)
    (case hnCS_numbers => k_is)
    (case hnCS_lists => k_is)
    (case hnCS_old => k_is)
    (case hCU1 => k_is)
    (case hCU2 => k_is)
    (case hCU3 => k_is)
    (case hCU4 => k_is)
    (case hnCU_outcome => k_is)
    (case hnCU_lists => k_is)
    (case hnCU_turns => k_is)
    (case hCL1 => k_is)
    (case hCL2 => k_is)
    (case hCL3 => k_is)
    (case hCL4 => k_is)
    (case hnCL_block => k_is)
    (case hnCL_at => k_is)
    (case hnCL_loop => k_is)
    (case hCF1 => k_is)
    (case hCF2 => k_is)
    (case hCF3 => k_is)
    (case hCF4 => k_is)
    (case hnCF_state => k_is)
    (case hnCF_target => k_is)
    (case hnCF_places => k_is)
    (case hCM1 => k_is)
    (case hCM2 => k_is)
    (case hCM3 => k_is)
    (case hCM4 => k_is)
    (case hnCM_program => k_is)
    (case hnCM_choices => k_is)
    (case hnCM_chosen => k_is)
    (case hnCM_steps => k_is)
    (case hnCM_frames => k_is)
    (case hnCM_turns => k_is)
    (case hnCM_outcome => k_is)
    (case hp1 => k_is)
    (case hp2 => k_is)
    (case hp3 => k_is)
    (case hp4 => k_is)
    (case xfault0 => k_is)
    (case xfault1 => k_is)
    (case xfault2 => k_is)
    (case xfault3 => k_is)
    (case xfault4 => k_is)
    (case xchoice0 => k_is)
    (case xchoice1 => k_is)
    (case xchoice2 => k_is)
    (case xchoice3 => k_is)
    (case xchoice4 => k_is)
    (case xbegin_0 => k_is)
    (case xbegin_1 => k_is)
    (case xbegin_2 => k_is)
    (case xbegin_3 => k_is)
    (case xbegin_4 => k_is)
    (case xfinish0 => k_is)
    (case xfinish1 => k_is)
    (case xfinish2 => k_is)
    (case xfinish3 => k_is)
    (case xfinish4 => k_is)
    (case xgo0 => k_is)
    (case xgo1 => k_is)
    (case xgo2 => k_is)
    (case xgo3 => k_is)
    (case xgo4 => k_is)
    (case xstep0 => k_is)
    (case xstep1 => k_is)
    (case xstep2 => k_is)
    (case xstep3 => k_is)
    (case xstep4 => k_is)
    (case xenter0 => k_is)
    (case xenter1 => k_is)
    (case xenter2 => k_is)
    (case xenter3 => k_is)
    (case xenter4 => k_is)
    (case xcalled0 => k_is)
    (case xcalled1 => k_is)
    (case xcalled2 => k_is)
    (case xcalled3 => k_is)
    (case xcalled4 => k_is)
    (case yPlace0 => k_is)
    (case yPlace1 => k_is)
    (case yPlace2 => k_is)
    (case yPlace3 => k_is)
    (case yPlace4 => k_is)
    (case yPlace5 => k_is)
    (case yPlace6 => k_is)
    (case yFrame0 => k_is)
    (case yFrame1 => k_is)
    (case yFrame2 => k_is)
    (case yFrame3 => k_is)
    (case yFrame4 => k_is)
    (case yFrame5 => k_is)
    (case yFrame6 => k_is)
    (case yState0 => k_is)
    (case yState1 => k_is)
    (case yState2 => k_is)
    (case yState3 => k_is)
    (case yState4 => k_is)
    (case yState5 => k_is)
    (case yState6 => k_is)
    (case yMachine0 => k_is)
    (case yMachine1 => k_is)
    (case yMachine2 => k_is)
    (case yMachine3 => k_is)
    (case yMachine4 => k_is)
    (case yMachine5 => k_is)
    (case yMachine6 => k_is)
    (case yRun0 => k_is)
    (case yRun1 => k_is)
    (case yRun2 => k_is)
    (case yRun3 => k_is)
    (case yRun4 => k_is)
    (case yRun5 => k_is)
    (case yRun6 => k_is)
    (case yP0 => k_is)
    (case yP1 => k_is)
    (case yP2 => k_is)
    (case yP3 => k_is)
    (case yP4 => k_is)
    (case yP5 => k_is)
    (case yP6 => k_is)
    (case yG0 => k_is)
    (case yG1 => k_is)
    (case yG2 => k_is)
    (case yG3 => k_is)
    (case yG4 => k_is)
    (case yG5 => k_is)
    (case yG6 => k_is)
    (case w1 => k_is)
    (case w2 => k_is)
    (case w3 => k_is)
    (case w4 => k_is)
    (case w5 => k_is)
    (case w6 => k_is)
    (case zml => k_is)
    (case zmm => k_keys)
    (case zf0 => k_is)
    (case zf1 => k_is)
    (case zf2 => k_is)
    (case zf3 => k_is)
    (case zf4 => k_is)
    (case zf5 => k_is)
    (case zf6 => k_is)
    (case zf7 => k_is)
    (case zf8 => k_is)
    (case zf9 => k_is)
