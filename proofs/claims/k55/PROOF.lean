import PyProof.Rows.All
import Wide.All
import OpenK.AllK
import Wide.FinOn
import HandS.ForMost
import HandS.Evl
import HandS.Steps
import HandS.Wide
import HandS.IsInst
import HandS.Defaults
import HandS.Style
import HandS.Codes
import HandS.Walk
import HandS.Flow
import HandS.TupAny
import KE.KxText
import HandS.DictComp
import HandS.Zip
import HandS.Conv
import HandS.Deep
import PyProof.AutoSeq1
import PyProof.Rows.StrDouble
import KE.KStrOpen
import KE.KExcSuper
import KE.KSuper
import HandS.ExcInit
import HandS.NestedK
import HandS.FStr
import HandS.ExcValue
import HandS.ExcField
import HandS.ExcIs
import KE.KExcIs
import HandS.ExcOwn
import HandS.WordsExc
import HandS.TryOnly
import HandS.SetFor
import HandS.MakeKwOnly
import HandS.FStrTup
import PyProof.ReprLen
import KE.KIntText
import KE.KDictKeyed
import KE.KeyNested
import HandS.More
import HandS.Dict
import HandS.RevRange
import HandS.Rev
import HandS.HeadHook3
import KE.OsRunLaw
import PySem.Challenge.RW_claimworlds_k55_trimmed
set_option Elab.async false
set_option linter.all false
set_option maxRecDepth 100000
set_option maxHeartbeats 1000000
namespace CW
open PySem PySem.Spec PyProof.Rows L2

/-! heaps that grow -/
abbrev Xt (H H' : Hp) : Prop := ∀ a o, H a = some o → H' a = some o
theorem xrefl (H : Hp) : Xt H H := fun _ _ h => h
theorem xtr {H H1 H2 : Hp} (a : Xt H H1) (b : Xt H1 H2) : Xt H H2 := fun x o h => b x o (a x o h)
theorem xnew {H : Hp} {p : Addr} {o : HO} (h : H p = none) : Xt H (upd H p o) := fun a u e => by
  rw [upd_ne (ne_of_none e h)]; exact e
theorem xmut {H H' : Hp} {p : Addr} {o : HO} (e : Xt H H') (h : H p = none) : Xt H (upd H' p o) := fun a u ha => by
  rw [upd_ne (ne_of_none ha h)]; exact e a u ha
theorem xfree {H H' : Hp} {p : Addr} (e : Xt H H') (h : H' p = none) : H p = none := by
  cases h1 : H p with
  | none => rfl
  | some o => rw [e p o h1] at h; cases h
theorem xl {K : PySem.W.Frag} {H H' : Hp} {a : Addr} {xs : List V} (e : Xt H H') (h : SqL K H a xs) : SqL K H' a xs := by
  rcases h with (h | ⟨o, h⟩) | h
  · exact .inl (.inl (e _ _ h))
  · exact .inl (.inr ⟨o, e _ _ h⟩)
  · exact .inr h
theorem xt {K : PySem.W.Frag} {H H' : Hp} {a : Addr} {xs : List V} (e : Xt H H') (h : SqT K H a xs) : SqT K H' a xs := by
  rcases h with (h | ⟨o, h⟩) | h
  · exact .inl (.inl (e _ _ h))
  · exact .inl (.inr ⟨o, e _ _ h⟩)
  · exact .inr h
theorem sql {K : PySem.W.Frag} {H : Hp} {a : Addr} {xs : List V} (h : H a = some (.lst xs)) : SqL K H a xs := .inl (.inl h)
theorem sqt {K : PySem.W.Frag} {H : Hp} {a : Addr} {xs : List V} (h : H a = some (.tup xs)) : SqT K H a xs := .inl (.inl h)
theorem szle {n : Nat} (h : n ≤ 100000) : n ≤ sizeLine := Nat.le_trans h (by decide)
theorem szlt {n : Nat} (h : n < 100000) : n < sizeLine := Nat.lt_of_lt_of_le h (by decide)

/-! steps -/
section
variable {K : PySem.W.Frag} {σ : L2.St} {H : Hp} {Q : VK} {D : Ends} {t u : TS} {te ta tb tc : TE} {tt tw : TT} {g : TG} {i : Nat} {v x y : V} {r : R2}
theorem k_seq (h : t { D with nx := u D } σ H) : tSeq t u D σ H := h
theorem k_next (h : D.nx σ H) : tNext D σ H := h
theorem k_asg (h : te σ H fun x H1 => g x σ H1 D.nx) : tAsg te g D σ H := h
theorem k_name {R : L2.St → Hp → Prop} (h : R (σ.set i (some v)) H) : gName i v σ H R := h
theorem k_drop (h : te σ H fun _ H1 => D.nx σ H1) : tDrop te D σ H := h
theorem k_ret (h : te σ H D.rt) : tRet te D σ H := h
theorem k_ifs (h : tt σ H fun b H1 => if b = true then t D σ H1 else u D σ H1) : tIfS tt t u D σ H := h
theorem k_var (h : σ[i]? = some (some v)) (q : Q v H) : tVar i σ H Q := ⟨v, h, q⟩
theorem k_c (q : Q v H) : tC v σ H Q := q
theorem k_op (h : ta σ H fun x H1 => tb σ H1 fun y H2 => r x y H2 Q) : tOp r ta tb σ H Q := h
theorem k_un {r : V → Hp → VK → Prop} (h : ta σ H fun x H1 => r x H1 Q) : tUn r ta σ H Q := h
theorem k_cons {tr : TA} {R : List V → Hp → Prop} (h : ta σ H fun x H1 => tr σ H1 fun xs H2 => R (x :: xs) H2) : tCons ta tr σ H R := h
theorem k_nil {R : List V → Hp → Prop} (h : R [] H) : tNil σ H R := h
theorem k_cb {rr : List V → Hp → VK → Prop} {ts : TA} (h : ts σ H fun vs H1 => rr vs H1 Q) : tCB rr ts σ H Q := h
theorem k_call {sp : Sp} {dvs : List V} {E : XK} {ts : TA} (h : ts σ H fun vs H1 => sp (vs ++ dvs) H1 Q E) : tCall sp dvs E ts σ H Q := h
theorem k_test {R : Bool → Hp → Prop} (h : te σ H fun x H' => ∃ k, x = .bl k ∧ R k H') : tTest te σ H R := h
theorem k_tb {R : Bool → Hp → Prop} (h : te σ H fun x H' => ∃ k, x = .bl k ∧ R k H') : tB te σ H R := h
theorem k_not {R : Bool → Hp → Prop} (h : tt σ H fun c H1 => R (!c) H1) : tNot tt σ H R := h
theorem k_and {R : Bool → Hp → Prop} (h : tt σ H fun c H1 => if c = true then tw σ H1 R else R false H1) : tAnd tt tw σ H R := h
theorem k_or {R : Bool → Hp → Prop} (h : tt σ H fun c H1 => if c = true then R true H1 else tw σ H1 R) : tOr tt tw σ H R := h
theorem k_andV (h : ta σ H fun x H1 => ∃ c, x = .bl c ∧ if c = true then tb σ H1 Q else Q (.bl false) H1) : tAndV ta tb σ H Q := h
theorem k_notV (h : ta σ H fun x H1 => ∃ c, x = .bl c ∧ Q (.bl (!c)) H1) : tNotV ta σ H Q := h
theorem k_ife (h : tt σ H fun c H1 => if c = true then ta σ H1 Q else tb σ H1 Q) : tIf tt ta tb σ H Q := h
theorem k_yes {A B : Prop} (h : A) : if true = true then A else B := iteT h
theorem k_no {A B : Prop} (h : B) : if false = true then A else B := iteF h
theorem k_if {c : Prop} [Decidable c] {A B : Prop} (h1 : c → A) (h2 : ¬ c → B) : if decide c = true then A else B := by
  by_cases h : c
  · rw [decide_eq_true h]; exact iteT (h1 h)
  · rw [decide_eq_false h]; exact iteF (h2 h)
theorem k_ifn {c : Prop} [Decidable c] {A B : Prop} (h1 : ¬ c → A) (h2 : c → B) : if (!decide c) = true then A else B := by
  by_cases h : c
  · rw [decide_eq_true h]; exact iteF (h2 h)
  · rw [decide_eq_false h]; exact iteT (h1 h)
/-! value operations -/
theorem v_I0 {gg : Int → Int → V} {i j : Int} (q : Q (gg i j) H) : rI0 gg (.int i) (.int j) H Q := ⟨i, j, rfl, rfl, q⟩
theorem v_I {C : Int → Int → Prop} {gg : Int → Int → V} {i j : Int} (hc : C i j) (q : Q (gg i j) H) : rI C gg (.int i) (.int j) H Q := ⟨i, j, rfl, rfl, hc, q⟩
theorem v_neg {i : Int} (q : Q (.int (-i)) H) : rU (fun i => .int (-i)) (.int i) H Q := ⟨i, rfl, q⟩
def rPlus (K : PySem.W.Frag) : R2 := fun x y H Q => rI0 (fun i j => .int (i + j)) x y H Q ∨ ((∃ i j, x = .str i ∧ y = .str j ∧ i.length + j.length ≤ sizeLine ∧ Q (.str (i ++ j)) H) ∨ (rCat x y H Q ∨ rCatA K x y H Q))
theorem v_plus_int {i j : Int} (q : Q (.int (i + j)) H) : rPlus K (.int i) (.int j) H Q := .inl ⟨i, j, rfl, rfl, q⟩
theorem v_plus_lst {a b : Addr} {xs ys : List V} (ha : H a = some (.lst xs)) (hb : H b = some (.lst ys)) (hz : xs.length + ys.length ≤ sizeLine) (q : ∀ p H', H p = none → Xt H H' → H' p = some (.lst (xs ++ ys)) → Q (.ref p) H') : rPlus K (.ref a) (.ref b) H Q :=
  .inr (.inr (.inl ⟨a, b, xs, ys, rfl, rfl, ha, hb, hz, fun p hp => q p _ hp (xnew hp) upd_same⟩))
def rTimes : R2 := fun x y H Q => rI CMul (fun i j => .int (i * j)) x y H Q ∨ (∃ (a : Str) (n : Int), x = .str a ∧ y = .int n ∧ 0 ≤ n ∧ n ≤ 1000 ∧ a.length ≤ 1000 ∧ ∀ z : Str, z.length = a.length * n.toNat → Q (.str z) H)
theorem v_times_int {i j : Int} (h : CMul i j) (q : Q (.int (i * j)) H) : rTimes (.int i) (.int j) H Q := .inl ⟨i, j, rfl, rfl, h, q⟩
end

theorem rep_len (xs : Array Nat) : ∀ n : Nat, ((List.replicate n xs).foldl (· ++ ·) #[]).size = xs.size * n := by
  have h : ∀ (n : Nat) (acc : Array Nat), ((List.replicate n xs).foldl (· ++ ·) acc).size = acc.size + xs.size * n := by
    intro n
    induction n with
    | zero => intro acc; simp
    | succ n ih =>
      intro acc
      rw [List.replicate_succ, List.foldl_cons, ih, Array.size_append, Nat.mul_succ]
      omega
  intro n
  rw [h n #[]]
  simp
section
variable {X : Cx}
theorem op_plus : OpR X (binaryOp .Add) (rPlus X.K) := OpR.or op_add (OpR.or op_add_str (OpR.or op_cat op_catA))
theorem op_mul_str : OpR X (binaryOp .Mult) (fun x y H Q => ∃ (a : Str) (n : Int), x = .str a ∧ y = .int n ∧ 0 ≤ n ∧ n ≤ 1000 ∧ a.length ≤ 1000 ∧ ∀ z : Str, z.length = a.length * n.toNat → Q (.str z) H) := by
  intro pins s σ H x y v u Q I rx ry h
  obtain ⟨a, n, rfl, rfl, h0, h1, h2, q⟩ := h
  obtain ⟨t, rfl⟩ := rx
  obtain ⟨t', rfl⟩ := ry
  have hm : a.length * n.toNat ≤ 1000 * 1000 := Nat.mul_le_mul h2 (by omega)
  refine PySem.P.mul_str ?_ ?_ ?_ ?_
  · rw [decide_eq_false (by omega), decide_eq_false (by omega)]; rfl
  · intro hn _ hgt
    have : (1000 : Int) ≤ (2 ^ 63 - 1) / n := Int.le_ediv_of_mul_le (by omega) (by omega)
    omega
  · intro _ _
    have e : (PySem.Builtin.Str.tooLong (a.length * n.toNat)) = false := by
      unfold PySem.Builtin.Str.tooLong
      apply decide_eq_false
      have : (1000 * 1000 : Nat) ≤ sizeLine := by decide
      first | omega | skip
    exact e
  · by_cases hn : n < 1
    · rw [if_pos hn]
      have e0 : n.toNat = 0 := by omega
      exact ⟨by decide, ⟨.str Str.empty, H, I.tok _, ⟨_, rfl⟩, q _ (by rw [e0, Nat.mul_zero]; rfl)⟩⟩
    · rw [if_neg hn]
      by_cases h3 : (n == 1 || a.length == 0) = true
      · rw [if_pos h3]
        refine ⟨.str a, H, I, ⟨_, rfl⟩, q _ ?_⟩
        rw [Bool.or_eq_true] at h3
        rcases h3 with h3 | h3
        · have : n = 1 := eq_of_beq h3
          subst this; simp
        · have : a.length = 0 := eq_of_beq h3
          rw [this]; simp
      · rw [if_neg h3]
        refine ⟨?_, ⟨.str _, H, I.tok _, ⟨_, rfl⟩, q _ ?_⟩⟩
        · show ((List.replicate n.toNat a.cps).foldl (· ++ ·) #[]).size ≤ sizeLine
          rw [rep_len]
          exact Nat.le_trans hm (by decide)
        · exact rep_len a.cps n.toNat
theorem op_times : OpR X (binaryOp .Mult) rTimes := OpR.or op_mul op_mul_str
end
end CW

set_option Elab.async false
set_option linter.all false
set_option maxRecDepth 100000
set_option maxHeartbeats 1000000
namespace CW
open PySem PySem.Spec PyProof.Rows L2
section
variable {X : Cx}
def rLenU (K : PySem.W.Frag) : List V → Hp → VK → Prop := fun xs H Q => (∃ p ys, xs = [.ref p] ∧ (SqL K H p ys ∨ SqT K H p ys) ∧ Q (.int ys.length) H) ∨ ∃ z : Str, xs = [.str z] ∧ z.length ≤ sizeLine ∧ Q (.int z.length) H
theorem call_lenU : CallR X (.builtin "len") (rLenU X.K) := CallR.or call_len_seq call_len_str
def rInt1 : List V → Hp → VK → Prop := fun xs H Q => (∃ i, xs = [.int i] ∧ Q (.int i) H) ∨ ∃ k, xs = [.bl k] ∧ Q (.int (if k then 1 else 0)) H
theorem call_intU : CallR X (.type "int") rInt1 := call_int1
def rSlU (K : PySem.W.Frag) : V → Option Int → Option Int → Hp → VK → Prop := fun x lo hi H Q => rSlL K x lo hi H Q ∨ (rSlS x lo hi H Q ∨ rSlA K x lo hi H Q)
theorem sl_any : SlR X (rSlU X.K) := SlR.or sl_list (SlR.or sl_str sl_tupA)
def rInU (K : PySem.W.Frag) : R2 := fun x y H Q => rInS x y H Q ∨ rIn K false x y H Q
theorem op_inU : OpR X (compareOp .In) (rInU X.K) := OpR.or op_inS op_in_seq
end
section
variable {K : PySem.W.Frag} {σ : L2.St} {H : Hp} {Q : VK} {D : Ends} {te ta tb : TE} {a : Addr} {xs : List V} {z : Str} {i : Int} {v x : V} {c : Nat}
theorem v_len_l (h : SqL K H a xs) (q : Q (.int xs.length) H) : rLenU K [.ref a] H Q := .inl ⟨a, xs, rfl, .inl h, q⟩
theorem v_len_t (h : SqT K H a xs) (q : Q (.int xs.length) H) : rLenU K [.ref a] H Q := .inl ⟨a, xs, rfl, .inr h, q⟩
theorem v_int (q : Q (.int i) H) : rInt1 [.int i] H Q := .inl ⟨i, rfl, q⟩
theorem v_ix_l (h : SqL K H a xs) (ha : atI xs i = some v) (q : Q v H) : rIx K (.ref a) (.int i) H Q := .inl ⟨a, xs, i, v, rfl, rfl, h, ha, q⟩
theorem v_ix_t (h : SqT K H a xs) (ha : atI xs i = some v) (q : Q v H) : rIx K (.ref a) (.int i) H Q := .inr (.inl ⟨a, xs, i, v, rfl, rfl, h, ha, q⟩)
theorem k_sl {r : V → Option Int → Option Int → Hp → VK → Prop} {tl th : TO} (h : te σ H fun x H1 => tl σ H1 fun lo H2 => th σ H2 fun hi H3 => r x lo hi H3 Q) : tSl r te tl th σ H Q := h
theorem k_nopart {R : Option Int → Hp → Prop} (h : R none H) : tNoPart σ H R := h
theorem k_part {R : Option Int → Hp → Prop} (h : te σ H fun x H1 => ∃ i, x = .int i ∧ R (some i) H1) : tPart te σ H R := h
theorem v_sl_l {lo hi : Option Int} (h : SqL K H a xs) (q : ∀ p H', H p = none → Xt H H' → H' p = some (.lst (cutV xs lo hi)) → Q (.ref p) H') : rSlU K (.ref a) lo hi H Q :=
  .inl ⟨a, xs, rfl, h, fun p hp => q p _ hp (xnew hp) upd_same⟩
theorem v_in_q (h : SqL K H a xs ∨ SqT K H a xs) (hx : flatV x = true) (hf : xs.all flatV = true) (q : Q (.bl (inV x xs)) H) : rInU K x (.ref a) H Q := .inr ⟨a, xs, rfl, h, hx, hf, q⟩
def LcB (J : It) (g : TG) (tt : TT) (te : TE) (vs : List Nat) (σ : L2.St) (Q : VK) (H1 : Hp) : Prop := ∀ D, H1 D = none → ∃ W : Nat → Nat → Hp → Prop, (∃ m, W 0 m (upd H1 D (.lst []))) ∧ ∀ i m H, W i m H →
  (J.stop i H ∧ Q (.ref D) H) ∨ (J.go i H ∧ ∃ Nx : Hp → Prop, (∀ H', Nx H' → ∃ m', m' < m ∧ W (i + 1) m' H') ∧ ∀ x H', J.yld i H x H' → g x (wipe σ vs) H' fun σ2 H2 => wipe σ2 vs = wipe σ vs ∧ tt σ2 H2 fun b H3 =>
    if b = true then te σ2 H3 fun y H4 => ∃ acc, H4 D = some (.lst acc) ∧ acc.length < sizeLine ∧ Nx (upd H4 D (.lst (acc ++ [y]))) else Nx H3)
theorem k_lcl {g : TG} {tt : TT} {vs : List Nat} {wi : TI} (h : wi σ H fun J H1 => LcB J g tt te vs σ Q H1) : tLc wi g tt te vs σ H Q := h
end
structure LcW (P : Nat → V → Hp → Prop) (H1 : Hp) (Dl : Addr) (i : Nat) (H : Hp) : Prop where
  x : Xt H1 H
  ys : ∃ ys, H Dl = some (.lst ys) ∧ ys.length = i ∧ ∀ j y, ys[j]? = some y → P j y H
theorem LcW.turn {P : Nat → V → Hp → Prop} (mono : ∀ i y H H', Xt H H' → P i y H → P i y H') (hup : ∀ i y H b xs ys, H b = some (.lst xs) → P i y H → P i y (upd H b (.lst ys))) {H1 H H4 : Hp} {Dl : Addr} {i : Nat} {y : V} (hD : H1 Dl = none) (w : LcW P H1 Dl i H) (hx : Xt H H4) (hp : P i y H4) (hi : i < 100000) :
    ∃ acc, H4 Dl = some (.lst acc) ∧ acc.length < sizeLine ∧ LcW P H1 Dl (i + 1) (upd H4 Dl (.lst (acc ++ [y]))) := by
  obtain ⟨x, ys, e, l, h⟩ := w
  refine ⟨ys, hx _ _ e, by rw [l]; exact szlt hi, ⟨xmut (xtr x hx) hD, ys ++ [y], upd_same, by simp [l], fun j z hz => ?_⟩⟩
  refine hup _ _ _ _ ys _ (hx _ _ e) ?_
  by_cases hj : j < ys.length
  · rw [List.getElem?_append_left hj] at hz
    exact mono _ _ _ _ hx (h j z hz)
  · have : j = ys.length := by
      have := (List.getElem?_eq_some_iff.mp hz).1
      simp at this; omega
    subst this
    simp at hz
    subst hz
    rw [l]; exact hp
section
variable {K : PySem.W.Frag} {σ : L2.St} {H : Hp} {Q : VK} {te : TE} {vs : List Nat} {j : Nat} {Dl : Addr} {g : TG} {tt : TT}
theorem k_yesT {R : Bool → Hp → Prop} (h : R true H) : tYes σ H R := h
abbrev PV0 (P : Nat → V → Prop) : Nat → V → Hp → Prop := fun i y _ => P i y
theorem lc_rng {n : Nat} {lo : Int} (P : Nat → V → Prop) (hD : H Dl = none) (hn : n < 100000) (hw : ∀ x, wipe ((wipe σ vs).set j (some x)) vs = wipe σ vs)
    (body : ∀ i H', i < n → Xt H H' → ∀ R : VK, (∀ y H2, Xt H' H2 → P i y → R y H2) → te ((wipe σ vs).set j (some (.int (lo + (i : Int))))) H' R)
    (k : ∀ ys H2, ys.length = n → (∀ (i : Nat) (y : V), ys[i]? = some y → P i y) → Xt H H2 → H2 Dl = some (.lst ys) → Q (.ref Dl) H2) :
    ∃ W : Nat → Nat → Hp → Prop, (∃ m, W 0 m (upd H Dl (.lst []))) ∧ ∀ i m H, W i m H →
      ((Itr lo n).stop i H ∧ Q (.ref Dl) H) ∨ ((Itr lo n).go i H ∧ ∃ Nx : Hp → Prop, (∀ H', Nx H' → ∃ m', m' < m ∧ W (i + 1) m' H') ∧ ∀ x H', (Itr lo n).yld i H x H' → gName j x (wipe σ vs) H' fun σ2 H2 => wipe σ2 vs = wipe σ vs ∧ tYes σ2 H2 fun b H3 =>
        if b = true then te σ2 H3 fun y H4 => ∃ acc, H4 Dl = some (.lst acc) ∧ acc.length < sizeLine ∧ Nx (upd H4 Dl (.lst (acc ++ [y]))) else Nx H3) :=
  lc_range (g := gName j) (tt := tYes) (te := te) (σ := σ) (vs := vs) (fun i H' => LcW (PV0 P) H Dl i H') ⟨xnew hD, [], upd_same, rfl, fun _ _ e => by simp at e⟩
    (fun i H' hi w => ⟨hw _, by refine k_yesT ?_; rw [if_pos rfl]; exact (body i H' hi w.x _ fun y H2 x2 hp => w.turn (fun _ _ _ _ _ h => h) (fun _ _ _ _ _ _ _ h => h) hD x2 hp (by omega))⟩)
    (fun H' w => by obtain ⟨x, ys, e, l, h⟩ := w; exact k ys H' l h x e)
theorem b_rng {n : Nat} {lo : Int} (P : Nat → V → Prop) (hn : n < 100000) (hw : ∀ x, wipe ((wipe σ vs).set j (some x)) vs = wipe σ vs)
    (body : ∀ i H', i < n → Xt H H' → ∀ R : VK, (∀ y H2, Xt H' H2 → P i y → R y H2) → te ((wipe σ vs).set j (some (.int (lo + (i : Int))))) H' R)
    (k : ∀ Dl ys H2, H Dl = none → ys.length = n → (∀ (i : Nat) (y : V), ys[i]? = some y → P i y) → Xt H H2 → H2 Dl = some (.lst ys) → Q (.ref Dl) H2) : LcB (Itr lo n) (gName j) tYes te vs σ Q H :=
  fun Dl hD => lc_rng P hD hn hw body fun ys H2 l h x e => k Dl ys H2 hD l h x e
end
end CW

set_option Elab.async false
set_option linter.all false
set_option maxRecDepth 100000
set_option maxHeartbeats 1000000
namespace CW
open PySem PySem.Spec PyProof.Rows L2
section
variable {K : PySem.W.Frag} {σ : L2.St} {H : Hp} {Q : VK} {D : Ends} {te to : TE} {a l : Addr} {xs : List V} {z : Str} {i : Int} {v x : V} {c : Nat} {t : TA}
def NewL (xs : List V) (H : Hp) (Q : VK) : Prop := xs.length ≤ sizeLine ∧ ∀ p, H p = none → Q (.ref p) (upd H p (.lst xs))
def NewT (xs : List V) (H : Hp) (Q : VK) : Prop := xs.length ≤ sizeLine ∧ ∀ p, H p = none → Q (.ref p) (upd H p (.tup xs))
theorem k_lst0 (h : t σ H fun xs H1 => NewL xs H1 Q) : tLst t σ H Q := h
theorem k_tup0 (h : t σ H fun xs H1 => NewT xs H1 Q) : tTup t σ H Q := h
theorem v_new (hz : xs.length ≤ 100000) (q : ∀ p H2, H p = none → Xt H H2 → H2 p = some (.lst xs) → Q (.ref p) H2) : NewL xs H Q :=
  ⟨szle hz, fun p hp => q p _ hp (xnew hp) upd_same⟩
theorem v_newT (hz : xs.length ≤ 100000) (q : ∀ p H2, H p = none → Xt H H2 → H2 p = some (.tup xs) → Q (.ref p) H2) : NewT xs H Q :=
  ⟨szle hz, fun p hp => q p _ hp (xnew hp) upd_same⟩
theorem k_cut {t' u' : TS} (Mid : L2.St → Hp → Prop) (h1 : t' { D with nx := Mid } σ H) (h2 : ∀ σ' H', Mid σ' H' → u' D σ' H') : Evl.tCut t' u' D σ H := ⟨Mid, h1, h2⟩
theorem k_bm {T : String} {r : V → List V → Hp → VK → Prop} (h : to σ H fun x H1 => tyV K T x H1 ∧ t σ H1 fun xs H2 => r x xs H2 Q) : tBM K T r to t σ H Q := h
theorem v_app (e : H l = some (.lst xs)) (hz : xs.length < 100000) (q : Q .non (upd H l (.lst (xs ++ [v])))) : rAppend (.ref l) [v] H Q := ⟨l, xs, v, rfl, rfl, e, szlt hz, q⟩
theorem ty_l (e : H l = some (.lst xs)) : tyV K "list" (.ref l) H := .inl ⟨rfl, xs, sql e⟩
theorem k_for {wi : TI} {g : TG} {tb : TS} (h : wi σ H fun J H1 => ∃ W : Nat → Nat → L2.St → Hp → Prop, (∃ m, W 0 m σ H1) ∧ ∀ i m σ H, W i m σ H →
  (J.stop i H ∧ D.nx σ H) ∨ (J.go i H ∧ ∃ N : L2.St → Hp → Prop, (∀ σ' H', N σ' H' → ∃ m', m' < m ∧ W (i + 1) m' σ' H') ∧ ∀ x H', J.yld i H x H' → g x σ H' fun σ2 H2 => tb { D with nx := N, ct := N, bk := D.nx } σ2 H2)) : tFor wi g tb D σ H := h
theorem k_ilist {R : It → Hp → Prop} (h : te σ H fun x H1 => ∃ a, x = .ref a ∧ (∃ xs, SqL K H1 a xs) ∧ R (Itl K a) H1) : iList K te σ H R := h
theorem k_itup {R : It → Hp → Prop} (h : te σ H fun x H1 => ∃ a, x = .ref a ∧ (∃ xs, SqT K H1 a xs) ∧ R (Itt K a) H1) : iTup K te σ H R := h
theorem k_irng1 {R : It → Hp → Prop} (h : t σ H fun vs H1 => ∃ j : Int, vs = [.int j] ∧ -(2 ^ 62) ≤ j ∧ j < 2 ^ 62 ∧ R (Itr 0 j.toNat) H1) : iRng1 t σ H R := h
theorem v_isi_str (q : Q (.bl true) H) : rIsi K [.str z, .ty "str"] H Q := ⟨.str z, .ty "str", .type "str", .type "str", true, rfl, .ty "str", .base (.str z), kit_ty (by decide +kernel), q⟩
end
section
variable {X : Cx} {o e : Expr} {to te : TE}
end
/-! places -/
theorem atI_ok {α : Type} {l : List α} {i : Int} (h0 : 0 ≤ i) (h1 : i < (l.length : Int)) : ∃ c, atI l i = some c ∧ l[i.toNat]? = some c := by
  have h : i.toNat < l.length := by omega
  obtain ⟨j, rfl⟩ : ∃ j : Nat, i = (j : Int) := ⟨i.toNat, by omega⟩
  exact ⟨l[j]'(by omega), atI_nat (List.getElem?_eq_getElem (by omega)), by rw [Int.toNat_natCast]; exact List.getElem?_eq_getElem (by omega)⟩
theorem atI_int {ns : List Int} {i : Int} (h0 : 0 ≤ i) (h1 : i < (ns.length : Int)) : ∃ n, atI (ns.map V.int) i = some (.int n) ∧ ns[i.toNat]? = some n := by
  obtain ⟨c, e1, e2⟩ := atI_ok (l := ns.map V.int) h0 (by rw [List.length_map]; exact h1)
  rw [List.getElem?_map] at e2
  cases q : ns[i.toNat]? with
  | none => rw [q] at e2; cases e2
  | some n => rw [q] at e2; cases e2; exact ⟨n, e1, rfl⟩
theorem map_int_at {ns : List Int} {i : Nat} {x : V} (h : (ns.map V.int)[i]? = some x) : ∃ n, x = .int n ∧ ns[i]? = some n := by
  rw [List.getElem?_map] at h
  cases q : ns[i]? with
  | none => rw [q] at h; cases h
  | some n => rw [q] at h; cases h; exact ⟨n, rfl, rfl⟩
/-! digits -/
def DigOk (ds ss : List Int) : Prop := ds.length = ss.length ∧ ∀ (j : Nat) (d s : Int), ds[j]? = some d → ss[j]? = some s → 0 ≤ d ∧ d < s
theorem DigOk.nil : DigOk [] [] := ⟨rfl, fun _ _ _ h => by simp at h⟩
theorem DigOk.snoc {ds ss : List Int} {i : Nat} {d s : Int} (h : DigOk ds (ss.take i)) (hs : ss[i]? = some s) (h0 : 0 ≤ d) (h1 : d < s) : DigOk (ds ++ [d]) (ss.take (i + 1)) := by
  have hi : i < ss.length := (List.getElem?_eq_some_iff.mp hs).1
  have hl : ds.length = i := by rw [h.1, List.length_take]; omega
  refine ⟨by rw [List.length_append, hl, List.length_take, List.length_singleton]; omega, fun j e t he ht => ?_⟩
  by_cases hj : j < i
  · rw [List.getElem?_append_left (by omega)] at he
    rw [List.getElem?_take_of_lt (by omega)] at ht
    exact h.2 j e t he (by rw [List.getElem?_take_of_lt hj]; exact ht)
  · have : j = i := by
      have := (List.getElem?_eq_some_iff.mp he).1
      rw [List.length_append, List.length_singleton] at this; omega
    subst this
    rw [List.getElem?_take_of_lt (by omega), hs] at ht
    rw [List.getElem?_append_right (by omega), hl] at he
    simp at he
    cases ht
    subst he
    exact ⟨h0, h1⟩
/-! texts -/
/-! lengths -/
/-! lists of values told one by one -/
theorem DigOk.get {ds ss : List Int} (h : DigOk ds ss) {s : Int} (k : Nat) (i : Int) (hi : i = (k : Int)) (hs : ss[k]? = some s) : ∃ d, atI (ds.map V.int) i = some (.int d) ∧ 0 ≤ d ∧ d < s := by
  have hk : k < ss.length := (List.getElem?_eq_some_iff.mp hs).1
  have hk2 : k < ds.length := by rw [h.1]; exact hk
  refine ⟨ds[k], ?_, h.2 k _ s (List.getElem?_eq_getElem hk2) hs⟩
  rw [hi]
  exact atI_nat (by rw [List.getElem?_map, List.getElem?_eq_getElem hk2]; rfl)
theorem DigOk.at {ds ss : List Int} (h : DigOk ds ss) {j : Nat} {d : Int} (hd : ds[j]? = some d) : ∃ s, ss[j]? = some s ∧ 0 ≤ d ∧ d < s := by
  have hj : j < ss.length := by rw [← h.1]; exact (List.getElem?_eq_some_iff.mp hd).1
  exact ⟨ss[j], List.getElem?_eq_getElem hj, h.2 j d _ hd (List.getElem?_eq_getElem hj)⟩
end CW

set_option Elab.async false
set_option linter.all false
set_option maxRecDepth 100000
set_option maxHeartbeats 1000000
namespace CW
open PySem PySem.Spec PyProof.Rows L2
theorem abs_rel {u : Value} {x : V} (h : absV u = some x) : RelV x u := by
  cases u <;> simp [absV] at h <;> subst h <;> first | rfl | exact ⟨_, rfl⟩
theorem abs_vals : ∀ {us : List Value} {xs : List V}, us.map absV = xs.map some → Vals xs us
  | [], [], _ => .nil
  | [], _ :: _, h => by cases h
  | _ :: _, [], h => by cases h
  | u :: us, x :: xs, h => by
    rw [List.map_cons, List.map_cons] at h
    injection h with h1 h2
    exact .cons (abs_rel h1) (abs_vals h2)
section
variable {K : PySem.W.Frag} {x qual : Str} {st : Stmt} {f : Addr} {fd : FuncData} {ps ks : List Str}
theorem sqt_K {a : Addr} {oc : Value} {od : Option Addr} {its : Array Value} {n : Nat} {sl : Array (Option Value)} {xs : List V} (l : K.lookup a = some ⟨oc, od, .seq its n, sl⟩) (c : oc = .type "tuple") (z : its.size ≤ sizeLine) (h : its.toList.map absV = xs.map some) (H : Hp) : SqT K H a xs :=
  .inr ⟨_, its, n, l, c, rfl, z, abs_vals h⟩
end
end CW

set_option Elab.async false
set_option linter.all false
set_option maxRecDepth 100000
set_option maxHeartbeats 1000000
/-! nested data -/
namespace CW
open PySem PySem.Spec PyProof.Rows L2
theorem szL {n : Nat} (h : n ≤ 10000000) : n ≤ sizeLine := Nat.le_trans h (by decide)
theorem szL2 {n : Nat} (h : n < 10000000) : n < sizeLine := Nat.lt_of_lt_of_le h (by decide)
end CW
namespace L2
open PySem PySem.Spec PyProof.Rows CW
mutual
theorem Dp.mono {K : PySem.W.Frag} {H H' : Hp} (e : Xt H H') : ∀ {v : V} {d : PyData}, Dp K H v d → Dp K H' v d
  | _, _, .non => .non
  | _, _, .bl b => .bl b
  | _, _, .int i => .int i
  | _, _, .str x => .str x
  | _, _, .lst hs ha => .lst (xl e hs) (DpAll.mono e ha)
  | _, _, .tup hs ha => .tup (xt e hs) (DpAll.mono e ha)
theorem DpAll.mono {K : PySem.W.Frag} {H H' : Hp} (e : Xt H H') : ∀ {vs : List V} {ds : List PyData}, DpAll K H vs ds → DpAll K H' vs ds
  | _, _, .nil => .nil
  | _, _, .cons h1 h2 => .cons (Dp.mono e h1) (DpAll.mono e h2)
end
section
variable {K : PySem.W.Frag} {H H' : Hp} {v : V} {vs ws : List V} {d : PyData} {ds es : List PyData} {a : Addr}
theorem DpAll.len : ∀ {vs : List V} {ds : List PyData}, DpAll K H vs ds → vs.length = ds.length
  | _, _, .nil => rfl
  | _, _, .cons _ h => congrArg Nat.succ (DpAll.len h)
theorem DpAll.get : ∀ {vs : List V} {ds : List PyData} {i : Nat} {d : PyData}, DpAll K H vs ds → ds[i]? = some d → ∃ v, vs[i]? = some v ∧ Dp K H v d
  | _, _, _, _, .nil, e => by simp at e
  | _, _, 0, _, .cons h _, e => by simp at e; subst e; exact ⟨_, rfl, h⟩
  | _, _, i + 1, d, .cons _ h, e => by
    obtain ⟨v, h1, h2⟩ := DpAll.get (i := i) (d := d) h (by simpa using e)
    exact ⟨v, by simpa using h1, h2⟩
theorem DpAll.getV : ∀ {vs : List V} {ds : List PyData} {i : Nat} {v : V}, DpAll K H vs ds → vs[i]? = some v → ∃ d, ds[i]? = some d ∧ Dp K H v d
  | _, _, _, _, .nil, e => by simp at e
  | _, _, 0, _, .cons h _, e => by simp at e; subst e; exact ⟨_, rfl, h⟩
  | _, _, i + 1, d, .cons _ h, e => by
    obtain ⟨v, h1, h2⟩ := DpAll.getV (i := i) (v := d) h (by simpa using e)
    exact ⟨v, by simpa using h1, h2⟩
theorem DpAll.app : ∀ {vs ws : List V} {ds es : List PyData}, DpAll K H vs ds → DpAll K H ws es → DpAll K H (vs ++ ws) (ds ++ es)
  | _, _, _, _, .nil, h => h
  | _, _, _, _, .cons h1 h2, h => .cons h1 (DpAll.app h2 h)
theorem DpAll.drop : ∀ (n : Nat) {vs : List V} {ds : List PyData}, DpAll K H vs ds → DpAll K H (vs.drop n) (ds.drop n)
  | 0, _, _, h => h
  | _ + 1, _, _, .nil => .nil
  | n + 1, _, _, .cons _ h => DpAll.drop n h
theorem DpAll.take : ∀ (n : Nat) {vs : List V} {ds : List PyData}, DpAll K H vs ds → DpAll K H (vs.take n) (ds.take n)
  | 0, _, _, _ => .nil
  | _ + 1, _, _, .nil => .nil
  | n + 1, _, _, .cons h h2 => .cons h (DpAll.take n h2)
theorem DpAll.rev : ∀ {vs : List V} {ds : List PyData}, DpAll K H vs ds → DpAll K H vs.reverse ds.reverse
  | _, _, .nil => .nil
  | _, _, .cons h h2 => by
    rw [List.reverse_cons, List.reverse_cons]
    exact DpAll.app (DpAll.rev h2) (.cons h .nil)
def cutP (ds : List PyData) (lo hi : Option Int) : List PyData := (ds.drop (HT.sIx ds.length 0 lo)).take (HT.sIx ds.length ds.length hi - HT.sIx ds.length 0 lo)
theorem DpAll.cut {lo hi : Option Int} (h : DpAll K H vs ds) : DpAll K H (cutV vs lo hi) (cutP ds lo hi) := by
  unfold cutV cutP
  rw [h.len]
  exact DpAll.take _ (DpAll.drop _ h)
theorem Dp.tup_inv {ds : List PyData} (h : Dp K H v (.tuple ds)) : ∃ a xs, v = .ref a ∧ SqT K H a xs ∧ DpAll K H xs ds := by
  cases h with
  | tup hs ha => exact ⟨_, _, rfl, hs, ha⟩
theorem Dp.lst_inv {ds : List PyData} (h : Dp K H v (.list ds)) : ∃ a xs, v = .ref a ∧ SqL K H a xs ∧ DpAll K H xs ds := by
  cases h with
  | lst hs ha => exact ⟨_, _, rfl, hs, ha⟩
theorem Dp.str_inv {z : Str} (h : Dp K H v (.str z)) : v = .str z := by cases h; rfl
theorem Dp.int_inv {z : Int} (h : Dp K H v (.int z)) : v = .int z := by cases h; rfl
theorem DpAll.nil_inv (h : DpAll K H vs []) : vs = [] := by cases h; rfl
theorem DpAll.cons_inv (h : DpAll K H vs (d :: ds)) : ∃ w ws, vs = w :: ws ∧ Dp K H w d ∧ DpAll K H ws ds := by
  cases h with
  | cons h1 h2 => exact ⟨_, _, rfl, h1, h2⟩
theorem DpAll.ints_inv : ∀ {zs : List Int} {vs : List V}, DpAll K H vs (zs.map PyData.int) → vs = zs.map V.int
  | [], _, h => by cases h; rfl
  | z :: r, _, h => by
    obtain ⟨w, ws, rfl, h1, h2⟩ := DpAll.cons_inv h
    rw [Dp.int_inv h1, DpAll.ints_inv h2]; rfl
theorem DpAll.ints : ∀ (zs : List Int), DpAll K H (zs.map V.int) (zs.map PyData.int)
  | [] => .nil
  | z :: r => .cons (.int z) (DpAll.ints r)
theorem Dp.of_tup (e : H a = some (.tup vs)) (h : DpAll K H vs ds) : Dp K H (.ref a) (.tuple ds) := .tup (sqt e) h
theorem Dp.of_lst (e : H a = some (.lst vs)) (h : DpAll K H vs ds) : Dp K H (.ref a) (.list ds) := .lst (sql e) h
end
end L2
namespace CW
open PySem PySem.Spec PyProof.Rows L2
section
variable {K : PySem.W.Frag} {σ : L2.St} {H : Hp} {Q : VK} {a b : Addr} {xs ys : List V} {ds es : List PyData} {v x y : V} {d e : PyData} {i : Int}
/-! steps over data -/
theorem d_ix (h : Dp K H x (.tuple ds)) (ha : atI ds i = some d) (q : ∀ v, Dp K H v d → Q v H) : rIx K x (.int i) H Q := by
  obtain ⟨a, xs, rfl, hs, hd⟩ := Dp.tup_inv h
  unfold atI at ha
  cases e : ixN ds.length i with
  | none => rw [e] at ha; cases ha
  | some j =>
    rw [e] at ha
    obtain ⟨v, hv, hd2⟩ := DpAll.get hd (show ds[j]? = some d from ha)
    exact v_ix_t hs (by unfold atI; rw [hd.len, e]; exact hv) (q v hd2)
theorem d_ixl (h : Dp K H x (.list ds)) (ha : atI ds i = some d) (q : ∀ v, Dp K H v d → Q v H) : rIx K x (.int i) H Q := by
  obtain ⟨a, xs, rfl, hs, hd⟩ := Dp.lst_inv h
  unfold atI at ha
  cases e : ixN ds.length i with
  | none => rw [e] at ha; cases ha
  | some j =>
    rw [e] at ha
    obtain ⟨v, hv, hd2⟩ := DpAll.get hd (show ds[j]? = some d from ha)
    exact v_ix_l hs (by unfold atI; rw [hd.len, e]; exact hv) (q v hd2)
theorem d_len (h : Dp K H x (.tuple ds)) (q : Q (.int ds.length) H) : rLenU K [x] H Q := by
  obtain ⟨a, xs, rfl, hs, hd⟩ := Dp.tup_inv h
  exact v_len_t hs (by rw [hd.len]; exact q)
theorem d_cutl {lo hi : Option Int} (h : Dp K H x (.list ds)) (q : ∀ p H', H p = none → Xt H H' → Dp K H' (.ref p) (.list (cutP ds lo hi)) → Q (.ref p) H') : rSlU K x lo hi H Q := by
  obtain ⟨a, xs, rfl, hs, hd⟩ := Dp.lst_inv h
  exact v_sl_l hs fun p H' n x' e => q p H' n x' (.of_lst e (DpAll.mono x' (DpAll.cut hd)))
end
end CW

set_option Elab.async false
set_option linter.all false
set_option maxRecDepth 100000
set_option maxHeartbeats 1000000
/-! data that never changes; comprehensions over data; objects and dicts -/
namespace CW
open PySem PySem.Spec PyProof.Rows L2
mutual
def Im : PyData → Bool
  | .none => true
  | .bool _ => true
  | .int _ => true
  | .str _ => true
  | .list _ => false
  | .dict _ => false
  | .tuple ds => ImAll ds
def ImAll : List PyData → Bool
  | [] => true
  | d :: ds => Im d && ImAll ds
end
theorem imAll_iff : ∀ {ds : List PyData}, ImAll ds = true ↔ ∀ d ∈ ds, Im d = true
  | [] => by simp [ImAll]
  | d :: ds => by
    rw [ImAll, Bool.and_eq_true, imAll_iff (ds := ds)]
    simp
end CW
namespace L2
open PySem PySem.Spec PyProof.Rows CW
theorem SqT.upd {K : PySem.W.Frag} {H : Hp} {a b : Addr} {xs zs : List V} {o : HO} (hb : H b = some (.lst zs)) (h : SqT K H a xs) : SqT K (L2.upd H b o) a xs := by
  rcases h with (h | ⟨u, h⟩) | h
  · refine .inl (.inl ?_)
    rw [upd_ne (ne_of h hb (by intro z; cases z))]; exact h
  · refine .inl (.inr ⟨u, ?_⟩)
    rw [upd_ne (ne_of h hb (by intro z; cases z))]; exact h
  · exact .inr h
theorem SqT.updD {K : PySem.W.Frag} {H : Hp} {a b : Addr} {xs : List V} {zs : List (Key × V)} {o : HO} (hb : H b = some (.dK zs)) (h : SqT K H a xs) : SqT K (L2.upd H b o) a xs := by
  rcases h with (h | ⟨u, h⟩) | h
  · refine .inl (.inl ?_)
    rw [upd_ne (ne_of h hb (by intro z; cases z))]; exact h
  · refine .inl (.inr ⟨u, ?_⟩)
    rw [upd_ne (ne_of h hb (by intro z; cases z))]; exact h
  · exact .inr h
mutual
theorem Dp.im {K : PySem.W.Frag} {H H' : Hp} (f : ∀ a xs, SqT K H a xs → SqT K H' a xs) : ∀ {v : V} {d : PyData}, Im d = true → Dp K H v d → Dp K H' v d
  | _, _, _, .non => .non
  | _, _, _, .bl b => .bl b
  | _, _, _, .int i => .int i
  | _, _, _, .str x => .str x
  | _, _, im, .lst hs ha => by simp [Im] at im
  | _, _, im, .tup hs ha => .tup (f _ _ hs) (DpAll.im f (by simpa [Im] using im) ha)
theorem DpAll.im {K : PySem.W.Frag} {H H' : Hp} (f : ∀ a xs, SqT K H a xs → SqT K H' a xs) : ∀ {vs : List V} {ds : List PyData}, ImAll ds = true → DpAll K H vs ds → DpAll K H' vs ds
  | _, _, _, .nil => .nil
  | _, _, im, .cons h1 h2 => by
    rw [ImAll, Bool.and_eq_true] at im
    exact .cons (Dp.im f im.1 h1) (DpAll.im f im.2 h2)
end
end L2
namespace CW
open PySem PySem.Spec PyProof.Rows L2
section
variable {K : PySem.W.Frag} {σ : L2.St} {H : Hp} {Q : VK} {te : TE} {vs : List Nat} {Dl : Addr} {g : TG} {tt : TT} {xs : List V} {ds : List PyData} {J : It} {G : Hp → Prop}
theorem b_dat (w : Walk J xs.length G (YAt xs)) (hG : ∀ H', Xt H H' → G H') (hds : DpAll K H xs ds) (f : PyData → PyData) (hf : ∀ d ∈ ds, Im (f d) = true) (hn : ds.length < 10000000)
    (body : ∀ v d H', Dp K H' v d → d ∈ ds → Xt H H' → ∀ R : VK, (∀ y H2, Xt H' H2 → Dp K H2 y (f d) → R y H2) → g v (wipe σ vs) H' fun σ2 H2 => wipe σ2 vs = wipe σ vs ∧ te σ2 H2 R)
    (k : ∀ Dl ys H2, H Dl = none → Xt H H2 → H2 Dl = some (.lst ys) → DpAll K H2 ys (ds.map f) → Q (.ref Dl) H2)
    (gm : ∀ v σ H R R', (∀ σ2 H2, R σ2 H2 → R' σ2 H2) → g v σ H R → g v σ H R') : LcB J g tYes te vs σ Q H := fun Dl hD => by
  have hl := hds.len
  refine lc_it w (g := g) (tt := tYes) (te := te) (σ := σ) (vs := vs) (fun i H' => Xt H H' ∧ ∃ ys, H' Dl = some (.lst ys) ∧ DpAll K H' ys ((ds.map f).take i))
    ⟨xnew hD, [], upd_same, by rw [List.take_zero]; exact .nil⟩ (fun i H' _ p => hG H' p.1) (fun i x H' H2 hi p hy => ?_) (fun H' p => ?_)
  · obtain ⟨hx, ys, e, hys⟩ := p
    obtain ⟨rfl, hxi⟩ := hy
    obtain ⟨d, hd, hdp⟩ := DpAll.getV hds hxi
    have hmem : d ∈ ds := List.mem_of_getElem? hd
    have hb := body x d H2 (Dp.mono hx hdp) hmem hx (fun y H4 => ∃ acc, H4 Dl = some (.lst acc) ∧ acc.length < sizeLine ∧ (Xt H (upd H4 Dl (.lst (acc ++ [y]))) ∧ ∃ ys, (upd H4 Dl (.lst (acc ++ [y]))) Dl = some (.lst ys) ∧ DpAll K (upd H4 Dl (.lst (acc ++ [y]))) ys ((ds.map f).take (i + 1)))) (fun y H4 x4 hy => by
      have e4 := x4 _ _ e
      have hys4 := DpAll.mono x4 hys
      have yl : ys.length ≤ i := by rw [hys.len, List.length_take]; omega
      refine ⟨ys, e4, szL2 (by omega), xmut (xtr hx x4) hD, ys ++ [y], upd_same, ?_⟩
      have et : (ds.map f).take (i + 1) = (ds.map f).take i ++ [f d] := by rw [List.take_add_one, List.getElem?_map, hd]; rfl
      rw [et]
      have im1 : ImAll ((ds.map f).take i) = true := imAll_iff.mpr fun z hz => by
        obtain ⟨c, hc, rfl⟩ := List.mem_map.mp (List.mem_of_mem_take hz)
        exact hf c hc
      exact DpAll.app (DpAll.im (fun a zs h => SqT.upd e4 h) im1 hys4) (.cons (Dp.im (fun a zs h => SqT.upd e4 h) (hf d hmem) hy) .nil))
    exact gm _ _ _ _ _ (fun σ2 H3 h => ⟨h.1, by refine k_yesT ?_; rw [if_pos rfl]; exact h.2⟩) hb
  · obtain ⟨hx, ys, e, hys⟩ := p
    rw [List.take_of_length_le (by rw [List.length_map, hl]; exact Nat.le_refl _)] at hys
    exact k Dl ys H' hD hx e hys
theorem gm_name {j : Nat} : ∀ (v : V) (σ : L2.St) (H : Hp) (R R' : L2.St → Hp → Prop), (∀ σ2 H2, R σ2 H2 → R' σ2 H2) → gName j v σ H R → gName j v σ H R' := fun _ _ _ _ _ h q => h _ _ q
/-! targets -/
end
/-! dicts with text keys and data as values -/
section
variable {K : PySem.W.Frag} {H H' : Hp} {kvs : List (Key × V)} {F : Str → Option PyData}
def HasD (K : PySem.W.Frag) (H : Hp) (kvs : List (Key × V)) (F : Str → Option PyData) : Prop := ∀ z : Str, match F z with
  | some d => Im d = true ∧ ∃ v, valV kvs (Sum.inr z : Key) = some v ∧ Dp K H v d
  | none => valV kvs (Sum.inr z : Key) = none
theorem HasD.nil : HasD K H [] (fun _ => none) := fun _ => rfl
theorem HasD.put {v : V} {d : PyData} {x : Str} (h : HasD K H kvs F) (im : Im d = true) (hd : Dp K H v d) : HasD K H (putK kvs (Sum.inr x : Key) v) (fun z => if z = x then some d else F z) := fun z => by
  by_cases e : z = x
  · subst e
    simp only [if_true]
    refine ⟨im, v, ?_, hd⟩
    rw [valV_put, if_pos rfl]
  · simp only [if_neg e]
    have hz := h z
    have e2 : ¬ (Sum.inr z : Key) = Sum.inr x := fun q => e (Sum.inr.inj q)
    cases hF : F z with
    | none =>
      rw [hF] at hz
      show valV _ _ = none
      rw [valV_put, if_neg e2]; exact hz
    | some d2 =>
      rw [hF] at hz
      obtain ⟨i2, w, h1, h2⟩ := hz
      exact ⟨i2, w, by rw [valV_put, if_neg e2]; exact h1, h2⟩
theorem HasD.mono (e : Xt H H') (h : HasD K H kvs F) : HasD K H' kvs F := fun z => by
  have hz := h z
  cases hF : F z with
  | none => rw [hF] at hz; exact hz
  | some d => rw [hF] at hz; obtain ⟨i, v, h1, h2⟩ := hz; exact ⟨i, v, h1, Dp.mono e h2⟩
theorem HasD.im (f : ∀ a xs, SqT K H a xs → SqT K H' a xs) (h : HasD K H kvs F) : HasD K H' kvs F := fun z => by
  have hz := h z
  cases hF : F z with
  | none => rw [hF] at hz; exact hz
  | some d => rw [hF] at hz; obtain ⟨i, v, h1, h2⟩ := hz; exact ⟨i, v, h1, Dp.im f i h2⟩
end
section
variable {K : PySem.W.Frag} {σ : L2.St} {H : Hp} {Q : VK} {tk tv : TE} {vs : List Nat} {g : TG} {tt : TT} {xs : List V} {ds : List PyData} {J : It} {n : Nat} {G : Hp → Prop} {Y : Nat → Hp → V → Hp → Prop}
end
end CW

set_option Elab.async false
set_option linter.all false
set_option maxRecDepth 100000
set_option maxHeartbeats 1000000
/-! tuple(..), list(..), objects, dicts by keys -/
namespace CW
open PySem PySem.Spec PyProof.Rows L2
section
variable {X : Cx}
def rTup (K : PySem.W.Frag) : List V → Hp → VK → Prop := fun xs H Q => ∃ p ys, xs = [.ref p] ∧ ((SqL K H p ys ∧ ∀ l, H l = none → Q (.ref l) (upd H l (.tup ys))) ∨ (SqT K H p ys ∧ Q (.ref p) H))
theorem call_tupU : CallR X (.type "tuple") (rTup X.K) := call_tuple_of
def rLst (K : PySem.W.Frag) : List V → Hp → VK → Prop := fun xs H Q => ∃ p ys, xs = [.ref p] ∧ (SqL K H p ys ∨ SqT K H p ys) ∧ ∀ l, H l = none → Q (.ref l) (upd H l (.lst ys))
theorem call_lstU : CallR X (.type "list") (rLst X.K) := call_list_of
end
section
variable {K : PySem.W.Frag} {σ : L2.St} {H : Hp} {Q : VK} {D : Ends} {te ta tv td ty : TE} {a : Addr} {x y v : V} {ds : List PyData} {f m : Str} {C dx : Addr} {fs : List (Str × V)} {t : TA} {xs : List V}
theorem d_tupl (h : Dp K H x (.list ds)) (q : ∀ v H', Xt H H' → Dp K H' v (.tuple ds) → Q v H') : rTup K [x] H Q := by
  obtain ⟨a, xs, rfl, hs, hd⟩ := Dp.lst_inv h
  exact ⟨a, xs, rfl, .inl ⟨hs, fun l hl => q _ _ (xnew hl) (.of_tup upd_same (DpAll.mono (xnew hl) hd))⟩⟩
theorem d_tupt (h : Dp K H x (.tuple ds)) (q : Q x H) : rTup K [x] H Q := by
  obtain ⟨a, xs, rfl, hs, hd⟩ := Dp.tup_inv h
  exact ⟨a, xs, rfl, .inr ⟨hs, q⟩⟩
theorem v_tupl (h : SqL K H a xs) (q : ∀ p H', H p = none → Xt H H' → H' p = some (.tup xs) → Q (.ref p) H') : rTup K [.ref a] H Q :=
  ⟨a, xs, rfl, .inl ⟨h, fun l hl => q l _ hl (xnew hl) upd_same⟩⟩
theorem d_lstl (h : Dp K H x (.list ds) ∨ Dp K H x (.tuple ds)) (q : ∀ p xs H', H p = none → Xt H H' → H' p = some (.lst xs) → DpAll K H' xs ds → Q (.ref p) H') : rLst K [x] H Q := by
  rcases h with h | h
  · obtain ⟨a, xs, rfl, hs, hd⟩ := Dp.lst_inv h
    exact ⟨a, xs, rfl, .inl hs, fun l hl => q l xs _ hl (xnew hl) upd_same (DpAll.mono (xnew hl) hd)⟩
  · obtain ⟨a, xs, rfl, hs, hd⟩ := Dp.tup_inv h
    exact ⟨a, xs, rfl, .inr hs, fun l hl => q l xs _ hl (xnew hl) upd_same (DpAll.mono (xnew hl) hd)⟩
/-! fields -/
def rFld (K : PySem.W.Frag) (f : Str) : V → Hp → VK → Prop := fun x H Q => ∃ a C dx fs v, x = .ref a ∧ H a = some (.ins C dx fs) ∧ Cls K C ∧ NoAttr K C f ∧ fs.lookup f = some v ∧ Q v H
theorem k_fld (h : ta σ H fun x H1 => rFld K f x H1 Q) : tFld K ta f σ H Q := h
theorem v_fld (e : H a = some (.ins C dx fs)) (c : Cls K C) (n : NoAttr K C f) (l : fs.lookup f = some v) (q : Q v H) : rFld K f (.ref a) H Q := ⟨a, C, dx, fs, v, rfl, e, c, n, l, q⟩
def rSFld (K : PySem.W.Frag) (f : Str) (D : Ends) (σ : L2.St) : V → V → Hp → Prop := fun y x H => ∃ a C dx fs, x = .ref a ∧ H a = some (.ins C dx fs) ∧ Cls K C ∧ NoAttr K C f ∧ fs.length < 1000 ∧ D.nx σ (upd H a (.ins C dx (putF f y fs)))
theorem k_sfld (h : tv σ H fun y H1 => ta σ H1 fun x H2 => rSFld K f D σ y x H2) : sFld K ta tv f D σ H := h
theorem v_sfld (e : H a = some (.ins C dx fs)) (c : Cls K C) (n : NoAttr K C f) (l : fs.length < 1000) (q : D.nx σ (upd H a (.ins C dx (putF f y fs)))) : rSFld K f D σ y (.ref a) H := ⟨a, C, dx, fs, rfl, e, c, n, l, q⟩
/-! dicts -/
theorem k_din {R : VK} (h : ty σ H fun y H1 => td σ H1 fun x H2 => ∃ a o, x = .ref a ∧ DGet H2 a y o ∧ R (.bl o.isSome) H2) : tDIn ty td σ H R := h
theorem k_dput (h : tv σ H fun v H1 => td σ H1 fun x H2 => ty σ H2 fun y H3 => ∃ a H4, x = .ref a ∧ DPut H3 a y v H4 ∧ D.nx σ H4) : sDPut td ty tv D σ H := h
theorem k_dnew (q : ∀ p H2, H p = none → Xt H H2 → H2 p = some (.dK []) → Q (.ref p) H2) : tDNewK σ H Q := fun p hp => q p _ hp (xnew hp) upd_same
/-! methods, makings -/
theorem k_make {sp : Sp} {dvs : List V} {E : XK} (h : t σ H fun vs H1 => ∀ x dx, H1 x = none → H1 dx = none → dx ≠ x → sp (.ref x :: (vs ++ dvs)) (upd (upd H1 dx (.own x)) x (.ins C dx [])) (fun v H2 => v = .non ∧ Q (.ref x) H2) E) : tMake C sp dvs E t σ H Q := h
theorem k_bm0 {T : String} {r : V → List V → Hp → VK → Prop} {to : TE} (h : to σ H fun x H1 => tyV K T x H1 ∧ r x [] H1 Q) : tBM0 K T r to σ H Q := h
theorem v_pop {l : Addr} {zs : List V} (e : H l = some (.lst (zs ++ [v]))) (q : Q v (upd H l (.lst zs))) : rPop (.ref l) [] H Q :=
  ⟨l, zs ++ [v], v, rfl, rfl, e, by simp, by rw [List.dropLast_concat]; exact q⟩
/-! lists that change -/
end
/-! tables -/
theorem snoc_ind {α : Type} {P : List α → Prop} (h0 : P []) (hs : ∀ l a, P l → P (l ++ [a])) (l : List α) : P l := by
  have h : ∀ r : List α, P r.reverse := fun r => by
    induction r with
    | nil => exact h0
    | cons a r ih => rw [List.reverse_cons]; exact hs _ _ ih
  have := h l.reverse
  rwa [List.reverse_reverse] at this
end CW

set_option Elab.async false
set_option linter.all false
set_option maxRecDepth 100000
set_option maxHeartbeats 1000000
namespace L2
open PySem PySem.Spec PyProof.Rows CW
theorem SqL.updD {K : PySem.W.Frag} {H : Hp} {a b : Addr} {xs : List V} {zs : List (Key × V)} {o : HO} (hb : H b = some (.dK zs)) (h : SqL K H a xs) : SqL K (L2.upd H b o) a xs := by
  rcases h with (h | ⟨u, h⟩) | h
  · refine .inl (.inl ?_)
    rw [upd_ne (ne_of h hb (by intro z; cases z))]; exact h
  · refine .inl (.inr ⟨u, ?_⟩)
    rw [upd_ne (ne_of h hb (by intro z; cases z))]; exact h
  · exact .inr h
end L2
namespace CW
open PySem PySem.Spec PyProof.Rows L2
section
variable {K : PySem.W.Frag} {H : Hp} {Q : VK} {x s : V} {z : Str} {S : List Str}
end
end CW
namespace HT
open PySem PySem.Spec PyProof.Rows
section
variable {prog : Program} {w : World} {A : Around} {E : Value → Shared → Prop} {s : Shared}
theorem fm_congr {α β : Type} {f g : α → Option β} : ∀ {l : List α}, (∀ a ∈ l, f a = g a) → l.filterMap f = l.filterMap g
  | [], _ => rfl
  | a :: r, h => by
    rw [List.filterMap_cons, List.filterMap_cons, h a (List.mem_cons_self ..), fm_congr fun b hb => h b (List.mem_cons_of_mem _ hb)]
end
end HT
namespace CW
open PySem PySem.Spec PyProof.Rows L2
variable {X : Cx}
end CW

set_option Elab.async false
set_option linter.all false
set_option maxRecDepth 100000
set_option maxHeartbeats 1000000
/-! data of signs below 128, tests on data of any kind -/
namespace CW
open PySem PySem.Spec PyProof.Rows L2
def ascS (z : Str) : Bool := z.cps.toList.all fun c => decide (c < 128)
mutual
def AsD : PyData → Bool
  | .none => true
  | .bool _ => true
  | .int _ => true
  | .str z => ascS z
  | .list _ => false
  | .dict _ => false
  | .tuple ds => AsAll ds
def AsAll : List PyData → Bool
  | [] => true
  | d :: ds => AsD d && AsAll ds
end
theorem asAll_iff : ∀ {ds : List PyData}, AsAll ds = true ↔ ∀ d ∈ ds, AsD d = true
  | [] => by simp [AsAll]
  | d :: ds => by
    rw [AsAll, Bool.and_eq_true, asAll_iff (ds := ds)]
    simp
theorem strOk_asc {z : Str} (h : ascS z = true) : PyData.strOk z = true := by
  unfold PyData.strOk
  rw [← Array.all_toList]
  exact List.all_eq_true.mpr fun c hc => decide_eq_true (Nat.lt_trans (of_decide_eq_true (List.all_eq_true.mp h c hc)) (by decide))
mutual
theorem as_im : ∀ {d : PyData}, AsD d = true → Im d = true
  | .none, _ => rfl
  | .bool _, _ => rfl
  | .int _, _ => rfl
  | .str _, _ => rfl
  | .list _, h => by simp [AsD] at h
  | .dict _, h => by simp [AsD] at h
  | .tuple ds, h => by
    have h2 : AsAll ds = true := by simpa [AsD] using h
    show ImAll ds = true
    exact as_imAll h2
theorem as_imAll : ∀ {ds : List PyData}, AsAll ds = true → ImAll ds = true
  | [], _ => rfl
  | d :: ds, h => by
    rw [AsAll, Bool.and_eq_true] at h
    rw [ImAll, as_im h.1, as_imAll h.2]; rfl
end
mutual
theorem as_lay : ∀ {d : PyData}, AsD d = true → d.canLay0 = true
  | .none, _ => by simp only [PyData.canLay0]
  | .bool _, _ => by simp only [PyData.canLay0]
  | .int _, _ => by simp only [PyData.canLay0]
  | .str z, h => by
    simp only [PyData.canLay0]
    exact strOk_asc (by simpa [AsD] using h)
  | .list _, h => by simp [AsD] at h
  | .dict _, h => by simp [AsD] at h
  | .tuple ds, h => by
    simp only [PyData.canLay0]
    exact as_layAll (by simpa [AsD] using h)
theorem as_layAll : ∀ {ds : List PyData}, AsAll ds = true → PyData.canLayAll0 ds = true
  | [], _ => by simp only [PyData.canLayAll0]
  | d :: ds, h => by
    rw [AsAll, Bool.and_eq_true] at h
    rw [PyData.canLayAll0, as_lay h.1, as_layAll h.2]; rfl
end
structure Sm (n : Nat) (d : PyData) : Prop where
  as : AsD d = true
  dp : d.depth ≤ n
  wt : d.weight ≤ 5000000
theorem Sm.shaped {n : Nat} {d : PyData} (h : Sm n d) (hn : n ≤ 64) : SeqAt.shaped d = true := by
  unfold SeqAt.shaped
  rw [as_lay h.as, decide_eq_true (Nat.le_trans h.dp hn)]; rfl
theorem Sm.im {n : Nat} {d : PyData} (h : Sm n d) : Im d = true := as_im h.as
theorem depth_mem : ∀ {ds : List PyData} {d : PyData}, d ∈ ds → d.depth ≤ PyData.depthAll ds
  | [], _, h => by cases h
  | e :: ds, d, h => by
    rw [PyData.depthAll]
    rcases List.mem_cons.mp h with rfl | h
    · exact Nat.le_max_left _ _
    · exact Nat.le_trans (depth_mem h) (Nat.le_max_right _ _)
theorem weight_mem : ∀ {ds : List PyData} {d : PyData}, d ∈ ds → d.weight + 1 ≤ PyData.weightAll ds
  | [], _, h => by cases h
  | e :: ds, d, h => by
    rw [PyData.weightAll]
    rcases List.mem_cons.mp h with rfl | h
    · omega
    · have := weight_mem h; omega
theorem len_weight : ∀ {ds : List PyData}, ds.length ≤ PyData.weightAll ds
  | [] => Nat.zero_le _
  | e :: ds => by
    rw [PyData.weightAll, List.length_cons]
    have := len_weight (ds := ds); omega
theorem Sm.tup {n : Nat} {ds : List PyData} (h : Sm (n + 1) (.tuple ds)) : ∀ d ∈ ds, Sm n d := fun d hd => by
  have h1 : AsAll ds = true := by simpa [AsD] using h.as
  have h2 := h.dp
  have h3 := h.wt
  rw [PyData.depth] at h2
  rw [PyData.weight] at h3
  have := depth_mem hd
  have := weight_mem hd
  exact ⟨asAll_iff.mp h1 d hd, by omega, by omega⟩
theorem Sm.pos {n : Nat} {ds : List PyData} (h : Sm n (.tuple ds)) : ∃ m, n = m + 1 := by
  have h2 := h.dp
  rw [PyData.depth] at h2
  exact ⟨n - 1, by omega⟩
theorem Sm.len {n : Nat} {ds : List PyData} (h : Sm n (.tuple ds)) : ds.length ≤ 5000000 := by
  have h3 := h.wt
  rw [PyData.weight] at h3
  exact Nat.le_trans len_weight h3
theorem Sm.str {n : Nat} {z : Str} (h : Sm n (.str z)) : z.length ≤ 5000000 := by
  have h3 := h.wt
  rw [PyData.weight] at h3
  exact h3
theorem hu65 {k : Nat} {A : Around} (hr : Room k A) : A.units + 65 < cLine := by have := hr.un; omega
theorem hu64 {k : Nat} {A : Around} (hr : Room k A) : A.units + 64 < cLine := by have := hr.un; omega
section
variable {X : Cx}
def rInTD (K : PySem.W.Frag) (neg : Bool) : R2 := fun x y H Q => ∃ d ds, Dp K H x d ∧ Dp K H y (.tuple ds) ∧ SeqAt.shaped d = true ∧ PyData.canLayAll0 ds = true ∧ Q (.bl (if neg then !(ds.any fun z => PyData.eqv z d) else ds.any fun z => PyData.eqv z d)) H
theorem op_inTD (hu : X.A.units + 65 < cLine) : OpR X (compareOp .In) (rInTD X.K false) := by
  intro pins s σ H x y v u Q I rx ry h
  obtain ⟨d, ds, hd, he, sd, se, q⟩ := h
  obtain ⟨as, r1⟩ := Dp.reads I d x v hd rx
  obtain ⟨bs, r2⟩ := Dp.reads I (.tuple ds) y u he ry
  exact SeqAt.in_tuple_reads r2 r1 se (SeqAt.canLay_of_shaped sd) (room_in_shaped sd hu) ⟨.bl _, H, I, rfl, q⟩
def rInV (K : PySem.W.Frag) : R2 := fun x y H Q => rInU K x y H Q ∨ (rInTD K false x y H Q ∨ rInD K x y H Q)
theorem op_inV {k : Nat} (hr : Room k X.A) : OpR X (compareOp .In) (rInV X.K) := OpR.or op_inU (OpR.or (op_inTD (hu65 hr)) (op_inD (hu65 hr)))
def rEqU (K : PySem.W.Frag) : R2 := fun x y H Q => rEq x y H Q ∨ rEqD K x y H Q
def rNeU (K : PySem.W.Frag) : R2 := fun x y H Q => rNe x y H Q ∨ rNeD K x y H Q
theorem op_eqU {k : Nat} (hr : Room k X.A) : OpR X (compareOp .Eq) (rEqU X.K) := OpR.or op_eq (op_eqD (hu64 hr))
theorem op_neU {k : Nat} (hr : Room k X.A) : OpR X (compareOp .NotEq) (rNeU X.K) := OpR.or op_ne (op_neD (hu64 hr))
end
section
variable {K : PySem.W.Frag} {H : Hp} {Q : VK} {x y s : V} {z w : Str} {S : List Str} {d e : PyData} {c : Nat} {a : Addr} {xs : List V}
theorem v_eqU (h : scal x y = true) (q : Q (.bl (decide (x = y))) H) : rEqU K x y H Q := .inl ⟨h, q⟩
theorem v_neU (h : scal x y = true) (q : Q (.bl (!decide (x = y))) H) : rNeU K x y H Q := .inl ⟨h, q⟩
theorem w_in_q (h : SqL K H a xs ∨ SqT K H a xs) (hx : flatV x = true) (hf : xs.all flatV = true) (q : Q (.bl (inV x xs)) H) : rInV K x (.ref a) H Q := .inl (v_in_q h hx hf q)
/-! isinstance on data -/
def isTupD : PyData → Bool
  | .tuple _ => true
  | _ => false
theorem sqt_ty {xs : List V} (h : SqT K H a xs) : TyX K H (.ref a) (.type "tuple") := by
  rcases h with (h | ⟨u, h⟩) | ⟨o, its, n, l, c, _⟩
  · exact .base (.tup h)
  · exact .fTuple h
  · exact .kTuple l c
theorem d_isi {T : String} {r : Bool} (hx : Dp K H x d) (him : Im d = true) (hn : d = .none → kitB "NoneType" T = some r) (hb : ∀ b, d = .bool b → kitB "bool" T = some r) (hi : ∀ b, d = .int b → kitB "int" T = some r) (hs : ∀ b, d = .str b → kitB "str" T = some r)
    (ht : ∀ b, d = .tuple b → kitB "tuple" T = some r) (q : Q (.bl r) H) : rIsi K [x, .ty T] H Q := by
  cases hx with
  | non => exact ⟨_, _, .type "NoneType", .type T, r, rfl, .ty T, .base .non, kit_ty (hn rfl), q⟩
  | bl b => exact ⟨_, _, .type "bool", .type T, r, rfl, .ty T, .base (.bl b), kit_ty (hb _ rfl), q⟩
  | int b => exact ⟨_, _, .type "int", .type T, r, rfl, .ty T, .base (.int b), kit_ty (hi _ rfl), q⟩
  | str b => exact ⟨_, _, .type "str", .type T, r, rfl, .ty T, .base (.str b), kit_ty (hs _ rfl), q⟩
  | lst _ _ => simp [Im] at him
  | tup h1 h2 => exact ⟨_, _, .type "tuple", .type T, r, rfl, .ty T, sqt_ty h1, kit_ty (ht _ rfl), q⟩
theorem d_isTup (hx : Dp K H x d) (him : Im d = true) (q : Q (.bl (isTupD d)) H) : rIsi K [x, .ty "tuple"] H Q := d_isi hx him (fun e => by subst e; exact (by decide +kernel : kitB "NoneType" "tuple" = some false)) (fun b e => by subst e; exact (by decide +kernel : kitB "bool" "tuple" = some false)) (fun b e => by subst e; exact (by decide +kernel : kitB "int" "tuple" = some false)) (fun b e => by subst e; exact (by decide +kernel : kitB "str" "tuple" = some false)) (fun b e => by subst e; exact (by decide +kernel : kitB "tuple" "tuple" = some true)) q
theorem v_isi_int {i : Int} (q : Q (.bl true) H) : rIsi K [.int i, .ty "int"] H Q := ⟨_, _, .type "int", .type "int", true, rfl, .ty "int", .base (.int i), kit_ty (by decide +kernel), q⟩
theorem v_isi_intB {i : Int} (q : Q (.bl false) H) : rIsi K [.int i, .ty "bool"] H Q := ⟨_, _, .type "int", .type "bool", false, rfl, .ty "bool", .base (.int i), kit_ty (by decide +kernel), q⟩
end
end CW
namespace PySem
open AutoSeq1
theorem list_extend_tupD (l : Addr) (items : Array Value) (n : Nat) (b : Addr) (items2 : Array Value) (n2 : Nat) (dd : Option Addr) (sl : Array (Option Value)) (hs0 : ¬(!items.isEmpty && Builtin.List.listTooLong (items.size + items2.size)) = true) (hs1 : items.size ≤ sizeLine) (hs2 : items.size + items2.size ≤ sizeLine + 1) :
    Meets (Builtin.«list.extend» ⟨[.ref l, .ref b], []⟩) (fun _ R s => s.heap.get? l = some { cls := .type "list", dict := none, data := .seq items n, slots := #[] } ∧ s.heap.get? b = some { cls := .type "tuple", dict := dd, data := .seq items2 n2, slots := sl } ∧ R (.ok (.ret Value.none)) { s with heap := s.heap.update l (Obj.mapSeq fun x => x ++ items2), toks := s.toks }) :=
  .of_wp fun prog w A R s h => by
    obtain ⟨hp, g, d, tk, os⟩ := s; obtain ⟨hl, hb, h⟩ := h; have f1 := idx_int; have f2 := sub_tuple_tuple; have f3 := sub_list_list; have f4 := sub_tuple_list; have f5 := sub_list_tuple;
    have hz' : (items ++ items2).size ≤ sizeLine + 1 := by rw [Array.size_append]; exact hs2
    wp_walk using (wpAny_updateSeq hl rfl (hz := hs1) (_hz' := hz')), wpAny_loadPart' hl, wpAny_loadPart' hb; exact ⟨_, rfl, h⟩
end PySem
namespace CW
open PySem PySem.Spec PyProof.Rows L2
section
variable {X : Cx} {K : PySem.W.Frag} {H : Hp} {Q : VK} {l b : Addr} {xs zs : List V}
def rExtT (K : PySem.W.Frag) : V → List V → Hp → VK → Prop := fun x vs H Q => ∃ l b xs zs, x = .ref l ∧ vs = [.ref b] ∧ H l = some (.lst xs) ∧ SqT K H b zs ∧ xs.length + zs.length ≤ sizeLine ∧ Q .non (upd H l (.lst (xs ++ zs)))
theorem mt_extT : MtM X "list.extend" (rExtT X.K) := by
  intro pins s σ H x vs v us Q I rx rv h
  obtain ⟨l, b, xs, zs, rfl, rfl, hH, hB, hz, q⟩ := h
  cases rx
  obtain ⟨u, rfl, ru⟩ := rv.one
  cases ru
  obtain ⟨z, its, n, r, hl, e⟩ := I.lstM hH
  obtain ⟨its2, r2, ht2, hz2⟩ := I.tuple hB
  have hl2 := r2.length
  obtain ⟨⟨cls, dd, data, sl⟩, ho, hc, n2, hd⟩ := id ht2
  simp only at hc hd
  subst hc hd
  have hsz : its.toArray.size + its2.toArray.size ≤ sizeLine := by rw [List.size_toArray, List.size_toArray]; omega
  have hlong : ¬ (!its.toArray.isEmpty && Builtin.List.listTooLong (its.toArray.size + its2.toArray.size)) = true := by
    rw [notLongL hsz, Bool.and_false]
    exact Bool.false_ne_true
  refine call_meets F.slot_list_extend ⟨_, e, rfl⟩ F.entry_list_extend (F.args_list_extend_2 _ _)
    (PySem.list_extend_tupD l its.toArray n b its2.toArray n2 dd sl hlong (by rw [List.size_toArray]; omega) (by omega)) ⟨e, ho, ?_⟩
  refine ⟨.non, _, I.lset (its' := its ++ its2) hH e (by simp) (r.append r2) ?_, rfl, q⟩
  rw [List.length_append]
  omega
def rExtU (K : PySem.W.Frag) : V → List V → Hp → VK → Prop := fun x vs H Q => rExtend x vs H Q ∨ rExtT K x vs H Q
theorem mt_extU : MtM X "list.extend" (rExtU X.K) := MtR.or mt_extend mt_extT
theorem v_extT (e : H l = some (.lst xs)) (e2 : SqT K H b zs) (hz : xs.length + zs.length ≤ 10000000) (q : Q .non (upd H l (.lst (xs ++ zs)))) : rExtU K (.ref l) [.ref b] H Q := .inr ⟨l, b, xs, zs, rfl, rfl, e, e2, szL hz, q⟩
end
end CW

/-! one object changes -/
namespace L2
open PySem PySem.Spec PyProof.Rows CW
mutual
theorem Dp.gen {K : PySem.W.Frag} {H H' : Hp} (f : ∀ a xs, SqT K H a xs → SqT K H' a xs) (g : ∀ a xs, SqL K H a xs → SqL K H' a xs) : ∀ {v : V} {d : PyData}, Dp K H v d → Dp K H' v d
  | _, _, .non => .non
  | _, _, .bl b => .bl b
  | _, _, .int i => .int i
  | _, _, .str x => .str x
  | _, _, .lst hs ha => .lst (g _ _ hs) (DpAll.gen f g ha)
  | _, _, .tup hs ha => .tup (f _ _ hs) (DpAll.gen f g ha)
theorem DpAll.gen {K : PySem.W.Frag} {H H' : Hp} (f : ∀ a xs, SqT K H a xs → SqT K H' a xs) (g : ∀ a xs, SqL K H a xs → SqL K H' a xs) : ∀ {vs : List V} {ds : List PyData}, DpAll K H vs ds → DpAll K H' vs ds
  | _, _, .nil => .nil
  | _, _, .cons h1 h2 => .cons (Dp.gen f g h1) (DpAll.gen f g h2)
end
end L2
namespace CW
open PySem PySem.Spec PyProof.Rows L2
def Xa (a : Addr) (H H' : Hp) : Prop := ∀ b o, b ≠ a → H b = some o → H' b = some o
theorem xa_of {a : Addr} {H H' : Hp} (e : Xt H H') : Xa a H H' := fun b o _ h => e b o h
theorem xa_tr {a : Addr} {H H1 H2 : Hp} (e : Xa a H H1) (f : Xa a H1 H2) : Xa a H H2 := fun b o n h => f b o n (e b o n h)
theorem xa_upd {a : Addr} {H : Hp} {o : HO} : Xa a H (upd H a o) := fun b u n h => by rw [upd_ne n]; exact h
section
variable {K : PySem.W.Frag} {H H' : Hp} {a p C dx : Addr} {fs : List (Str × V)} {xs : List V} {v : V} {d : PyData}
theorem ne_ins {o : HO} (hi : H a = some (.ins C dx fs)) (h : H p = some o) (ho : ∀ C dx fs, o ≠ .ins C dx fs) : p ≠ a := fun e => by
  subst e; rw [hi] at h; cases h; exact ho _ _ _ rfl
theorem xat (hi : H a = some (.ins C dx fs)) (e : Xa a H H') (p : Addr) (xs : List V) (h : SqT K H p xs) : SqT K H' p xs := by
  rcases h with (h | ⟨o, h⟩) | h
  · exact .inl (.inl (e _ _ (ne_ins hi h (by intros; intro q; cases q)) h))
  · exact .inl (.inr ⟨o, e _ _ (ne_ins hi h (by intros; intro q; cases q)) h⟩)
  · exact .inr h
theorem xal (hi : H a = some (.ins C dx fs)) (e : Xa a H H') (p : Addr) (xs : List V) (h : SqL K H p xs) : SqL K H' p xs := by
  rcases h with (h | ⟨o, h⟩) | h
  · exact .inl (.inl (e _ _ (ne_ins hi h (by intros; intro q; cases q)) h))
  · exact .inl (.inr ⟨o, e _ _ (ne_ins hi h (by intros; intro q; cases q)) h⟩)
  · exact .inr h
theorem dpa (hi : H a = some (.ins C dx fs)) (e : Xa a H H') (h : Dp K H v d) : Dp K H' v d := Dp.gen (xat hi e) (xal hi e) h
end
end CW
namespace CW
open PySem PySem.Spec PyProof.Rows L2
section
variable {X : Cx}
end
end CW

set_option Elab.async false
set_option linter.all false
set_option maxRecDepth 100000
set_option maxHeartbeats 1000000
/-! texts by their signs -/
namespace CW
open PySem PySem.Spec PyProof.Rows L2
end CW
namespace CW
open PySem PySem.Spec PyProof.Rows L2
section
variable {X : Cx} {K : PySem.W.Frag} {H : Hp} {Q : VK} {a : Addr} {xs : List V}
def rTimesU : R2 := fun x y H Q => rTimes x y H Q ∨ rRep x y H Q
theorem op_timesU : OpR X (binaryOp .Mult) rTimesU := OpR.or op_times op_rep
theorem u_times_int {i j : Int} (h : CMul i j) (q : Q (.int (i * j)) H) : rTimesU (.int i) (.int j) H Q := .inl (v_times_int h q)
end
end CW

set_option Elab.async false
set_option linter.all false
set_option maxRecDepth 100000
set_option maxHeartbeats 1000000
/-! comprehensions over data with a test -/
namespace CW
open PySem PySem.Spec PyProof.Rows L2
section
variable {K : PySem.W.Frag} {σ : L2.St} {H : Hp} {Q : VK} {te : TE} {vs : List Nat} {Dl : Addr} {g : TG} {tt : TT} {xs : List V} {ds : List PyData} {J : It} {G : Hp → Prop}
theorem b_datF (w : Walk J xs.length G (YAt xs)) (hG : ∀ H', Xt H H' → G H') (hds : DpAll K H xs ds) (p : PyData → Bool) (f : PyData → PyData) (hf : ∀ d ∈ ds, Im (f d) = true) (hn : ds.length < 10000000)
    (body : ∀ v d H', Dp K H' v d → d ∈ ds → Xt H H' → ∀ (R : VK) (R0 : Hp → Prop), (p d = true → ∀ y H2, Xt H' H2 → Dp K H2 y (f d) → R y H2) → (p d = false → ∀ H2, Xt H' H2 → R0 H2) →
      g v (wipe σ vs) H' fun σ2 H2 => wipe σ2 vs = wipe σ vs ∧ tt σ2 H2 fun b H3 => if b = true then te σ2 H3 R else R0 H3)
    (k : ∀ Dl ys H2, H Dl = none → Xt H H2 → H2 Dl = some (.lst ys) → DpAll K H2 ys ((ds.filter p).map f) → Q (.ref Dl) H2) : LcB J g tt te vs σ Q H := fun Dl hD => by
  have hl := hds.len
  refine lc_it w (g := g) (tt := tt) (te := te) (σ := σ) (vs := vs) (fun i H' => Xt H H' ∧ ∃ ys, H' Dl = some (.lst ys) ∧ ys.length ≤ i ∧ DpAll K H' ys (((ds.take i).filter p).map f))
    ⟨xnew hD, [], upd_same, Nat.le_refl _, by rw [List.take_zero]; exact .nil⟩ (fun i H' _ p => hG H' p.1) (fun i x H' H2 hi q hy => ?_) (fun H' q => ?_)
  · obtain ⟨hx, ys, e, hyl, hys⟩ := q
    obtain ⟨rfl, hxi⟩ := hy
    obtain ⟨d, hd, hdp⟩ := DpAll.getV hds hxi
    have hmem : d ∈ ds := List.mem_of_getElem? hd
    have et : ds.take (i + 1) = ds.take i ++ [d] := by rw [List.take_add_one, hd]; rfl
    refine body x d H2 (Dp.mono hx hdp) hmem hx _ _ (fun hp y H4 x4 hy => ?_) (fun hp H4 x4 => ?_)
    · have e4 := x4 _ _ e
      have hys4 := DpAll.mono x4 hys
      refine ⟨ys, e4, szL2 (by omega), xmut (xtr hx x4) hD, ys ++ [y], upd_same, by rw [List.length_append, List.length_singleton]; omega, ?_⟩
      rw [et, List.filter_append, List.map_append]
      have e1 : [d].filter p = [d] := by rw [List.filter_cons, if_pos hp]; rfl
      rw [e1]
      have im1 : ImAll (((ds.take i).filter p).map f) = true := imAll_iff.mpr fun z hz => by
        obtain ⟨c, hc, rfl⟩ := List.mem_map.mp hz
        exact hf c (List.mem_of_mem_take ((List.mem_filter.mp hc).1))
      exact DpAll.app (DpAll.im (fun a zs h => SqT.upd e4 h) im1 hys4) (.cons (Dp.im (fun a zs h => SqT.upd e4 h) (hf d hmem) hy) .nil)
    · refine ⟨xtr hx x4, ys, x4 _ _ e, by omega, ?_⟩
      rw [et, List.filter_append, List.map_append]
      have e1 : [d].filter p = [] := by rw [List.filter_cons, if_neg (by rw [hp]; decide)]; rfl
      rw [e1, List.map_nil, List.append_nil]
      exact DpAll.mono x4 hys
  · obtain ⟨hx, ys, e, hyl, hys⟩ := q
    rw [List.take_of_length_le (by rw [hl]; exact Nat.le_refl _)] at hys
    exact k Dl ys H' hD hx e hys
end
end CW

set_option Elab.async false
set_option linter.all false
set_option maxRecDepth 100000
set_option maxHeartbeats 1000000
namespace CW
open PySem PySem.Spec PyProof.Rows L2
section
variable {K : PySem.W.Frag} {x qual : Str} {st : Stmt} {f : Addr} {fd : FuncData}
end
end CW

set_option Elab.async false
set_option linter.all false
set_option maxRecDepth 100000
set_option maxHeartbeats 2000000
/-! errors of the program: super().__init__(text) in an own __init__ over ValueError -/
namespace CW
open PySem PySem.Spec PyProof.Rows L2 PySem.W PySem.F PyProof.V PySem.Calls
structure SupK (K : PySem.W.Frag) (prog : Program) (C f cc cda : Addr) (fd : FuncData) : Prop where
  fn : ∃ oc od osl, K.lookup f = some ⟨oc, od, .func fd, osl⟩
  me : ∃ ar, (fd.params.posonlyargs ++ fd.params.args).head? = some ar ∧ ar.arg = "self"
  cod : ∃ ccl cdd vs ccs file tf, K.lookup cda = some ⟨ccl, cdd, .fields vs, ccs⟩ ∧ vs[2]? = some (.str file tf) ∧ ((prog.main.file : Str) == file) = true
  cel : ∃ cl cld csl, K.lookup cc = some ⟨cl, cld, .cell (some (.ref C)), csl⟩
  cls : ∃ cd, clsIn K C = some cd ∧ alongIn K "__init__" ((cd.mro.dropWhile (· != .ref C)).drop 1) = some (some (.builtin "ValueError.__init__"))
  sub : mroIn K C (.ref C) = some true
  ve : subIn K (.ref C) (.type "ValueError") = some true
  op : nsIn K cStatics "thirdparty.any" = some none
  top : (prog.main.scope.names.lookup ("super" : Str)).isSome = false
section
variable {X : Cx} {pins : List (Addr × Obj)} {σ : L2.St} {H : Hp} {s : Shared} {body : List Stmt} {p0 p1 p2 p3 p4 : Pos} {fe : Expr} {te : TA} {i : Nat} {a C f cc cda : Addr} {fd : FuncData}
end
end CW

set_option Elab.async false
set_option linter.all false
set_option maxRecDepth 100000
set_option maxHeartbeats 2000000
namespace CW
open PySem PySem.Spec PyProof.Rows L2 NdefX PySem.W PySem.F PyProof.V PySem.Calls
section
variable {P : Program} {w : World} {K : PySem.W.Frag} {mg : Str → Option Value} {base : Heap} {CX : CXT} {C f cc cda : Addr} {name qual x : Str} {params : Arguments} {scope : Scope} {dV kV doc pm ctv : Value} {an : Option Addr} {N : List Str} {k : Nat} {p0 p1 p2 p3 p4 : Pos} {fe : Expr} {s2 : Stmt} {body : List Stmt}
end
end CW

set_option Elab.async false
set_option linter.all false
set_option maxRecDepth 100000
set_option maxHeartbeats 2000000
namespace CW
open PySem PySem.Spec PyProof.Rows L2 NdefX PySem.W
end CW

set_option Elab.async false
set_option linter.all false
set_option maxRecDepth 100000
set_option maxHeartbeats 2000000
/-! errors of the program held as values: made, their fields read, asked by isinstance -/
namespace CW
open PySem PySem.Spec PyProof.Rows L2 PySem.W PySem.F PyProof.V PySem.Calls
section
variable {X : Cx} {e : Expr} {es : List Expr} {te : TE} {ta : TA} {p pos : Pos}
end
end CW

set_option Elab.async false
set_option linter.all false
set_option maxRecDepth 100000
set_option maxHeartbeats 2000000
/-! calls that may raise: C(e, ..) and o.m(e, ..); in the suite: isinstance and the fields of the error that it holds -/
namespace CW
open PySem PySem.Spec PyProof.Rows L2 PySem.W PySem.F PyProof.V PySem.Calls
section
variable {X : Cx} {CX : CXT} {k : Nat} {f C : Addr} {fd : FuncData} {ps : List Str} {sp : Sp} {E : L2.St → XK} {x m : Str} {p pos apos : Pos} {e o : Expr} {es : List Expr} {ta : TE} {t : TA}
end
end CW

set_option Elab.async false
set_option linter.all false
set_option maxRecDepth 100000
set_option maxHeartbeats 2000000
/-! list.count of flat values -/
namespace CW
open PySem PySem.Spec PyProof.Rows L2
end CW
namespace CW
open PySem PySem.Spec PyProof.Rows L2
end CW

set_option Elab.async false
set_option linter.all false
set_option maxRecDepth 100000
set_option maxHeartbeats 2000000
/-! keywords of methods, in any order -/
namespace CW
open PySem PySem.Spec PyProof.Rows L2 PySem.W
section
variable {K : PySem.W.Frag} {x qual : Str} {st : Stmt} {f : Addr} {fd : FuncData} {ps ks : List Str} {n : Nat} {g : List Value → List Value → List Value} {gV : List V → List V → List V}
end
end CW

set_option Elab.async false
set_option linter.all false
set_option maxRecDepth 100000
set_option maxHeartbeats 2000000
/-! defs that are only called where no repr is under way; repr of data -/
namespace CW
open PySem PySem.Spec PyProof.Rows L2
structure FnOkG (P : Program) (w : World) (K : PySem.W.Frag) (mg : Str → Option Value) (base : Heap) (CX : CXT) (k : Nat) (f : Addr) (fd : FuncData) (ps : List Str) (sp : Sp) : Prop where
  lenG : ∀ vs H Q E, sp vs H Q E → vs.length = ps.length
  runG : ∀ (A : Around) (outer : List Env) (s : Shared) (H : Hp) (args : Args) (us : List Value) (vs : List V) (Q : VK) (E : XK), A.guards = some [] → Room k A → Env0 P w K mg base A outer s H →
    BindsTo s fd args (ps.zip us) → Vals vs us → sp vs H Q E → codeAny (model P w) A (.call (.ref f) args) (CR CX outer P w H s Q E) s
section
variable {P : Program} {w : World} {K : PySem.W.Frag} {mg : Str → Option Value} {base : Heap} {CX : CXT}
theorem okG_of {x qual : Str} {st : Stmt} {f : Addr} {fd : FuncData} {N ps : List Str} {k : Nat} {sp : Sp} (F : Fun K x qual st f fd) (S : FnScope N ps (defScope st)) (ln : ∀ vs H Q E, sp vs H Q E → vs.length = ps.length)
    (bd : ∀ (cdv : Value) (A : Around) (outer : List Env) (s : Shared) (H : Hp) (vs : List V) (Q : VK) (E : XK), (A.deeper (envOfC qual (defScope st) s.heap.objs.size f cdv)).guards = some [] → Room k (A.deeper (envOfC qual (defScope st) s.heap.objs.size f cdv)) → sp vs H Q E →
      ∃ t, PSs (cxOf CX0 P w K mg base N qual (defScope st) f cdv A outer s H E).nox (defBody st) t ∧ t { nx := fun _ H' => Q .non H', rt := Q } (start N vs) H) : FnOkG P w K mg base CX0 (k + 1) f fd ps sp := by
  obtain ⟨oc, od, kV, doc, pm, an, cdv, ct, osl, rfl, lk, hcd⟩ := F.ex
  refine ⟨ln, fun A outer s H args us vs Q E hg hr e0 hb rv hs => ?_⟩
  have vl := ln _ _ _ _ hs
  have keep : ∀ b o, base.get? b = some o → s.heap.get? b = some o := fun b o z => (e0.bs b o z).1
  have kin : K.In s.heap := e0.mod.kin.keeps keep
  have nl : s.heap.NoLimit := e0.mod.nolimit.keeps keep
  have kinds : ∀ y ∈ ps.zip us, (defScope st).names.lookup y.1 = some .local ∨ ((defScope st).names.lookup y.1 = some .cell ∧ ((cellsFrom (s.heap.objs.size + 1) (defScope st).names []).lookup y.1).isSome = true) := by
    rintro ⟨n, v⟩ hy
    rcases S.par n (List.of_mem_zip hy).1 with h1 | h1
    · exact Or.inl h1
    · exact Or.inr ⟨h1, PySem.W.cellsFrom_some _ _ _ (Or.inl h1)⟩
  refine codeAny_call_function hr.depth (kin _ _ lk) rfl S.co S.gen rfl (PySem.W.codeRec_of kin hcd) (hb _ _ _ _ (wpAny_newFunctionEnv_cells S.kind kinds fun env he s1 nw => ?_))
  cases he
  refine ⟨nl.keeps nw.toInCall.keep, codeAny_func ?_⟩
  obtain ⟨t, ht, hq⟩ := bd cdv A outer s H vs Q E hg (hr.deeper _) hs
  have J : L2.Inv (cxOf CX0 P w K mg base N qual (defScope st) f cdv A outer s H E) [] (start N vs) H s1 := inv_start S hr.hd e0 vl rv nw
  refine wpAny_mono (ht.nox.run [] s1 (start N vs) H _ J hq) (fun fl s2 z => ?_) fun _ _ z => z
  match fl, z with
  | .ret u, ⟨v, _, H2, J2, r2, q2⟩ => exact ⟨v, H2, J2.os, J2.bare, J2.base, J2.hok, r2, q2⟩
  | .next, ⟨_, H2, J2, q2⟩ => exact ⟨.non, H2, J2.os, J2.bare, J2.base, J2.hok, rfl, q2⟩
  | .brk, ⟨_, _, _, q2⟩ => exact q2.elim
  | .cont, ⟨_, _, _, q2⟩ => exact q2.elim
end
section
variable {X : Cx} {CX : CXT} {k : Nat} {f : Addr} {fd : FuncData} {ps : List Str} {sp : Sp} {E : XK} {x : Str} {p pos : Pos} {e : Expr} {es : List Expr} {t : TA}
theorem pe_callG (F : FnOkG X.prog X.w X.K X.mg X.base CX k f fd ps sp) (hgu : X.A.guards = some []) (hr : Room k X.A) (hg : Gl X x) (hm : X.mg x = some (.ref f)) (hk : PySem.W.keepIn X.K (.ref f) = true) (hb : Binds X.K fd ps []) (hx : Passes CX X E)
    (ha : PA X (e :: es) t) (hdb : (x == ("__debug__" : Str)) = false := by decide) (he : starEach (e :: es) X.env = (false, eval e X.env) :: starEach es X.env := by rfl) (hpl : (backTo pos (starEach es X.env)).any (·.1) = false := by rfl) :
    PE X (.Call (.Name x p) (e :: es) [] pos) (tCall sp [] E t) := by
  refine ⟨fun pins s σ H Q I h => wpAny_Call_Name_kw (ld_glob I hg hm ?_ hdb)⟩
  refine PySem.W.callWith_K (h₀ := X.base) I.ok.mod.kin hk (thn (ha.run pos pins s σ H _ I h) fun us s1 ⟨vs, H1, I1, r, q⟩ => ⟨I1.kIn, ?_⟩) he hpl
  have q : sp (vs ++ []) H1 Q E := q
  rw [List.append_nil] at q
  have hl : (us ++ []).length = ps.length := by rw [List.append_nil, ← r.length]; exact F.lenG _ _ _ _ q
  have bnd := hb s1 us I1.kIn hl
  rw [List.append_nil] at bnd
  refine wpAny_call (codeAny_mono (F.runG X.A X.stack s1 H1 ⟨us, []⟩ us vs Q E hgu hr I1.env0 bnd r q) fun z s2 hz => ?_)
  match z, hz with
  | .error er, hz => exact hx pins σ H1 s1 er s2 I1 hz
  | .ok (.ret u), hz => exact I1.after hz
  | .ok .next, hz => exact hz.elim
  | .ok .brk, hz => exact hz.elim
  | .ok .cont, hz => exact hz.elim
def rRepr (K : PySem.W.Frag) : List V → Hp → VK → Prop := fun xs H Q => ∃ (a : Addr) (d : PyData), xs = [.ref a] ∧ Dp K H (.ref a) d ∧ d.showable = true ∧ d.hasDict = false ∧ d.depth ≤ 50 ∧ d.shown.length ≤ sizeLine ∧ Q (.str d.shown) H
theorem call_repr {k : Nat} (hgu : X.A.guards = some []) (hr : Room k X.A) : CallR X (.builtin "repr") (rRepr X.K) := by
  rintro pins s σ H xs us Q I r ⟨a, d, rfl, hd, hs, hn, hp, hz, q⟩
  cases r with
  | cons rx rr =>
    cases rr
    cases rx
    obtain ⟨as, hrd⟩ := Dp.reads I d _ _ hd rfl
    have hu := hr.units
    refine PySem.repr_of_reads' hrd hs (PyData.noDict_hsm hn) hgu (by omega) (fun _ _ z => z) (fun h2 u tk hk => ?_) hz
    exact ⟨.str d.shown, H, I.kept (t' := tk) hk, ⟨u, rfl⟩, q⟩
end
section
variable {P : Program} {w : World} {K : PySem.W.Frag} {mg mb : Str → Option Value} {CX : CXT} {k : Nat} {fa a : Addr} {fd : FuncData} {x : Str} {sp : Sp} {s₁ : Shared} {vs : List Value} {ns : List Int}
theorem law_coreG (KX : K.In s₁.heap) (hns : s₁.heap.Ns mainGlobals mg) (hb : s₁.heap.Ns builtinsNs mb) (hbb : ∀ x : Str, x ≠ "__name__" → mb x = bootBuiltins x) (hlim : s₁.heap.NoLimit) (hg : s₁.gens = #[])
    (ha : s₁.heap.get? a = some { cls := .type "list", data := .seq vs.toArray }) (hr : Room k callerA)
    (F : ∀ base : Heap, K.In base → base.Ns mainGlobals mg → FnOkG P w K mg base CX k fa fd [x] sp) (bnd : ∀ (s : Shared) (u : Value), BindsTo s fd ⟨[u], []⟩ [(x, u)])
    (hCX : ∀ H e s', CX [] H s₁ (fun _ _ _ => False) e s' → False) {H : Hp} (hO : Only H) (hok : HOk P w H s₁.heap) (hA : ∀ b, H b ≠ none → b = a) (hK : H a ≠ none → K.lookup a = none) (hs : sp [.ref a] H (fun v _ => v = .bl true) fun _ _ _ => False) :
    codeAny (model P w) callerA (.call (.ref fa) ⟨[.ref a], []⟩) (fun r s' => r = .ok (.ret (.bool true)) ∧ OldK s₁.heap s'.heap ∧ s'.os = s₁.os ∧ AllBare s'.gens) s₁ := by
  have only_a : ∀ {b : Addr} {u : HO}, H b = some u → b = a := fun {b u} z => hA b (by rw [z]; exact fun y => by cases y)
  have put : ∀ {b : Addr} {o : Obj}, s₁.heap.get? b = some o → H b = none → (hidT s₁.heap H).get? b = some o := fun z y => hidT_get z y
  have notA : ∀ {b : Addr} {o : Obj} {es : Array DictEntry} {ep : Nat}, s₁.heap.get? b = some o → o.data = .dict es ep → H b = none := by
    intro b o es ep z y
    match q : H b with
    | none => rfl
    | some u =>
      cases only_a q
      rw [ha] at z
      cases z
      cases (show Data.seq vs.toArray _ = Data.dict es ep from y)
  have names : ∀ {b : Addr} {m : Str → Option Value}, s₁.heap.Ns b m → (hidT s₁.heap H).Ns b m := by
    rintro b m ⟨o, es, ep, z, y, r⟩
    exact ⟨o, es, ep, put z (notA z y), y, r⟩
  have inK : K.In (hidT s₁.heap H) := by
    intro b o z
    refine put (KX b o z) ?_
    match q : H b with
    | none => rfl
    | some u =>
      cases only_a q
      rw [hK (by rw [q]; exact fun y => by cases y)] at z
      cases z
  have lim : (hidT s₁.heap H).NoLimit := by
    obtain ⟨mc, h1, h2⟩ := hlim
    exact ⟨mc, names h1, h2⟩
  have env : Env0 P w K mg (hidT s₁.heap H) callerA [] s₁ H :=
    ⟨rfl, ⟨inK, names hns, ⟨mb, names hb, hbb⟩, lim⟩, fun b o z => of_hidT z, Nat.le_of_eq (hidT_size _ _), trivial, fun b z => absurd (show b ∈ ([] : List Addr) from z) (by simp), hok, .of_eq hg⟩
  refine codeAny_mono ((F _ inK (names hns)).runG callerA [] s₁ H ⟨[.ref a], []⟩ [.ref a] [.ref a] _ _ rfl hr env (bnd s₁ (.ref a)) (.cons rfl .nil) hs) fun r s2 z => ?_
  match r, z with
  | .error e, z => exact (hCX H e s2 z).elim
  | .ok .next, z => exact z.elim
  | .ok .brk, z => exact z.elim
  | .ok .cont, z => exact z.elim
  | .ok (.ret u), ⟨v, H2, ho, hbr, un, hok2, rv, q⟩ =>
    cases (show v = .bl true from q)
    cases (show u = Value.bool true from rv)
    refine ⟨rfl, OldK.of_keep fun b o z => ?_, ho, hbr⟩
    match q : H b with
    | none => exact un.keep b o z q (fun y => absurd (show b ∈ ([] : List Addr) from y) (by simp)) (by simp)
    | some u =>
      rcases hO b with y | ⟨ob, xs, y⟩
      · rw [q] at y; cases y
      · have e1 := (hok b _ y).1
        have e2 := (hok2 b _ (un.frzs b ob _ y)).1
        rw [z] at e1
        cases e1
        exact e2
theorem law_callG (KX : K.In s₁.heap) (hns : s₁.heap.Ns mainGlobals mg) (hb : s₁.heap.Ns builtinsNs mb) (hbb : ∀ x : Str, x ≠ "__name__" → mb x = bootBuiltins x) (hlim : s₁.heap.NoLimit) (hg : s₁.gens = #[])
    (ha : s₁.heap.get? a = some { cls := .type "list", data := .seq vs.toArray }) (hi : IntsAre vs ns) (hl : ns.length ≤ sizeLine) (hr : Room k callerA)
    (F : ∀ base : Heap, K.In base → base.Ns mainGlobals mg → FnOkG P w K mg base CX k fa fd [x] sp) (bnd : ∀ (s : Shared) (u : Value), BindsTo s fd ⟨[u], []⟩ [(x, u)])
    (hsp : ∀ H : Hp, Only H → SqL K H a (ns.map V.int) → sp [.ref a] H (fun v _ => v = .bl true) fun _ _ _ => False)
    (hCX : ∀ H e s', CX [] H s₁ (fun _ _ _ => False) e s' → False) :
    codeAny (model P w) callerA (.call (.ref fa) ⟨[.ref a], []⟩) (fun r s' => r = .ok (.ret (.bool true)) ∧ OldK s₁.heap s'.heap ∧ s'.os = s₁.os ∧ AllBare s'.gens) s₁ := by
  have rv := vals_ints hi
  have vl := hi.length
  match q : K.lookup a with
  | some o =>
    have z := KX a o q
    rw [ha] at z
    cases z
    have hS : SqL K (fun _ => none) a (ns.map V.int) := Or.inr ⟨_, vs.toArray, _, q, rfl, rfl, rfl, by rw [List.size_toArray, vl]; exact hl, by simpa using rv⟩
    exact law_coreG KX hns hb hbb hlim hg ha hr F bnd hCX (H := fun _ => none) (fun _ => Or.inl rfl) (fun b u y => by cases (show (none : Option HO) = some u from y)) (fun b y => absurd rfl y) (fun y => absurd rfl y) (hsp _ (fun _ => Or.inl rfl) hS)
  | none =>
    have hO : Only (fun b => if b = a then some (.frz { cls := .type "list", data := .seq vs.toArray } (.lst (ns.map V.int))) else none) := by
      intro b
      by_cases y : b = a
      · exact Or.inr ⟨_, _, if_pos y⟩
      · exact Or.inl (if_neg y)
    refine law_coreG KX hns hb hbb hlim hg ha hr F bnd hCX hO (fun b u z => ?_) (fun b z => ?_) (fun _ => q) (hsp _ hO (Or.inl (Or.inr ⟨{ cls := .type "list", data := .seq vs.toArray }, if_pos rfl⟩)))
    · by_cases y : b = a
      · cases (if_pos y).symm.trans z
        subst y
        exact ⟨ha, by rw [List.length_map]; exact hl, vs, _, rv, ha⟩
      · cases (if_neg y).symm.trans z
    · by_cases y : b = a
      · exact y
      · exact absurd (if_neg y) z
end
theorem walk_ofG {l : PySem.W.OpenLaw} {n k : Nat} {q : Program} {loose : List Str} {XP : (Str → Option Value) → Heap → Prop} {YP : World → Heap → Prop} {d : DefRec} {K : Params → PySem.W.Frag} {sp : World → Sp} {x : Str}
    (hn : l.most = some n) (hn2 : n ≤ sizeLine) (hdf : d.params.defaults = []) (hr : Room k callerA) (hY : ∀ (w : World) (h : Heap), YP w h → (K w.params).In h)
    (F : ∀ (w : World) (mg : Str → Option Value) (fa : Addr) (h : Heap), (K w.params).In h → h.Ns mainGlobals mg → mg d.name = some (.ref fa) →
      ∃ fd : FuncData, (∀ (s : Shared) (u : Value), BindsTo s fd ⟨[u], []⟩ [(x, u)]) ∧ ∀ base : Heap, (K w.params).In base → base.Ns mainGlobals mg → FnOkG l.prog w (K w.params) mg base CX0 k fa fd [x] (sp w))
    (hsp : ∀ (w : World) (H : Hp) (a : Addr) (ns : List Int), ns.length ≤ n → Only H → SqL (K w.params) H a (ns.map V.int) → sp w [.ref a] H (fun v _ => v = .bl true) fun _ _ _ => False) :
    PySem.W.WalkO q loose XP YP l.row.toRowW d [] (fun f vs => PySem.call f vs) := by
  refine Att.attach_call hn hdf fun w s₀ s₁ mg mb fa o pm cd doc a vs ns G Y _ _ _ hm hobj hints hlen hg => ?_
  obtain ⟨fd, hb, hF⟩ := F w mg fa _ (hY w _ Y) G.T.g hm
  exact law_callG (hY w _ Y) G.T.g G.T.b G.T.builtins G.T.nolimit hg hobj hints (Nat.le_trans hlen hn2) hr hF hb (fun H z y => hsp w H a ns hlen z y) fun _ _ _ z => z
end CW

set_option Elab.async false
set_option linter.all false
set_option maxRecDepth 100000
set_option maxHeartbeats 2000000
/-! errors whose field may also be a tuple of texts or small numbers -/
namespace CW
open PySem PySem.Spec PyProof.Rows L2 NdefX PySem.W
end CW

set_option Elab.async false
set_option linter.all false
set_option maxRecDepth 100000
set_option maxHeartbeats 2000000
/-! what the written part says of one class of errors, in one piece -/
namespace CW
open PySem PySem.Spec PyProof.Rows L2 NdefX PySem.W
abbrev fnI (st : Stmt) (ql : Str) (cc cd : Addr) (kI doI pI : Value) (anI : Option Addr) (ctI : Value) : FuncData := fnX "__init__" ql (defArgs st) (defBody st) (defScope st) [("__class__", cc)] .none kI doI pI anI (.ref cd) ctI
structure ErrT (P : Program) (K : PySem.W.Frag) (mg : Str → Option Value) (nm : Str) (st : Stmt) (ql fld x : Str) where
  (C fI cc cd : Addr)
  (kI doI pI ctI : Value)
  anI : Option Addr
  a : nsIn K mainGlobals nm = some (some (.ref C))
  g : mg nm = some (.ref C)
  S : SupK K P C fI cc cd (fnI st ql cc cd kI doI pI anI ctI)
  hc : codeIn K (.ref cd) ql = true
  ox : OexC K C
  no : findIn K (.ref C) fld = some none
  iI : findIn K (.ref C) "__init__" = some (some (.ref fI))
  tI : typeIn K (.ref fI) = some (.type "function")
  bI : L2.Binds K (fnI st ql cc cd kI doI pI anI ctI) ["self", x] []
  xc : ExcC K C
  xf : XfC K C
structure LeafT (K : PySem.W.Frag) (mg : Str → Option Value) (nm : Str) (bm : List Value) (newId : String) where
  C : Addr
  a : nsIn K mainGlobals nm = some (some (.ref C))
  g : mg nm = some (.ref C)
  qx : excIn K C bm newId = true
  kx : keepIn K (.ref C) = true
  xc : ExcC K C
structure ErrAll (P : Program) (K : PySem.W.Frag) (mg : Str → Option Value) : Prop where
  op : nsIn K cStatics "thirdparty.any" = some none
  spe : specialIn K (.builtin "object.__class__") "__get__" = some (some (.builtin "getset_descriptor.__get__"))
  tak : takesIn K (.builtin "object.__class__") = some true
  top : (P.main.scope.names.lookup ("super" : Str)).isSome = false
section
variable {P : Program} {K : PySem.W.Frag} {mg : Str → Option Value} {h : Heap} {nm : Str} {st : Stmt} {ql fld x : Str}
end
def addrOf (K : PySem.W.Frag) (n : Str) : Addr := match nsIn K mainGlobals n with
  | some (some (.ref a)) => a
  | _ => 0
theorem addrOf_eq {K : PySem.W.Frag} {n : Str} {C : Addr} (h : nsIn K mainGlobals n = some (some (.ref C))) : addrOf K n = C := by
  unfold addrOf
  rw [h]
end CW

set_option Elab.async false
set_option linter.all false
set_option maxRecDepth 100000
set_option maxHeartbeats 2000000
/-! what repr asks of data -/
namespace CW
open PySem PySem.Spec PyProof.Rows L2
theorem dp_all {n : Nat} : ∀ {ds : List PyData}, (∀ d ∈ ds, d.depth ≤ n) → PyData.depthAll ds ≤ n
  | [], _ => Nat.zero_le _
  | d :: r, h => by
    rw [PyData.depthAll]
    exact Nat.max_le.mpr ⟨h d List.mem_cons_self, dp_all (ds := r) fun e he => h e (List.mem_cons_of_mem _ he)⟩
theorem shown_map : ∀ ds : List PyData, PyData.shownAll ds = ds.map PyData.shown
  | [] => rfl
  | d :: r => by rw [PyData.shownAll, shown_map r]; rfl
theorem str_text_le {z : Str} (h : ascS z = true) : (PyData.str z).shown.length ≤ 10 * z.length + 4 := by
  have := StrLaws.reprText_len z fun c hc => Nat.lt_trans (of_decide_eq_true (List.all_eq_true.mp h c hc)) (by decide)
  rw [PyData.shown]
  omega
end CW

set_option Elab.async false
set_option linter.all false
set_option maxRecDepth 100000
set_option maxHeartbeats 2000000
/-! x in o, o an instance of a class with its own __contains__ -/
namespace CW
open PySem PySem.Spec PyProof.Rows L2 PySem.W
section
variable {X : Cx} {CX : CXT} {k : Nat} {f C : Addr} {fd : FuncData} {ps : List Str} {sp : Sp}
end
end CW

set_option Elab.async false
set_option linter.all false
set_option maxRecDepth 100000
set_option maxHeartbeats 1000000
/-! dicts whose keys are data (tuples, nested) -/
namespace CW
open PySem PySem.Spec PyProof.Rows L2
mutual
def nkey : PyData → NestedKey
  | .none => .none
  | .bool b => .num (if b = true then 1 else 0)
  | .int i => .num i
  | .str x => .text x
  | .tuple ds => .tup (nkeys ds)
  | .list _ => .none
  | .dict _ => .none
def nkeys : List PyData → List NestedKey
  | [] => []
  | d :: ds => nkey d :: nkeys ds
end
mutual
theorem reads_nkey {h : Heap} : ∀ (d : PyData) (u : Value) (as : List Addr), Im d = true → Reads h u d as → NestedIs h (nkey d) u
  | .none, _, _, _, r => by cases r; rw [nkey]; exact .none
  | .bool b, _, _, _, r => by cases r; rw [nkey]; exact .bool rfl
  | .int i, _, _, _, r => by cases r; rw [nkey]; exact .int _ _
  | .str x, _, _, _, r => by cases r; rw [nkey]; exact .text _ _
  | .tuple ds, _, _, im, r => by
    cases r with
    | tuple h1 h2 h3 h4 => rw [nkey]; exact .tup h1 h2 h3 (reads_nkeys ds _ _ (by simpa [Im] using im) h4)
  | .list _, _, _, im, _ => by simp [Im] at im
  | .dict _, _, _, im, _ => by simp [Im] at im
theorem reads_nkeys {h : Heap} : ∀ (ds : List PyData) (us : List Value) (as : List Addr), ImAll ds = true → ReadsAll h us ds as → NestedAll h (nkeys ds) us
  | [], _, _, _, r => by cases r; rw [nkeys]; exact .nil
  | d :: ds, _, _, im, r => by
    rw [ImAll, Bool.and_eq_true] at im
    cases r with
    | cons h1 h2 => rw [nkeys]; exact .cons (reads_nkey d _ _ im.1 h1) (reads_nkeys ds _ _ im.2 h2)
end
abbrev NEnt := PyData × Addr × V
def KN (kvs : List NEnt) (xs : List (NestedKey × Addr × Value)) : Prop := Paired (fun p q => nkey p.1 = q.1 ∧ p.2.1 = q.2.1 ∧ RelV p.2.2 q.2.2) kvs xs
def ndφ (P : Program) (w : World) (a : Addr) (kvs : List NEnt) : Heap → Prop := fun h => ∃ xs, KN kvs xs ∧ ∃ o es ep, h.get? a = some o ∧ o.ExactDict ∧ o.data = .dict es ep ∧ es.toList = xs.map (entryOfKey (nestedKind P w)) ∧ (xs.map (·.1)).Nodup
def ndO (P : Program) (w : World) (a : Addr) (kvs : List NEnt) : HO := .ext (ndφ P w a kvs)
def NKey (K : PySem.W.Frag) (H : Hp) (v : V) (d : PyData) : Prop := Dp K H v d ∧ Im d = true ∧ (nkey d).depth ≤ 8
structure ND (P : Program) (w : World) (K : PySem.W.Frag) (H : Hp) (a : Addr) (kvs : List NEnt) : Prop where
  here : H a = some (ndO P w a kvs)
  hd : (a == sysModules) = false
  len : kvs.length ≤ sizeLine
  ks : ∀ p ∈ kvs, NKey K H (.ref p.2.1) p.1
def findN (kvs : List NEnt) (k : NestedKey) : Option NEnt := kvs.find? fun p => decide (nkey p.1 = k)
section
variable {X : Cx} {pins : List (Addr × Obj)} {σ : L2.St} {H : Hp} {s : Shared} {a b : Addr} {kvs : List NEnt} {d : PyData}
theorem NKey.is {v : V} {u : Value} (I : Inv X pins σ H s) (n : NKey X.K H v d) (r : RelV v u) : NestedIs s.heap (nkey d) u := by
  obtain ⟨as, h⟩ := Dp.reads I d v u n.1 r
  exact reads_nkey d u as n.2.1 h
theorem NKey.key (I : Inv X pins σ H s) (n : NKey X.K H (.ref b) d) : (nestedKind X.prog X.w).is s.heap (nkey d) b := ⟨n.is I rfl, n.2.2⟩
theorem KN.keys : ∀ {kvs : List NEnt} {xs : List (NestedKey × Addr × Value)}, KN kvs xs → (∀ p ∈ kvs, (nestedKind X.prog X.w).is s.heap (nkey p.1) p.2.1) → ∀ x ∈ xs, (nestedKind X.prog X.w).is s.heap x.1 x.2.1
  | _, _, .nil, _, x, hx => by cases hx
  | _, _, .cons h t, hk, x, hx => by
    rcases List.mem_cons.mp hx with rfl | hx
    · have := hk _ (List.mem_cons_self ..)
      rw [h.1, h.2.1] at this; exact this
    · exact KN.keys t (fun p hp => hk p (List.mem_cons_of_mem _ hp)) x hx
theorem ND.dict (I : Inv X pins σ H s) (n : ND X.prog X.w X.K H a kvs) : ∃ xs, KN kvs xs ∧ s.heap.DictOfH (nestedKind X.prog X.w) a xs := by
  obtain ⟨⟨xs, r, o, es, ep, h1, h2, h3, h4, h5⟩, _⟩ := (show ObjOk X.prog X.w H s.heap a (ndO X.prog X.w a kvs) from I.hok a _ n.here)
  exact ⟨xs, r, o, es, ep, h1, h2, h3, h4, KN.keys r (fun p hp => (n.ks p hp).key I), h5⟩
theorem KN.val : ∀ {kvs : List NEnt} {xs : List (NestedKey × Addr × Value)}, KN kvs xs → ∀ k, RelO ((findN kvs k).map (·.2.2)) ((atKey xs k).map (·.2))
  | _, _, .nil, _ => True.intro
  | p :: kvs, q :: xs, .cons h t, k => by
    obtain ⟨h1, _, h2⟩ := h
    by_cases e : nkey p.1 = k
    · have e' : q.1 = k := h1.symm.trans e
      have b : atKey (q :: xs) k = some q.2 := by simp [atKey, List.find?_cons, e']
      have c : findN (p :: kvs) k = some p := by unfold findN; rw [List.find?_cons, decide_eq_true e]
      rw [b, c]; exact h2
    · have e' : ¬ q.1 = k := fun z => e (h1.trans z)
      have b : atKey (q :: xs) k = atKey xs k := by simp [atKey, List.find?_cons, e']
      have c : findN (p :: kvs) k = findN kvs k := by unfold findN; rw [List.find?_cons, decide_eq_false e]
      rw [b, c]; exact KN.val t k
end
/-! `in` -/
def rInN (P : Program) (w : World) (K : PySem.W.Frag) (neg : Bool) : R2 := fun x y H Q => ∃ a b d kvs, x = .ref b ∧ y = .ref a ∧ ND P w K H a kvs ∧ NKey K H x d ∧ Q (.bl (if neg then !(findN kvs (nkey d)).isSome else (findN kvs (nkey d)).isSome)) H
theorem op_notInN {X : Cx} (hu : X.A.units + 10 < cLine) : OpR X (compareOp .NotIn) (rInN X.prog X.w X.K true) := by
  intro pins s σ H x y v u Q I rx ry h
  obtain ⟨a, b, d, kvs, rfl, rfl, n, nk, q⟩ := h
  cases (show v = Value.ref b from rx)
  cases (show u = Value.ref a from ry)
  obtain ⟨xs, r, dd⟩ := n.dict I
  refine wpAny_notIn_heap (show X.A.in1.units + 8 < cLine from ?_) (nk.key I) n.hd dd ?_
  · show X.A.units + 1 + 8 < cLine
    omega
  · have e := (KN.val r (nkey d)).isSome_eq
    rw [Option.isSome_map, Option.isSome_map] at e
    rw [← e]
    exact ⟨.bl _, H, I.tok _, rfl, q⟩
/-! d[k] = v -/
def putN (kvs : List NEnt) (d : PyData) (b : Addr) (v : V) : List NEnt := if (findN kvs (nkey d)).isSome then kvs.map (fun p => if nkey p.1 = nkey d then (p.1, p.2.1, v) else p) else kvs ++ [(d, b, v)]
theorem KN.repl {k : NestedKey} {y : V} {u : Value} (ry : RelV y u) : ∀ {kvs : List NEnt} {xs : List (NestedKey × Addr × Value)}, KN kvs xs → KN (kvs.map fun p => if nkey p.1 = k then (p.1, p.2.1, y) else p) (xs.map (putAt k u))
  | _, _, .nil => .nil
  | p :: kvs, q :: xs, .cons h t => by
    rw [List.map_cons, List.map_cons]
    refine .cons ?_ (KN.repl ry t)
    obtain ⟨h1, h2, h3⟩ := h
    unfold putAt
    by_cases e : nkey p.1 = k
    · rw [if_pos e, if_pos (h1.symm.trans e)]; exact ⟨h1, h2, ry⟩
    · rw [if_neg e, if_neg (fun z => e (h1.trans z))]; exact ⟨h1, h2, h3⟩
theorem KN.put {kvs : List NEnt} {xs : List (NestedKey × Addr × Value)} (r : KN kvs xs) (d : PyData) (b : Addr) {y : V} {u : Value} (ry : RelV y u) : KN (putN kvs d b y) (storedH xs (nkey d) b u) := by
  have e := (KN.val r (nkey d)).isSome_eq
  rw [Option.isSome_map, Option.isSome_map] at e
  unfold putN storedH
  rw [e]
  by_cases q : (atKey xs (nkey d)).isSome = true
  · rw [if_pos q, if_pos q]; exact KN.repl ry r
  · rw [if_neg q, if_neg q]; exact Paired.snoc r ⟨rfl, rfl, ry⟩
theorem putN_len (kvs : List NEnt) (d : PyData) (b : Addr) (v : V) : (putN kvs d b v).length ≤ kvs.length + 1 := by
  unfold putN
  split
  · rw [List.length_map]; omega
  · rw [List.length_append, List.length_singleton]; exact Nat.le_refl _
theorem mem_putN {kvs : List NEnt} {d : PyData} {b : Addr} {v : V} {p : NEnt} (h : p ∈ putN kvs d b v) : (∃ q ∈ kvs, p.1 = q.1 ∧ p.2.1 = q.2.1) ∨ (p.1 = d ∧ p.2.1 = b) := by
  unfold putN at h
  split at h
  · obtain ⟨q, hq, rfl⟩ := List.mem_map.mp h
    refine .inl ⟨q, hq, ?_⟩
    split <;> exact ⟨rfl, rfl⟩
  · rcases List.mem_append.mp h with h | h
    · exact .inl ⟨p, h, rfl, rfl⟩
    · cases List.mem_singleton.mp h; exact .inr ⟨rfl, rfl⟩
theorem SqT.updN {K : PySem.W.Frag} {H : Hp} {a b : Addr} {xs : List V} {φ : Heap → Prop} {o : HO} (hb : H b = some (.ext φ)) (h : SqT K H a xs) : SqT K (L2.upd H b o) a xs := by
  rcases h with (h | ⟨u, h⟩) | h
  · refine .inl (.inl ?_)
    rw [upd_ne (ne_of h hb (by intro z; cases z))]; exact h
  · refine .inl (.inr ⟨u, ?_⟩)
    rw [upd_ne (ne_of h hb (by intro z; cases z))]; exact h
  · exact .inr h
theorem NKey.mono {K : PySem.W.Frag} {H H' : Hp} {v : V} {d : PyData} (x : Xt H H') (h : NKey K H v d) : NKey K H' v d := ⟨Dp.mono x h.1, h.2⟩
theorem NKey.updN {K : PySem.W.Frag} {H : Hp} {b : Addr} {v : V} {d : PyData} {φ : Heap → Prop} {o : HO} (hb : H b = some (.ext φ)) (h : NKey K H v d) : NKey K (L2.upd H b o) v d := ⟨Dp.im (fun a xs hs => SqT.updN hb hs) h.2.1 h.1, h.2⟩
theorem ND.mono {P : Program} {w : World} {K : PySem.W.Frag} {H H' : Hp} {a : Addr} {kvs : List NEnt} (x : Xt H H') (n : ND P w K H a kvs) : ND P w K H' a kvs := ⟨x _ _ n.here, n.hd, n.len, fun p hp => (n.ks p hp).mono x⟩
theorem ND.put {P : Program} {w : World} {K : PySem.W.Frag} {H : Hp} {a b : Addr} {kvs : List NEnt} {d : PyData} {v : V} (n : ND P w K H a kvs) (nk : NKey K H (.ref b) d) (hl : kvs.length < sizeLine) : ND P w K (L2.upd H a (ndO P w a (putN kvs d b v))) a (putN kvs d b v) :=
  ⟨upd_same, n.hd, by have := putN_len kvs d b v; omega, fun p hp => by
    rcases mem_putN hp with ⟨q, hq, e1, e2⟩ | ⟨e1, e2⟩
    · rw [e1, e2]; exact (n.ks q hq).updN n.here
    · rw [e1, e2]; exact nk.updN n.here⟩
theorem find_putN {kvs : List NEnt} {d e : PyData} {b : Addr} {v : V} : (findN (putN kvs d b v) (nkey e)).map (·.2.2) = if nkey e = nkey d then some v else (findN kvs (nkey e)).map (·.2.2) := by
  unfold putN
  by_cases h : (findN kvs (nkey d)).isSome = true
  · rw [if_pos h]
    induction kvs with
    | nil => cases h
    | cons p kvs ih =>
      unfold findN at *
      rw [List.map_cons, List.find?_cons, List.find?_cons]
      rw [List.find?_cons] at h
      by_cases e1 : nkey p.1 = nkey d
      · rw [if_pos e1]
        show Option.map _ (match decide (nkey p.1 = nkey e) with | true => _ | false => _) = _
        by_cases e2 : nkey e = nkey d
        · rw [if_pos e2, decide_eq_true (e1.trans e2.symm)]; rfl
        · have e3 : ¬ nkey p.1 = nkey e := fun z => e2 (z.symm.trans e1)
          rw [if_neg e2, decide_eq_false e3]
          show Option.map _ (List.find? _ (kvs.map _)) = Option.map _ (List.find? _ kvs)
          clear ih h
          induction kvs with
          | nil => rfl
          | cons q kvs ih =>
            rw [List.map_cons, List.find?_cons, List.find?_cons]
            by_cases e4 : nkey q.1 = nkey d
            · rw [if_pos e4]
              have e5 : ¬ nkey q.1 = nkey e := fun z => e2 (z.symm.trans e4)
              show Option.map _ (match decide (nkey q.1 = nkey e) with | true => _ | false => _) = _
              rw [decide_eq_false e5]; exact ih
            · rw [if_neg e4]
              by_cases e5 : nkey q.1 = nkey e
              · rw [decide_eq_true e5]
              · rw [decide_eq_false e5]; exact ih
      · rw [if_neg e1]
        rw [decide_eq_false e1] at h
        by_cases e2 : nkey p.1 = nkey e
        · rw [decide_eq_true e2, if_neg (fun z => e1 (e2.trans z))]
        · rw [decide_eq_false e2]; exact ih h
  · rw [if_neg h]
    unfold findN at *
    rw [List.find?_append]
    by_cases e2 : nkey e = nkey d
    · rw [if_pos e2, e2]
      have h0 : List.find? (fun p => decide (nkey p.1 = nkey d)) kvs = none := by
        cases q : List.find? (fun p => decide (nkey p.1 = nkey d)) kvs with
        | none => rfl
        | some z => rw [q] at h; exact absurd rfl h
      rw [h0, List.find?_cons, decide_eq_true rfl]; rfl
    · rw [if_neg e2, List.find?_cons, decide_eq_false (fun z => e2 z.symm)]
      cases List.find? (fun p => decide (nkey p.1 = nkey e)) kvs <;> rfl
def rSetN (P : Program) (w : World) (K : PySem.W.Frag) : V → V → V → Hp → (Hp → Prop) → Prop := fun o i v H Q => ∃ a b d kvs, o = .ref a ∧ i = .ref b ∧ ND P w K H a kvs ∧ NKey K H i d ∧ kvs.length < sizeLine ∧ Q (L2.upd H a (ndO P w a (putN kvs d b v)))
theorem ndO_ok {P : Program} {w : World} {H : Hp} {h : Heap} {a : Addr} {kvs : List NEnt} {xs : List (NestedKey × Addr × Value)} (r : KN kvs xs) (dd : h.DictOfH (nestedKind P w) a xs) : ObjOk P w H h a (ndO P w a kvs) := by
  obtain ⟨o, es, ep, h1, h2, h3, h4, _, h5⟩ := dd
  exact ⟨⟨xs, r, o, es, ep, h1, h2, h3, h4, h5⟩, ⟨o, h1⟩, fun g1 g2 ⟨ys, ry, q, fs, fp, k1, k2, k3, k4, k5⟩ hg => ⟨ys, ry, q, fs, fp, hg _ k1, k2, k3, k4, k5⟩⟩
theorem set_N {X : Cx} (hu : X.A.units + 10 < cLine) : PSet X (rSetN X.prog X.w X.K) := by
  intro pins s σ H o i v ov iv u Q I ro ri rv h
  obtain ⟨a, b, d, kvs, rfl, rfl, n, nk, hl, q⟩ := h
  cases (show ov = Value.ref a from ro)
  cases (show iv = Value.ref b from ri)
  obtain ⟨xs, r, dd⟩ := n.dict I
  have hz : xs.length ≤ sizeLine := by rw [← Paired.length r]; exact n.len
  refine wpAny_setItem_heap (hsz := hz) (show X.A.in1.units + 8 < cLine from ?_) (nk.key I) dd fun h' dd' hs => ?_
  · show X.A.units + 1 + 8 < cLine
    omega
  · refine ⟨_, d_write I (by rw [n.here]; exact True.intro) hs ?_ (ndO_ok (KN.put r d b rv) dd'), q⟩
    obtain ⟨ob, _, _, hq, _⟩ := dd'
    exact ⟨ob, hq⟩
/-! d[k], there; {} -/
def tNGet (P : Program) (w : World) (K : PySem.W.Frag) (td ty : TE) : TE := fun σ H Q => td σ H fun x H1 => ty σ H1 fun y H2 => ∃ a b d kvs p, x = .ref a ∧ y = .ref b ∧ ND P w K H2 a kvs ∧ NKey K H2 y d ∧ findN kvs (nkey d) = some p ∧ Q p.2.2 H2
theorem pe_nget {X : Cx} {o i : Expr} {pos : Pos} {td ty : TE} (hu : X.A.units + 10 < cLine) (ho : PE X o td) (hi : PE X i ty) (hs : NoSl i) : PE X (.Subscript o i pos) (tNGet X.prog X.w X.K td ty) := by
  refine ⟨fun pins s σ H Q I h => ?_⟩
  refine subD_of PySem.F.slot_dict_getitem.lookup hs (thn (ho.run pins s σ H _ I h) fun u s1 ⟨x, H1, I1, rx, q1⟩ => thn (hi.run pins s1 σ H1 _ I1 q1) fun iv s2 ⟨y, H2, I2, ry, a, b, d, kvs, p, ex, ey, n, nk, hp, q2⟩ => ?_)
  subst ex ey
  obtain rfl : u = Value.ref a := rx
  obtain rfl : iv = Value.ref b := ry
  obtain ⟨xs, r, dd⟩ := n.dict I2
  refine ⟨dd.typeIs, ?_⟩
  obtain ⟨w', hw, rw'⟩ := RelO.some_of (v := p.2.2) (o := (atKey xs (nkey d)).map (·.2)) (by have := KN.val r (nkey d); rw [hp] at this; exact this)
  obtain ⟨z, hz, hz2⟩ := Option.map_eq_some_iff.mp hw
  refine wpAny_getItem_heap (show X.A.in1.units + 8 < cLine from ?_) (nk.key I2) dd hz ?_
  · show X.A.units + 1 + 8 < cLine
    omega
  · rw [hz2]
    exact ⟨_, H2, I2.tok _, rw', q2⟩
def tNNew (P : Program) (w : World) (K : PySem.W.Frag) : TE := fun _ H Q => ∀ p, H p = none → (p == sysModules) = false → Q (.ref p) (L2.upd H p (ndO P w p []))
theorem pe_nnew {X : Cx} {pos : Pos} : PE X (.Dict [] [] pos) (tNNew X.prog X.w X.K) := ⟨fun pins s σ H Q I h => by
  have hb : (s.heap.objs.size == sysModules) = false := beq_eq_false_iff_ne.mpr (Ne.symm (Nat.ne_of_lt I.big))
  exact wpAny_Dict_empty ⟨.ref s.heap.objs.size, _, I.laid (a := s.heap.objs.size) (o := ndO X.prog X.w s.heap.objs.size []) (t' := s.toks) (fun _ _ q => Heap.get?_push_of_some _ q) (Nat.le_refl _) (ndO_ok .nil (Heap.DictOfH.new s.heap)), rfl, h _ (I.hok.fresh (Nat.le_refl _)) hb⟩⟩
theorem ND.new {P : Program} {w : World} {K : PySem.W.Frag} {H : Hp} {p : Addr} (hd : (p == sysModules) = false) : ND P w K (L2.upd H p (ndO P w p [])) p [] := ⟨upd_same, hd, Nat.zero_le _, fun q hq => by cases hq⟩
/-! list(d), tuple(d): the keys in order -/
section
variable {prog : Program} {w : World} {A : Around} {E : Value → Shared → Prop} {s : Shared} {r d : Addr} {n : Nat} {P : Nat → Value → Prop} {OK : Heap → Prop}
end
def keysN (kvs : List NEnt) : List V := kvs.map fun p => V.ref p.2.1
theorem KN.refs : ∀ {kvs : List NEnt} {xs : List (NestedKey × Addr × Value)}, KN kvs xs → keysN kvs = (xs.map fun x => x.2.1).map V.ref
  | _, _, .nil => rfl
  | p :: kvs, q :: xs, .cons h t => by
    show V.ref p.2.1 :: keysN kvs = V.ref q.2.1 :: _
    rw [h.2.1, KN.refs t]
section
variable {X : Cx}
end
theorem hu10 {k : Nat} {A : Around} (hr : Room k A) : A.units + 10 < cLine := by have := hr.un; omega
/-! == of data that are nested deeper than 64 -/
end CW

set_option Elab.async false
set_option linter.all false
set_option maxRecDepth 100000
set_option maxHeartbeats 1000000
/-! lower() -/
namespace CW
open PySem PySem.Spec PyProof.Rows L2
#print PyProof.Rows.lo1
section
variable {X : Cx} {o e : Expr} {to te : TE}
end
end CW

set_option Elab.async false
set_option linter.all false
set_option maxRecDepth 100000
set_option maxHeartbeats 1000000
/-! t[::-1] of tuples; d.get(k, x) of a dict of the module; one of two readings -/
namespace HT
open PySem PySem.Spec PyProof.Rows
section
variable {prog : Program} {w : World} {A : Around} {E : Value → Shared → Prop} {s : Shared}
theorem rev_pick (xs : Array Value) : ((List.range xs.size).filterMap fun (m : Nat) => xs[(((xs.size : Int) - 1) + (m : Int) * (-1)).toNat]?) = xs.toList.reverse := by
  have e1 : ((List.range xs.size).filterMap fun (m : Nat) => xs[(((xs.size : Int) - 1) + (m : Int) * (-1)).toNat]?) = ((List.range xs.size).map (fun m => xs.size - 1 - m)).filterMap (xs[·]?) := by
    rw [List.filterMap_map]
    refine fm_congr fun m hm => ?_
    have := List.mem_range.mp hm
    have e : (((xs.size : Int) - 1) + (m : Int) * (-1)).toNat = xs.size - 1 - m := by omega
    rw [e]; rfl
  have e2 : (List.range xs.size).map (fun m => xs.size - 1 - m) = (List.range xs.size).reverse := by
    rw [← PySem.W.krv_range]
  rw [e1, e2, List.filterMap_reverse, PySem.W.krv_all]
theorem adjust_rev (n : Nat) : Builtin.Slice.sliceAdjust none none (-1) (n : Int) = ((n : Int) - 1, -1) := by
  unfold Builtin.Slice.sliceAdjust
  have h1 : ((-1 : Int) < 0) := by omega
  simp only [h1, if_true]
theorem places_rev (n : Nat) : Builtin.Slice.slicePlaces ((n : Int) - 1) (-1) (-1) = n := by
  unfold Builtin.Slice.slicePlaces
  have h1 : ¬ ((-1 : Int) > 0) := by omega
  have h2 : (- -1 : Int) = 1 := by decide
  simp only [h1, if_false, h2, Int.ediv_one]
  split <;> omega
theorem getItem_tuple_rev {t sl : Addr} {items : Array Value} {vl vu vs : Value} {Q : Value → Shared → Prop} (ht : IsTup s.heap t items) (hs : s.heap.IsSliceOf sl vl vu vs) (pl : IsPart vl none) (pu : IsPart vu none) (ps : IsPart vs (some (-1)))
    (h : Q (.ref s.heap.objs.size) { s with heap := s.heap.push { cls := .type "tuple", data := .seq items.toList.reverse.toArray } })
    (hsz : items.size ≤ sizeLine) : wpAny (model prog w) A (getItem (.ref t) (.ref sl)) Q E s := by
  have htake : sizeOk (.seq items.toList.reverse.toArray) := by
    show items.toList.reverse.toArray.size ≤ sizeLine
    rw [List.size_toArray, List.length_reverse, Array.length_toList]
    exact hsz
  obtain ⟨os, hos, hcs, hds⟩ := id hs
  have hTs : s.TypeIs (.ref sl) "slice" := ⟨os, hos, hcs⟩
  unfold getItem
  try with_reducible refine wpAny_holding ?_
  first | refine wpAny_bind (wpAny_pure ?_) | skip
  refine wpAny_bind (wpAny_sequenceKey ht.typeIs (by decide) ?_)
  refine wpAny_bind (wpAny_callSpecial?_slot (name := Str.ofString "__getitem__") ht.typeIs PyProof.Rows.slot_tuple_getitem
    (wpAny_call_entry PyProof.Rows.slot_tuple_getitem ht.typeIs entry_tuple_getitem ?_ (args_tuple_getitem _ _)))
  show wpAny _ _ (Builtin.Tuple.tupleItemsOf (.ref t) >>= _) _ _ s
  refine wpAny_bind (tupleItemsOf_ ht ?_)
  refine wpAny_bind (wpAny_typeOf hTs ?_)
  rw [if_pos (by decide)]
  refine wpAny_bind ?_
  unfold Builtin.Slice.sliceApplied Builtin.Slice.sliceFields
  refine wpAny_bind (wpAny_bind (wpAny_field hos hds (x := vl) rfl (wpAny_bind (wpAny_field hos hds (x := vu) rfl (wpAny_bind (wpAny_field hos hds (x := vs) rfl (wpAny_pure ?_)))))))
  refine wpAny_bind (slicePart_ ps ?_)
  show wpAny _ _ (if ((-1 : Int) == 0) = true then _ else _) _ _ s
  rw [if_neg (by decide)]
  refine wpAny_bind (slicePart_ pl (wpAny_bind (slicePart_ pu (wpAny_bind (wpAny_pure ?_)))))
  show wpAny _ _ (match Builtin.Slice.sliceAdjust none none (-1) (items.size : Int) with | (lo, hi) => pure (lo, (-1 : Int), Builtin.Slice.slicePlaces lo hi (-1))) _ _ s
  rw [adjust_rev _]
  show wpAny _ _ (pure (((items.size : Int) - 1), (-1 : Int), Builtin.Slice.slicePlaces ((items.size : Int) - 1) (-1) (-1))) _ _ s
  rw [places_rev _]
  refine wpAny_pure ?_
  have hno : ¬ (((((items.size : Int) - 1)) == 0 && (-1 : Int) == 1 && items.size == items.size) = true) := by
    intro q
    rw [Bool.and_eq_true, Bool.and_eq_true] at q
    have q1 : (-1 : Int) = 1 := eq_of_beq q.1.2
    omega
  show wpAny _ _ (if ((((items.size : Int) - 1)) == 0 && (-1 : Int) == 1 && items.size == items.size) = true then _ else _) _ _ s
  rw [if_neg hno]
  rw [rev_pick _]
  first
    | exact wpAny_bind (m := Builtin.Tuple.tupleExact _) (wpAny_newObj_type (wpAny_pure ⟨_, rfl, wpAny_pure h⟩) htake)
    | exact wpAny_bind (m := Builtin.Tuple.tupleExact _) (wpAny_newObj_type (wpAny_bind (wpAny_pure (wpAny_pure ⟨_, rfl, wpAny_pure h⟩))) htake)
    | exact wpAny_bind (wpAny_bind (m := Builtin.Tuple.tupleExact _) (wpAny_newObj_type (wpAny_pure (wpAny_pure ⟨_, rfl, wpAny_pure h⟩)) htake))
    | exact wpAny_bind (wpAny_bind (m := Builtin.Tuple.tupleExact _) (wpAny_newObj_type (wpAny_pure ⟨_, rfl, wpAny_pure h⟩) htake))
end
end HT
namespace CW
open PySem PySem.Spec PyProof.Rows L2
def rRT (K : PySem.W.Frag) : V → Hp → VK → Prop := fun x H Q => ∃ a xs, x = .ref a ∧ SqT K H a xs ∧ ∀ p, H p = none → Q (.ref p) (upd H p (.tup xs.reverse))
def tRT (K : PySem.W.Frag) (te : TE) : TE := fun σ H Q => te σ H fun x H1 => rRT K x H1 Q
theorem k_rt {K : PySem.W.Frag} {te : TE} {σ : L2.St} {H : Hp} {Q : VK} (h : te σ H fun x H1 => rRT K x H1 Q) : tRT K te σ H Q := h
theorem d_rt {K : PySem.W.Frag} {H : Hp} {Q : VK} {x : V} {ds : List PyData} (h : Dp K H x (.tuple ds)) (q : ∀ p H' xs, H p = none → Xt H H' → H' p = some (.tup xs) → DpAll K H' xs ds.reverse → Q (.ref p) H') : rRT K x H Q := by
  obtain ⟨a, xs, rfl, hs, hd⟩ := Dp.tup_inv h
  exact ⟨a, xs, rfl, hs, fun p hp => q p _ _ hp (xnew hp) upd_same (DpAll.mono (xnew hp) (DpAll.rev hd))⟩
section
variable {X : Cx}
theorem pe_revT {e : Expr} {te : TE} {k : Nat} {p1 p2 p3 pos : Pos} (he : PE X e te) : PE X (.Subscript e (.Slice none none (some (.UnaryOp .USub (.Constant (.int 1) k p1) p2)) p3) pos) (tRT X.K te) := by
  refine ⟨fun pins s σ H Q I h => ?_⟩
  refine Subscript_ (thn (he.run pins s σ H _ I h) fun v s1 ⟨x, H1, I1, r1, q1⟩ => ?_)
  obtain ⟨a, xs, ex, hx, q⟩ := q1
  subst ex
  cases r1
  have hst : PO X (some (.UnaryOp .USub (.Constant (.int 1) k p1) p2)) (tPart (tUn (rU fun i => .int (-i)) (tC (.int 1)))) := po_some (pe_un un_neg pe_int)
  refine wpAny_Slice (thn (po_none.run pins s1 σ H1 (fun o H2 => o = none ∧ H2 = H1) I1 ⟨rfl, rfl⟩) fun vl s2 ⟨l, H2, I2, pl, el, e2⟩ => ?_)
  subst el e2
  refine thn (po_none.run pins s2 σ H2 (fun o H3 => o = none ∧ H3 = H2) I2 ⟨rfl, rfl⟩) fun vu s3 ⟨u, H3, I3, pu, eu, e3⟩ => ?_
  subst eu e3
  refine thn (hst.run pins s3 σ H3 (fun o H4 => o = some (-1) ∧ H4 = H3) I3 ⟨1, rfl, -1, rfl, rfl, rfl⟩) fun vs s4 ⟨o, H4, I4, ps, eo, e4⟩ => ?_
  subst eo e4
  have I5 : Inv X pins σ H4 { s4 with heap := s4.heap.push { cls := .type "slice", data := .fields #[vl, vu, vs] } } := I4.kept (t' := s4.toks) fun b ob q => Heap.get?_push_of_some _ q
  obtain ⟨its, r, ht, hz⟩ := I5.tuple hx
  have hlen := r.length
  have hlen2 : its.toArray.size = xs.length := by rw [List.size_toArray]; exact hlen.symm
  show wpAny (model X.prog X.w) X.A (subscriptTail e (.Slice none none (some (.UnaryOp .USub (.Constant (.int 1) k p1) p2)) p3) (.ref a) (.ref s4.heap.objs.size)) (EP X pins σ Q) X.xe { s4 with heap := s4.heap.push { cls := .type "slice", data := .fields #[vl, vu, vs] } }
  refine tail_any (ops := [.ref a, .ref s4.heap.objs.size]) ht.typeIs (PyProof.Rows.slot_tuple_getitem.lookup) ?_ (by with_unfolding_all rfl)
  refine HT.getItem_tuple_rev ht (Heap.IsSliceOf.new _ vl vu vs) pl pu ps ?_ (by rw [hlen2]; exact hz)
  refine ⟨.ref _, _, I5.laid (t' := s4.toks) (o := .tup xs.reverse) (fun b ob q => Heap.get?_push_of_some _ q) (Nat.le_refl _) ?_, rfl, q _ (I5.hok.fresh (Nat.le_refl _))⟩
  refine ⟨by rw [List.length_reverse]; omega, _, r.reverse, ?_⟩
  exact IsTup.new _ _

/-! d.get(k, x) of a dict of the module, its key there -/
def KD0 (K : PySem.W.Frag) (w : World) (a : Addr) : Prop := (a == sysModules) = false ∧ ∃ es n, K.lookup a = some ⟨.type "dict", none, .dict es n, #[]⟩ ∧ PySem.W.KeysLit w.params es.toList
def tGetW (K : PySem.W.Frag) (w : World) (td ty tx : TE) : TE := fun σ H Q => td σ H fun x H1 => ∃ a : Addr, x = .ref a ∧ KD0 K w a ∧ ty σ H1 fun y H2 => tx σ H2 fun _ H3 => ∃ (z : Str) (v : V), y = .str z ∧ KDct K w a z v ∧ Q v H3
theorem pe_getW {o e f : Expr} {apos cpos : Pos} {td ty tx : TE} (ho : PE X o td) (he : PE X e ty) (hf : PE X f tx) (m : M2 X o "get" apos e f cpos) : PE X (.Call (.Attribute o "get" apos) [e, f] [] cpos) (tGetW X.K X.w td ty tx) := by
  refine ⟨fun pins s σ H Q I h => ?_⟩
  refine wpAny_Call_method m.base m.few m.line PySem.F.plainAttrs_dict PySem.F.slot_dict_get PySem.F.type_dict_get (thn (ho.run pins s σ H _ I h) fun u s1 ⟨x, H1, I1, rx, a, ex, ⟨lo, es, n, hl, hk⟩, q1⟩ => ?_)
  subst ex
  obtain rfl : u = Value.ref a := rx
  have hm1 := PySem.W.mapOf_K (prog := X.prog) (w := X.w) I1.kIn hl hk
  refine ⟨hm1.typeIs, fun b q => ?_, ?_⟩
  · cases q
    exact ⟨_, I1.kIn _ _ hl, rfl⟩
  rw [m.trees]
  refine Calls.callWith_builtin rfl (Calls.evalArgs_plain (Calls.spliced_cons (thn (he.run pins s1 σ H1 _ I1 q1) fun iv s2 ⟨y, H2, I2, ry, q2⟩ =>
    Calls.spliced_cons (thn (hf.run pins s2 σ H2 _ I2 q2) fun fv s3 ⟨z0, H3, I3, rz, z, v, ey, ⟨es2, n2, u0, hl2, hk2, e2, ru⟩, q3⟩ => Calls.spliced_nil ?_))))
  subst ey
  obtain ⟨t, rfl⟩ := (show ∃ t, iv = Value.str z t from ry)
  have hm := PySem.W.mapOf_K (prog := X.prog) (w := X.w) I3.kIn hl2 hk2
  refine call_meetsIn PySem.F.slot_dict_get hm.typeIs PySem.F.entry_dict_get (PySem.F.args_dict_get_3 _ _ _) (meets_dict_get_default (strKind X.prog X.w) a (strKind_is X.prog X.w z t) lo fv) ⟨_, hm, ?_⟩
  rw [PySem.W.find_K hl2 e2]
  exact ⟨v, H3, I3.tok _, ru, q3⟩
/-! one of two readings -/
theorem pe_either {e : Expr} {t u : TE} (h : PE X e t) (g : PE X e u) : PE X e (fun σ H Q => t σ H Q ∨ u σ H Q) := ⟨fun pins s σ H Q I q => q.elim (h.run pins s σ H Q I) (g.run pins s σ H Q I)⟩
end
end CW

set_option Elab.async false
set_option linter.all false
set_option maxRecDepth 100000
set_option maxHeartbeats 2000000
namespace K55
open PySem PySem.Spec PyProof.Rows L2 NdefX CW RZ
open PySem.W (fnX)
def topS (i : Nat) : Stmt := PySem.Challenge.pw_claimworlds_k55_trimmed.main.body.getD i (.Pass ⟨0, 0, 0, 0⟩)
abbrev s_is_whole : Stmt := topS 1
abbrev N_is_whole : List Str := ["value"]
theorem sc_is_whole : FnScope N_is_whole ["value"] (defScope s_is_whole) := ⟨rfl, rfl, rfl, by decide +kernel, rfl, by decide +kernel, by decide +kernel⟩
abbrev s_Paper___init__ : Stmt := inClass (topS 4) 0
abbrev N_Paper___init__ : List Str := ["self", "steps"]
theorem sc_Paper___init__ : FnScope N_Paper___init__ ["self", "steps"] (defScope s_Paper___init__) := ⟨rfl, rfl, rfl, by decide +kernel, rfl, by decide +kernel, by decide +kernel⟩
abbrev s_lines_used : Stmt := topS 5
abbrev N_lines_used : List Str := ["step", "item"]
theorem sc_lines_used : FnScope N_lines_used ["step"] (defScope s_lines_used) := ⟨rfl, rfl, rfl, by decide +kernel, rfl, by decide +kernel, by decide +kernel⟩
abbrev s_with_lines : Stmt := topS 6
abbrev N_with_lines : List Str := ["step", "numbers", "items", "item"]
theorem sc_with_lines : FnScope N_with_lines ["step", "numbers"] (defScope s_with_lines) := ⟨rfl, rfl, rfl, by decide +kernel, rfl, by decide +kernel, by decide +kernel⟩
abbrev s__line_items : Stmt := topS 7
abbrev N__line_items : List Str := ["step", "item"]
theorem sc__line_items : FnScope N__line_items ["step"] (defScope s__line_items) := ⟨rfl, rfl, rfl, by decide +kernel, rfl, by decide +kernel, by decide +kernel⟩
abbrev s_needed_lines : Stmt := topS 8
abbrev N_needed_lines : List Str := ["steps", "needed", "number", "other"]
theorem sc_needed_lines : FnScope N_needed_lines ["steps"] (defScope s_needed_lines) := ⟨rfl, rfl, rfl, by decide +kernel, rfl, by decide +kernel, by decide +kernel⟩
abbrev s_needed_steps : Stmt := topS 9
abbrev N_needed_steps : List Str := ["steps", "found", "numbers", "number"]
theorem sc_needed_steps : FnScope N_needed_steps ["steps"] (defScope s_needed_steps) := ⟨rfl, rfl, rfl, by decide +kernel, rfl, by decide +kernel, by decide +kernel⟩
abbrev s_trimmed_paper : Stmt := topS 11
abbrev N_trimmed_paper : List Str := ["paper", "kept", "firsts", "numbers", "step", "changed", "key"]
theorem sc_trimmed_paper : FnScope N_trimmed_paper ["paper"] (defScope s_trimmed_paper) := ⟨rfl, rfl, rfl, by decide +kernel, rfl, by decide +kernel, by decide +kernel⟩
abbrev s__step_key : Stmt := topS 12
abbrev N__step_key : List Str := ["step", "found", "waiting", "item"]
theorem sc__step_key : FnScope N__step_key ["step"] (defScope s__step_key) := ⟨rfl, rfl, rfl, by decide +kernel, rfl, by decide +kernel, by decide +kernel⟩
abbrev s__law_cell : Stmt := topS 14
abbrev N__law_cell : List Str := ["script", "k", "seed", "cell"]
theorem sc__law_cell : FnScope N__law_cell ["script", "k"] (defScope s__law_cell) := ⟨rfl, rfl, rfl, by decide +kernel, rfl, by decide +kernel, by decide +kernel⟩
abbrev s__law_digits : Stmt := topS 15
abbrev N__law_digits : List Str := ["cell", "sizes", "row", "rest", "size", "seed", "k", "twice"]
theorem sc__law_digits : FnScope N__law_digits ["cell", "sizes"] (defScope s__law_digits) := ⟨rfl, rfl, rfl, by decide +kernel, rfl, by decide +kernel, by decide +kernel⟩
abbrev s__law_earlier : Stmt := topS 16
abbrev N__law_earlier : List Str := ["k", "digit"]
theorem sc__law_earlier : FnScope N__law_earlier ["k", "digit"] (defScope s__law_earlier) := ⟨rfl, rfl, rfl, by decide +kernel, rfl, by decide +kernel, by decide +kernel⟩
abbrev s__law_drawn_step : Stmt := topS 17
abbrev N__law_drawn_step : List Str := ["row", "k", "terms", "literals", "fills", "places", "kind", "i", "j"]
theorem sc__law_drawn_step : FnScope N__law_drawn_step ["row", "k"] (defScope s__law_drawn_step) := ⟨rfl, rfl, rfl, by decide +kernel, rfl, by decide +kernel, by decide +kernel⟩
abbrev s__law_drawn_steps : Stmt := topS 18
abbrev N__law_drawn_steps : List Str := ["script", "count", "steps", "merged", "firsts", "k", "row", "step", "others", "n", "equal", "m", "at"]
theorem sc__law_drawn_steps : FnScope N__law_drawn_steps ["script", "count"] (defScope s__law_drawn_steps) := ⟨rfl, rfl, rfl, by decide +kernel, rfl, by decide +kernel, by decide +kernel⟩
abbrev s__law_moved : Stmt := topS 19
abbrev N__law_moved : List Str := ["step", "numbers"]
theorem sc__law_moved : FnScope N__law_moved ["step", "numbers"] (defScope s__law_moved) := ⟨rfl, rfl, rfl, by decide +kernel, rfl, by decide +kernel, by decide +kernel⟩
abbrev s__law_used : Stmt := topS 20
abbrev N__law_used : List Str := ["step"]
theorem sc__law_used : FnScope N__law_used ["step"] (defScope s__law_used) := ⟨rfl, rfl, rfl, by decide +kernel, rfl, by decide +kernel, by decide +kernel⟩
abbrev s__law_trimmed : Stmt := topS 21
abbrev N__law_trimmed : List Str := ["steps", "firsts", "merged", "step", "last", "needed", "k", "places", "left"]
theorem sc__law_trimmed : FnScope N__law_trimmed ["steps"] (defScope s__law_trimmed) := ⟨rfl, rfl, rfl, by decide +kernel, rfl, by decide +kernel, by decide +kernel⟩
abbrev s__law_right : Stmt := topS 22
abbrev N__law_right : List Str := ["steps", "due", "paper", "short", "again"]
theorem sc__law_right : FnScope N__law_right ["steps"] (defScope s__law_right) := ⟨rfl, rfl, rfl, by decide +kernel, rfl, by decide +kernel, by decide +kernel⟩
abbrev s_law : Stmt := topS 23
abbrev N_law : List Str := ["script", "start", "count", "steps"]
theorem sc_law : FnScope N_law ["script"] (defScope s_law) := ⟨rfl, rfl, rfl, by decide +kernel, rfl, by decide +kernel, by decide +kernel⟩
def kitB (K : PySem.W.Frag) (L : List Addr) (cl te : Addr) : Bool :=
  L.zipIdx.all fun p => (L.zipIdx.all fun q => decide (PySem.W.kitOne K (.ref p.1) (.ref q.1) = some (p.2 == q.2))) && (decide (PySem.W.kitOne K (.ref p.1) (.ref cl) = some true) && (decide (PySem.W.kitOne K (.ref p.1) (.type "ValueError") = some true) && decide (PySem.W.kitOne K (.ref p.1) (.ref te) = some (decide (9 ≤ p.2) && decide (p.2 < 14)))))
def insB (K : PySem.W.Frag) (C : Addr) : Bool := (match PySem.W.findIn K (.ref C) "__class__" with
  | some (some (.builtin s)) => decide (s = "object.__class__")
  | _ => false) && ((match PySem.W.specialIn K (.builtin "object.__class__") "__get__" with
  | some (some (.builtin s)) => decide (s = "getset_descriptor.__get__")
  | _ => false) && (decide (PySem.W.takesIn K (.builtin "object.__class__") = some true) && (decide (PySem.W.mroIn K C (.type "object") = some true) && decide (PySem.W.kitOne K (.ref C) (.ref C) = some true))))
set_option hygiene false
structure TopW (w : World) (P : Program) (K : PySem.W.Frag) (mg : Str → Option Value) where
  C_Paper : Addr
  cl_Paper : Cls K C_Paper
  g_Paper : mg "Paper" = some (.ref C_Paper)
  na_Paper_steps : NoAttr K C_Paper "steps"
  f_is_whole : Addr
  fd_is_whole : FuncData
  F_is_whole : Fun K "is_whole" "is_whole" s_is_whole f_is_whole fd_is_whole
  b_is_whole : Binds K fd_is_whole ["value"] []
  g_is_whole : mg "is_whole" = some (.ref f_is_whole)
  f_Paper___init__ : Addr
  fd_Paper___init__ : FuncData
  F_Paper___init__ : Fun K "__init__" "Paper.__init__" s_Paper___init__ f_Paper___init__ fd_Paper___init__
  b_Paper___init__ : Binds K fd_Paper___init__ ["self", "steps"] []
  f_lines_used : Addr
  fd_lines_used : FuncData
  F_lines_used : Fun K "lines_used" "lines_used" s_lines_used f_lines_used fd_lines_used
  b_lines_used : Binds K fd_lines_used ["step"] []
  g_lines_used : mg "lines_used" = some (.ref f_lines_used)
  f_with_lines : Addr
  fd_with_lines : FuncData
  F_with_lines : Fun K "with_lines" "with_lines" s_with_lines f_with_lines fd_with_lines
  b_with_lines : Binds K fd_with_lines ["step", "numbers"] []
  g_with_lines : mg "with_lines" = some (.ref f_with_lines)
  f__line_items : Addr
  fd__line_items : FuncData
  F__line_items : Fun K "_line_items" "_line_items" s__line_items f__line_items fd__line_items
  b__line_items : Binds K fd__line_items ["step"] []
  g__line_items : mg "_line_items" = some (.ref f__line_items)
  f_needed_lines : Addr
  fd_needed_lines : FuncData
  F_needed_lines : Fun K "needed_lines" "needed_lines" s_needed_lines f_needed_lines fd_needed_lines
  b_needed_lines : Binds K fd_needed_lines ["steps"] []
  g_needed_lines : mg "needed_lines" = some (.ref f_needed_lines)
  f_needed_steps : Addr
  fd_needed_steps : FuncData
  F_needed_steps : Fun K "needed_steps" "needed_steps" s_needed_steps f_needed_steps fd_needed_steps
  b_needed_steps : Binds K fd_needed_steps ["steps"] []
  g_needed_steps : mg "needed_steps" = some (.ref f_needed_steps)
  f_trimmed_paper : Addr
  fd_trimmed_paper : FuncData
  F_trimmed_paper : Fun K "trimmed_paper" "trimmed_paper" s_trimmed_paper f_trimmed_paper fd_trimmed_paper
  b_trimmed_paper : Binds K fd_trimmed_paper ["paper"] []
  g_trimmed_paper : mg "trimmed_paper" = some (.ref f_trimmed_paper)
  f__step_key : Addr
  fd__step_key : FuncData
  F__step_key : Fun K "_step_key" "_step_key" s__step_key f__step_key fd__step_key
  b__step_key : Binds K fd__step_key ["step"] []
  g__step_key : mg "_step_key" = some (.ref f__step_key)
  f__law_cell : Addr
  fd__law_cell : FuncData
  F__law_cell : Fun K "_law_cell" "_law_cell" s__law_cell f__law_cell fd__law_cell
  b__law_cell : Binds K fd__law_cell ["script", "k"] []
  g__law_cell : mg "_law_cell" = some (.ref f__law_cell)
  f__law_digits : Addr
  fd__law_digits : FuncData
  F__law_digits : Fun K "_law_digits" "_law_digits" s__law_digits f__law_digits fd__law_digits
  b__law_digits : Binds K fd__law_digits ["cell", "sizes"] []
  g__law_digits : mg "_law_digits" = some (.ref f__law_digits)
  f__law_earlier : Addr
  fd__law_earlier : FuncData
  F__law_earlier : Fun K "_law_earlier" "_law_earlier" s__law_earlier f__law_earlier fd__law_earlier
  b__law_earlier : Binds K fd__law_earlier ["k", "digit"] []
  g__law_earlier : mg "_law_earlier" = some (.ref f__law_earlier)
  f__law_drawn_step : Addr
  fd__law_drawn_step : FuncData
  F__law_drawn_step : Fun K "_law_drawn_step" "_law_drawn_step" s__law_drawn_step f__law_drawn_step fd__law_drawn_step
  b__law_drawn_step : Binds K fd__law_drawn_step ["row", "k"] []
  g__law_drawn_step : mg "_law_drawn_step" = some (.ref f__law_drawn_step)
  f__law_drawn_steps : Addr
  fd__law_drawn_steps : FuncData
  F__law_drawn_steps : Fun K "_law_drawn_steps" "_law_drawn_steps" s__law_drawn_steps f__law_drawn_steps fd__law_drawn_steps
  b__law_drawn_steps : Binds K fd__law_drawn_steps ["script", "count"] []
  g__law_drawn_steps : mg "_law_drawn_steps" = some (.ref f__law_drawn_steps)
  f__law_moved : Addr
  fd__law_moved : FuncData
  F__law_moved : Fun K "_law_moved" "_law_moved" s__law_moved f__law_moved fd__law_moved
  b__law_moved : Binds K fd__law_moved ["step", "numbers"] []
  g__law_moved : mg "_law_moved" = some (.ref f__law_moved)
  f__law_used : Addr
  fd__law_used : FuncData
  F__law_used : Fun K "_law_used" "_law_used" s__law_used f__law_used fd__law_used
  b__law_used : Binds K fd__law_used ["step"] []
  g__law_used : mg "_law_used" = some (.ref f__law_used)
  f__law_trimmed : Addr
  fd__law_trimmed : FuncData
  F__law_trimmed : Fun K "_law_trimmed" "_law_trimmed" s__law_trimmed f__law_trimmed fd__law_trimmed
  b__law_trimmed : Binds K fd__law_trimmed ["steps"] []
  g__law_trimmed : mg "_law_trimmed" = some (.ref f__law_trimmed)
  f__law_right : Addr
  fd__law_right : FuncData
  F__law_right : Fun K "_law_right" "_law_right" s__law_right f__law_right fd__law_right
  b__law_right : Binds K fd__law_right ["steps"] []
  g__law_right : mg "_law_right" = some (.ref f__law_right)
  f_law : Addr
  fd_law : FuncData
  F_law : Fun K "law" "law" s_law f_law fd_law
  b_law : Binds K fd_law ["script"] []
  g_law : mg "law" = some (.ref f_law)
  mk_Paper : Mk K C_Paper f_Paper___init__
  n_bool : mg "bool" = none
  n_int : mg "int" = none
  n_isinstance : mg "isinstance" = none
  n_len : mg "len" = none
  n_list : mg "list" = none
  n_max : mg "max" = none
  n_range : mg "range" = none
  n_repr : mg "repr" = none
  n_reversed : mg "reversed" = none
  n_sorted : mg "sorted" = none
  n_str : mg "str" = none
  n_tuple : mg "tuple" = none
  a_LINE_ITEMS : Addr
  c_LINE_ITEMS : mg "LINE_ITEMS" = some (.ref a_LINE_ITEMS)
  d_LINE_ITEMS : He.dicW K a_LINE_ITEMS = some (He.keysIn w.params ["given", "same", "either", "fill", "more", "drop", "replace"])
  b_given : Addr
  n_given : PySem.W.nsIn K a_LINE_ITEMS "given" = some (some (.ref b_given))
  q_given : ∀ H : Hp, SqT K H b_given []
  b_same : Addr
  n_same : PySem.W.nsIn K a_LINE_ITEMS "same" = some (some (.ref b_same))
  q_same : ∀ H : Hp, SqT K H b_same []
  b_either : Addr
  n_either : PySem.W.nsIn K a_LINE_ITEMS "either" = some (some (.ref b_either))
  q_either : ∀ H : Hp, SqT K H b_either []
  b_fill : Addr
  n_fill : PySem.W.nsIn K a_LINE_ITEMS "fill" = some (some (.ref b_fill))
  q_fill : ∀ H : Hp, SqT K H b_fill [.int 1]
  b_more : Addr
  n_more : PySem.W.nsIn K a_LINE_ITEMS "more" = some (some (.ref b_more))
  q_more : ∀ H : Hp, SqT K H b_more [.int 1]
  b_drop : Addr
  n_drop : PySem.W.nsIn K a_LINE_ITEMS "drop" = some (some (.ref b_drop))
  q_drop : ∀ H : Hp, SqT K H b_drop [.int 1]
  b_replace : Addr
  n_replace : PySem.W.nsIn K a_LINE_ITEMS "replace" = some (some (.ref b_replace))
  q_replace : ∀ H : Hp, SqT K H b_replace [.int 1, .int 4]
  insv : insB K (addrOf K "Paper") = true
  insa : PySem.W.nsIn K mainGlobals "Paper" = some (some (.ref C_Paper))
end K55

set_option Elab.async false
set_option linter.all false
set_option maxRecDepth 100000
set_option maxHeartbeats 2000000
namespace K55
open PySem PySem.Spec PyProof.Rows L2 NdefX CW RZ
open PySem.W (fnX)
/-! steps of a paper, and how they are trimmed -/
inductive Stp
  | base (d : PyData)
  | one (k : Str) (i : Nat) (x : PyData)
  | rep (i : Nat) (b s : PyData) (j : Nat) (d p : PyData)
namespace Stp
def mv (f : Nat → Nat) : Stp → Stp
  | base d => base d
  | one k i x => one k (f i) x
  | rep i b s j d p => rep (f i) b s (f j) d p
def refs : Stp → List Nat
  | base _ => []
  | one _ i _ => [i]
  | rep i _ _ j _ _ => [i, j]
theorem mv_mv (f g : Nat → Nat) (s : Stp) : mv f (mv g s) = mv (fun i => f (g i)) s := by cases s <;> rfl
theorem refs_mv (f : Nat → Nat) (s : Stp) : refs (mv f s) = (refs s).map f := by cases s <;> rfl
theorem mv_congr {f g : Nat → Nat} {s : Stp} (h : ∀ i ∈ refs s, f i = g i) : mv f s = mv g s := by
  cases s with
  | base d => rfl
  | one k i x => rw [mv, mv, h i (by simp [refs])]
  | rep i b s j d p => rw [mv, mv, h i (by simp [refs]), h j (by simp [refs])]
theorem mv_id {f : Nat → Nat} {s : Stp} (h : ∀ i ∈ refs s, f i = i) : mv f s = s := by
  rw [mv_congr (g := fun i => i) h]; cases s <;> rfl
theorem mv_inj {f : Nat → Nat} {s t : Stp} (h : ∀ i ∈ refs s, ∀ j ∈ refs t, f i = f j → i = j) (e : mv f s = mv f t) : s = t := by
  cases s with
  | base d => cases t <;> first | (cases e; rfl) | cases e
  | one k i x =>
    cases t with
    | base d => cases e
    | rep i b s j d p => cases e
    | one k2 i2 x2 =>
      have := Stp.one.inj e
      obtain ⟨a, b, c⟩ := this
      rw [a, c, h i (by simp [refs]) i2 (by simp [refs]) b]
  | rep i b s j d p =>
    cases t with
    | base d => cases e
    | one k i x => cases e
    | rep i2 b2 s2 j2 d2 p2 =>
      obtain ⟨a, b', c, d', e', f'⟩ := Stp.rep.inj e
      rw [b', c, e', f', h i (by simp [refs]) i2 (by simp [refs]) a, h j (by simp [refs]) j2 (by simp [refs]) d']
end Stp
noncomputable def ixOf (l : List Stp) (s : Stp) : Nat := l.findIdx fun t => @decide (t = s) (Classical.propDecidable _)
theorem ixOf_lt {l : List Stp} {s : Stp} (h : ixOf l s < l.length) : l[ixOf l s]? = some s := by
  unfold ixOf at h ⊢
  rw [List.getElem?_eq_getElem h]
  have := List.findIdx_getElem (w := h)
  exact congrArg some (@of_decide_eq_true _ (Classical.propDecidable _) this)
theorem ixOf_le {l : List Stp} {s : Stp} : ixOf l s ≤ l.length := List.findIdx_le_length
theorem ixOf_min {l : List Stp} {s : Stp} {m : Nat} (h : m < ixOf l s) : l[m]? ≠ some s := by
  intro e
  unfold ixOf at h
  have := List.not_of_lt_findIdx h
  have hm : m < l.length := Nat.lt_of_lt_of_le h List.findIdx_le_length
  rw [List.getElem?_eq_getElem hm] at e
  cases e
  rw [decide_eq_false_iff_not] at this
  exact this rfl
theorem ixOf_of {l : List Stp} {s : Stp} {n : Nat} (h : l[n]? = some s) (hm : ∀ m < n, l[m]? ≠ some s) : ixOf l s = n := by
  have hl : n < l.length := by
    rcases Nat.lt_or_ge n l.length with h1 | h1
    · exact h1
    · rw [List.getElem?_eq_none h1] at h; cases h
  rcases Nat.lt_trichotomy (ixOf l s) n with h1 | h1 | h1
  · exact absurd (ixOf_lt (Nat.lt_trans h1 hl)) (hm _ h1)
  · exact h1
  · exact absurd h (ixOf_min h1)
theorem ixOf_mem {l : List Stp} {s : Stp} (h : s ∈ l) : ixOf l s < l.length := by
  rcases Nat.lt_or_ge (ixOf l s) l.length with h1 | h1
  · exact h1
  · obtain ⟨i, hi⟩ := List.getElem?_of_mem h
    have h2 : i < l.length := by
      rcases Nat.lt_or_ge i l.length with h3 | h3
      · exact h3
      · rw [List.getElem?_eq_none h3] at hi; cases hi
    exact absurd hi (ixOf_min (Nat.lt_of_lt_of_le h2 h1))
theorem ixOf_none {l : List Stp} {s : Stp} (h : s ∉ l) : ixOf l s = l.length := by
  rcases Nat.lt_or_ge (ixOf l s) l.length with h1 | h1
  · exact absurd (List.mem_of_getElem? (ixOf_lt h1)) h
  · exact Nat.le_antisymm ixOf_le h1
theorem ixOf_snoc {l : List Stp} {s : Stp} : ixOf (l ++ [s]) s = ixOf l s := by
  refine ixOf_of ?_ fun m hm => ?_
  · rcases Nat.lt_or_ge (ixOf l s) l.length with h1 | h1
    · rw [List.getElem?_append_left h1]; exact ixOf_lt h1
    · have : ixOf l s = l.length := Nat.le_antisymm ixOf_le h1
      rw [this, List.getElem?_append_right (Nat.le_refl _), Nat.sub_self]; rfl
  · rw [List.getElem?_append_left (Nat.lt_of_lt_of_le hm ixOf_le)]; exact ixOf_min hm
def gd (l : List Nat) (i : Nat) : Nat := l.getD i 0
def gs (l : List Stp) (i : Nat) : Stp := l.getD i (.base .none)
theorem gd_left {l r : List Nat} {i : Nat} (h : i < l.length) : gd (l ++ r) i = gd l i := by unfold gd; rw [List.getD_eq_getElem?_getD, List.getD_eq_getElem?_getD, List.getElem?_append_left h]
theorem gs_left {l r : List Stp} {i : Nat} (h : i < l.length) : gs (l ++ r) i = gs l i := by unfold gs; rw [List.getD_eq_getElem?_getD, List.getD_eq_getElem?_getD, List.getElem?_append_left h]
theorem gd_end {l : List Nat} {n : Nat} : gd (l ++ [n]) l.length = n := by unfold gd; rw [List.getD_eq_getElem?_getD, List.getElem?_append_right (Nat.le_refl _), Nat.sub_self]; rfl
theorem gs_end {l : List Stp} {n : Stp} : gs (l ++ [n]) l.length = n := by unfold gs; rw [List.getD_eq_getElem?_getD, List.getElem?_append_right (Nat.le_refl _), Nat.sub_self]; rfl
theorem gs_some {l : List Stp} {i : Nat} {s : Stp} (h : l[i]? = some s) : gs l i = s := by unfold gs; rw [List.getD_eq_getElem?_getD, h]; rfl
theorem gd_some {l : List Nat} {i : Nat} {s : Nat} (h : l[i]? = some s) : gd l i = s := by unfold gd; rw [List.getD_eq_getElem?_getD, h]; rfl
theorem some_gs {l : List Stp} {i : Nat} (h : i < l.length) : l[i]? = some (gs l i) := by unfold gs; rw [List.getD_eq_getElem?_getD, List.getElem?_eq_getElem h]; rfl
theorem some_gd {l : List Nat} {i : Nat} (h : i < l.length) : l[i]? = some (gd l i) := by unfold gd; rw [List.getD_eq_getElem?_getD, List.getElem?_eq_getElem h]; rfl
noncomputable def mstep (st : List Stp × List Nat) (s : Stp) : List Stp × List Nat := (st.1 ++ [s.mv (gd st.2)], st.2 ++ [ixOf st.1 (s.mv (gd st.2))])
noncomputable def mrun (l : List Stp) : List Stp × List Nat := l.foldl mstep ([], [])
noncomputable def pstep (st : List Stp × List Nat) (s : Stp) : List Stp × List Nat := (if ixOf st.1 (s.mv (gd st.2)) < st.1.length then st.1 else st.1 ++ [s.mv (gd st.2)], st.2 ++ [ixOf st.1 (s.mv (gd st.2))])
noncomputable def prun (l : List Stp) : List Stp × List Nat := l.foldl pstep ([], [])
theorem mrun_snoc (l : List Stp) (s : Stp) : mrun (l ++ [s]) = mstep (mrun l) s := by unfold mrun; rw [List.foldl_append]; rfl
theorem prun_snoc (l : List Stp) (s : Stp) : prun (l ++ [s]) = pstep (prun l) s := by unfold prun; rw [List.foldl_append]; rfl
theorem snoc_ind {α : Type _} {P : List α → Prop} (h0 : P []) (h1 : ∀ l s, P l → P (l ++ [s])) : ∀ l, P l := by
  intro l
  have : ∀ n (l : List α), l.length = n → P l := by
    intro n
    induction n with
    | zero => intro l hl; rw [List.length_eq_zero_iff.mp hl]; exact h0
    | succ n ih =>
      intro l hl
      have hne : l ≠ [] := by intro e; rw [e] at hl; cases hl
      rw [← List.dropLast_concat_getLast hne]
      refine h1 _ _ (ih _ ?_)
      rw [List.length_dropLast, hl]; rfl
  exact this _ l rfl
def Down (l : List Stp) : Prop := ∀ (k : Nat) (s : Stp), l[k]? = some s → ∀ i ∈ s.refs, i < k
theorem Down.left {l r : List Stp} (h : Down (l ++ r)) : Down l := fun k s hk => h k s (by
  have hl : k < l.length := by
    rcases Nat.lt_or_ge k l.length with h3 | h3
    · exact h3
    · rw [List.getElem?_eq_none h3] at hk; cases hk
  rw [List.getElem?_append_left hl]; exact hk)
theorem Down.end {l : List Stp} {s : Stp} (h : Down (l ++ [s])) : ∀ i ∈ s.refs, i < l.length := h l.length s (by rw [List.getElem?_append_right (Nat.le_refl _), Nat.sub_self]; rfl)
theorem Down.take {l : List Stp} (h : Down l) (n : Nat) : Down (l.take n) := by
  rw [← List.take_append_drop n l] at h; exact h.left
theorem Down.snoc {l : List Stp} {s : Stp} (h : Down l) (h2 : ∀ i ∈ s.refs, i < l.length) : Down (l ++ [s]) := by
  intro k t hk i hi
  rcases Nat.lt_or_ge k l.length with h3 | h3
  · rw [List.getElem?_append_left h3] at hk; exact h k t hk i hi
  · rw [List.getElem?_append_right h3] at hk
    rcases Nat.eq_zero_or_pos (k - l.length) with h4 | h4
    · rw [h4] at hk; cases hk
      have := h2 i hi; omega
    · rw [List.getElem?_eq_none (by rw [List.length_singleton]; omega)] at hk; cases hk
theorem mrun_len (l : List Stp) : (mrun l).1.length = l.length ∧ (mrun l).2.length = l.length := by
  induction l using snoc_ind with
  | h0 => exact ⟨rfl, rfl⟩
  | h1 l s ih => rw [mrun_snoc]; unfold mstep; rw [List.length_append, List.length_append, List.length_append, ih.1, ih.2]; exact ⟨rfl, rfl⟩
theorem prun_len (l : List Stp) : (prun l).2.length = l.length := by
  induction l using snoc_ind with
  | h0 => rfl
  | h1 l s ih => rw [prun_snoc]; unfold pstep; rw [List.length_append, List.length_append, ih]; rfl
def isF (F : List Nat) (p : Nat) : Bool := gd F p == p
def rk (F : List Nat) (n : Nat) : Nat := ((List.range n).filter (isF F)).length
theorem rk_succ (F : List Nat) (n : Nat) : rk F (n + 1) = rk F n + if isF F n = true then 1 else 0 := by
  unfold rk
  rw [List.range_succ, List.filter_append, List.length_append, List.filter_cons]
  split <;> rfl
theorem rk_mono {F : List Nat} {m n : Nat} (h : m ≤ n) : rk F m ≤ rk F n := by
  induction n with
  | zero => rw [Nat.le_zero.mp h]; exact Nat.le_refl _
  | succ n ih =>
    rcases Nat.lt_or_eq_of_le h with h1 | h1
    · rw [rk_succ]; have := ih (by omega); omega
    · rw [h1]; exact Nat.le_refl _
theorem rk_lt {F : List Nat} {m n : Nat} (h : m < n) (hm : isF F m = true) : rk F m < rk F n := by
  have h1 := rk_mono (F := F) (show m + 1 ≤ n from h)
  rw [rk_succ, if_pos hm] at h1
  omega
theorem rk_inj {F : List Nat} {m n : Nat} (hm : isF F m = true) (hn : isF F n = true) (e : rk F m = rk F n) : m = n := by
  rcases Nat.lt_trichotomy m n with h | h | h
  · have := rk_lt h hm; omega
  · exact h
  · have := rk_lt h hn; omega
theorem rk_congr {F G : List Nat} {n : Nat} (h : ∀ p < n, gd F p = gd G p) : rk F n = rk G n := by
  unfold rk
  congr 1
  refine List.filter_congr fun p hp => ?_
  unfold isF
  rw [h p (List.mem_range.mp hp)]
structure MOk (M : List Stp) (F : List Nat) : Prop where
  len : F.length = M.length
  fi : ∀ k < M.length, gd F k ≤ k ∧ isF F (gd F k) = true ∧ gs M (gd F k) = gs M k
  eq : ∀ k m, k < M.length → m < M.length → gs M k = gs M m → gd F k = gd F m
  re : ∀ k < M.length, ∀ i ∈ (gs M k).refs, i < k ∧ isF F i = true
theorem isF_left {l r : List Nat} {i : Nat} (h : i < l.length) : isF (l ++ r) i = isF l i := by unfold isF; rw [gd_left h]
theorem mok (l : List Stp) (hd : Down l) : MOk (mrun l).1 (mrun l).2 := by
  induction l using snoc_ind with
  | h0 => exact ⟨rfl, fun k h => absurd h (Nat.not_lt_zero _), fun k _ h => absurd h (Nat.not_lt_zero _), fun k h => absurd h (Nat.not_lt_zero _)⟩
  | h1 l s ih =>
    have o := ih hd.left
    have hr := hd.end
    have hl := mrun_len l
    rw [mrun_snoc]
    generalize mrun l = st at o hl ⊢
    obtain ⟨M, F⟩ := st
    dsimp only at o hl
    unfold mstep
    dsimp only
    generalize hc : s.mv (gd F) = c
    have hcr : ∀ i ∈ c.refs, i < M.length ∧ isF F i = true := by
      intro i hi
      rw [← hc, Stp.refs_mv] at hi
      obtain ⟨j, hj, rfl⟩ := List.mem_map.mp hi
      have h1 := hr j hj
      have h2 := o.fi j (by omega)
      exact ⟨by omega, h2.2.1⟩
    have hle : ixOf M c ≤ M.length := ixOf_le
    have hfl := o.len
    have hend : gd (F ++ [ixOf M c]) M.length = ixOf M c := by rw [← hfl]; exact gd_end
    -- the new entry is a first one, and what it points to is equal
    have hnew : isF (F ++ [ixOf M c]) (ixOf M c) = true ∧ gs (M ++ [c]) (ixOf M c) = c := by
      rcases Nat.lt_or_ge (ixOf M c) M.length with h1 | h1
      · have h2 := ixOf_lt h1
        have h3 := o.fi _ h1
        refine ⟨?_, by rw [gs_left h1]; exact gs_some h2⟩
        rw [isF_left (by omega)]
        have h4 : gd F (ixOf M c) = ixOf M c := by
          rcases Nat.lt_or_ge (gd F (ixOf M c)) (ixOf M c) with h5 | h5
          · refine absurd ?_ (ixOf_min h5)
            rw [some_gs (by omega), h3.2.2, gs_some h2]
          · omega
        unfold isF
        rw [h4]; exact beq_self_eq_true _
      · have h2 : ixOf M c = M.length := by omega
        rw [h2] at hend ⊢
        exact ⟨by unfold isF; rw [hend]; exact beq_self_eq_true _, gs_end⟩
    have hlt : ∀ k, k < (M ++ [c]).length → k < M.length ∨ k = M.length := by
      intro k hk; rw [List.length_append, List.length_singleton] at hk; omega
    have hfst : ∀ k < M.length, gs M k = c → ixOf M c = gd F k := by
      intro k hk he
      have h3 := o.fi k hk
      refine ixOf_of (by rw [some_gs (by omega), h3.2.2, he]) fun m hm e => ?_
      have h4 := o.eq m k (by omega) hk (by rw [gs_some e, he])
      have h5 := o.fi m (by omega)
      omega
    refine ⟨by rw [List.length_append, List.length_append, hfl]; rfl, fun k hk => ?_, fun k m hk hm e => ?_, fun k hk i hi => ?_⟩
    · rcases hlt k hk with h1 | rfl
      · obtain ⟨a, b, d⟩ := o.fi k h1
        rw [gd_left (by omega), isF_left (by omega), gs_left (by omega), gs_left h1]
        exact ⟨a, b, d⟩
      · rw [hend, gs_end]
        exact ⟨hle, hnew⟩
    · rcases hlt k hk with h1 | rfl
      · rcases hlt m hm with h2 | rfl
        · rw [gs_left h1, gs_left h2] at e
          rw [gd_left (by omega), gd_left (by omega)]
          exact o.eq k m h1 h2 e
        · rw [gs_left h1, gs_end] at e
          rw [gd_left (by omega), hend, hfst k h1 e]
      · rcases hlt m hm with h2 | rfl
        · rw [gs_left h2, gs_end] at e
          rw [hend, gd_left (by omega), hfst m h2 e.symm]
        · rfl
    · rcases hlt k hk with h1 | rfl
      · rw [gs_left h1] at hi
        have := o.re k h1 i hi
        rw [isF_left (by omega)]
        exact this
      · rw [gs_end] at hi
        have := hcr i hi
        rw [isF_left (by omega)]
        exact this
def keptOf (M : List Stp) (F : List Nat) : List Stp := ((List.range M.length).filter (isF F)).map fun p => (gs M p).mv (rk F)
theorem getElem_filter_range {f : Nat → Bool} {n p : Nat} (hp : p < n) (h : f p = true) : ((List.range n).filter f)[((List.range p).filter f).length]? = some p := by
  induction n with
  | zero => exact absurd hp (Nat.not_lt_zero _)
  | succ n ih =>
    rw [List.range_succ, List.filter_append]
    rcases Nat.lt_or_ge p n with h1 | h1
    · have h2 := ih h1
      have h3 : ((List.range p).filter f).length < ((List.range n).filter f).length := by
        rcases Nat.lt_or_ge ((List.range p).filter f).length ((List.range n).filter f).length with h3 | h3
        · exact h3
        · rw [List.getElem?_eq_none h3] at h2; cases h2
      rw [List.getElem?_append_left h3]; exact h2
    · have : p = n := by omega
      subst this
      rw [List.getElem?_append_right (Nat.le_refl _), Nat.sub_self, List.filter_cons, if_pos h]; rfl
theorem mem_filter_range {f : Nat → Bool} {n i p : Nat} (h : ((List.range n).filter f)[i]? = some p) : p < n ∧ f p = true ∧ i = ((List.range p).filter f).length := by
  induction n with
  | zero => cases h
  | succ n ih =>
    rw [List.range_succ, List.filter_append] at h
    rcases Nat.lt_or_ge i ((List.range n).filter f).length with h1 | h1
    · rw [List.getElem?_append_left h1] at h
      have := ih h
      exact ⟨by omega, this.2⟩
    · rw [List.getElem?_append_right h1, List.filter_cons] at h
      split at h
      · rename_i hf
        rcases Nat.eq_zero_or_pos (i - ((List.range n).filter f).length) with h2 | h2
        · rw [h2] at h
          cases h
          exact ⟨by omega, hf, by omega⟩
        · rw [List.getElem?_eq_none (by rw [List.filter_nil, List.length_singleton]; omega)] at h; cases h
      · cases h
theorem prun_eq (l : List Stp) (hd : Down l) : prun l = (keptOf (mrun l).1 (mrun l).2, (mrun l).2.map (rk (mrun l).2)) := by
  induction l using snoc_ind with
  | h0 => rfl
  | h1 l s ih =>
    have o := mok l hd.left
    have o2 := mok (l ++ [s]) hd
    have hr := hd.end
    have hl := mrun_len l
    rw [prun_snoc, ih hd.left]
    rw [mrun_snoc] at o2 ⊢
    generalize mrun l = st at o o2 hl ⊢
    obtain ⟨M, F⟩ := st
    dsimp only at o hl
    unfold mstep at o2 ⊢
    unfold pstep
    dsimp only at o2 ⊢
    have hfl := o.len
    -- the program's changed step is the law's, ranked
    have hmv : s.mv (gd (F.map (rk F))) = (s.mv (gd F)).mv (rk F) := by
      rw [Stp.mv_mv]
      refine Stp.mv_congr fun i hi => ?_
      have := hr i hi
      exact gd_some (by rw [List.getElem?_map, some_gd (by omega)]; rfl)
    rw [hmv]
    generalize hc : s.mv (gd F) = c at o2 ⊢
    have hcr : ∀ i ∈ c.refs, i < M.length ∧ isF F i = true := by
      intro i hi
      rw [← hc, Stp.refs_mv] at hi
      obtain ⟨j, hj, rfl⟩ := List.mem_map.mp hi
      have h1 := hr j hj
      have h2 := o.fi j (by omega)
      exact ⟨by omega, h2.2.1⟩
    have hkl : (keptOf M F).length = rk F M.length := by unfold keptOf rk; rw [List.length_map]
    -- the place of the ranked step among the kept ones
    have hget : ∀ (i p : Nat), ((List.range M.length).filter (isF F))[i]? = some p → (keptOf M F)[i]? = some ((gs M p).mv (rk F)) := by
      intro i p h; unfold keptOf; rw [List.getElem?_map, h]; rfl
    have hinj : ∀ p, p < M.length → (gs M p).mv (rk F) = c.mv (rk F) → gs M p = c := by
      intro p hp e
      refine Stp.mv_inj (fun i hi j hj e2 => ?_) e
      exact rk_inj (o.re p hp i hi).2 (hcr j hj).2 e2
    have hix : ixOf (keptOf M F) (c.mv (rk F)) = rk F (ixOf M c) := by
      rcases Nat.lt_or_ge (ixOf M c) M.length with h1 | h1
      · have h2 := ixOf_lt h1
        have hF : isF F (ixOf M c) = true := by
          have h3 := o.fi _ h1
          rcases Nat.lt_or_ge (gd F (ixOf M c)) (ixOf M c) with h5 | h5
          · refine absurd ?_ (ixOf_min h5)
            rw [some_gs (by omega), h3.2.2, gs_some h2]
          · have : gd F (ixOf M c) = ixOf M c := by omega
            unfold isF; rw [this]; exact beq_self_eq_true _
        refine ixOf_of ?_ fun m hm e => ?_
        · have h7 := hget _ _ (getElem_filter_range h1 hF)
          rw [gs_some h2] at h7; exact h7
        · have hml : m < (keptOf M F).length := by rw [hkl]; exact Nat.lt_of_lt_of_le hm (rk_mono (Nat.le_of_lt h1))
          have hml2 : m < ((List.range M.length).filter (isF F)).length := by rw [hkl] at hml; exact hml
          have h4 := mem_filter_range (List.getElem?_eq_getElem hml2)
          rw [hget m _ (List.getElem?_eq_getElem hml2)] at e
          have h5 := hinj _ h4.1 (Option.some.inj e)
          have h6 : ¬ ((List.range M.length).filter (isF F))[m] < ixOf M c := fun h7 => ixOf_min h7 (by rw [some_gs h4.1, h5])
          have h8 := rk_mono (F := F) (Nat.not_lt.mp h6)
          have h9 : m = rk F ((List.range M.length).filter (isF F))[m] := h4.2.2
          omega
      · have h2 : ixOf M c = M.length := Nat.le_antisymm ixOf_le h1
        rw [h2, ← hkl]
        refine ixOf_none fun hmem => ?_
        obtain ⟨p, hp, e⟩ := List.mem_map.mp hmem
        have h3 := List.mem_filter.mp hp
        have h4 := List.mem_range.mp h3.1
        have h5 := hinj p h4 e
        have := ixOf_mem (l := M) (s := c) (by rw [← h5]; exact List.mem_of_getElem? (some_gs h4))
        omega
    rw [hix, hkl]
    -- ranks do not change by what is added
    have hrk : ∀ n ≤ M.length, rk (F ++ [ixOf M c]) n = rk F n := by
      intro n hn
      exact rk_congr fun p hp => gd_left (by omega)
    have hend : gd (F ++ [ixOf M c]) M.length = ixOf M c := by rw [← hfl]; exact gd_end
    have hmap : F.map (rk F) ++ [rk F (ixOf M c)] = (F ++ [ixOf M c]).map (rk (F ++ [ixOf M c])) := by
      rw [List.map_append]
      congr 1
      · refine List.map_congr_left fun n hn => ?_
        obtain ⟨i, hi⟩ := List.getElem?_of_mem hn
        have hil : i < F.length := by
          rcases Nat.lt_or_ge i F.length with h3 | h3
          · exact h3
          · rw [List.getElem?_eq_none h3] at hi; cases hi
        have := o.fi i (by omega)
        rw [gd_some hi] at this
        exact (hrk n (by omega)).symm
      · show [_] = [_]
        rw [hrk _ ixOf_le]
    rw [← hmap]
    congr 1
    have hk2 : keptOf (M ++ [c]) (F ++ [ixOf M c]) = keptOf M F ++ (if isF (F ++ [ixOf M c]) M.length = true then [c.mv (rk F)] else []) := by
      unfold keptOf
      rw [List.length_append, List.length_singleton, List.range_succ, List.filter_append, List.map_append]
      congr 1
      · rw [List.filter_congr (q := isF F) (fun p hp => isF_left (by have := List.mem_range.mp hp; omega))]
        refine List.map_congr_left fun p hp => ?_
        have h1 := List.mem_range.mp (List.mem_filter.mp hp).1
        rw [gs_left h1]
        refine Stp.mv_congr fun i hi => hrk i ?_
        have := (o.re p h1 i hi).1
        omega
      · rw [List.filter_cons]
        split
        · rw [List.filter_nil, List.map_cons, gs_end]
          show [_] = [_]
          congr 1
          exact Stp.mv_congr fun i hi => hrk i (Nat.le_of_lt (hcr i hi).1)
        · rfl
    rw [hk2]
    rcases Nat.lt_or_ge (ixOf M c) M.length with h1 | h1
    · have hF : isF F (ixOf M c) = true := by
        have h2 := ixOf_lt h1
        have h3 := o.fi _ h1
        rcases Nat.lt_or_ge (gd F (ixOf M c)) (ixOf M c) with h5 | h5
        · refine absurd ?_ (ixOf_min h5)
          rw [some_gs (by omega), h3.2.2, gs_some h2]
        · have : gd F (ixOf M c) = ixOf M c := by omega
          unfold isF; rw [this]; exact beq_self_eq_true _
      rw [if_pos (rk_lt h1 hF)]
      have : isF (F ++ [ixOf M c]) M.length = false := by
        unfold isF; rw [hend]
        exact beq_eq_false_iff_ne.mpr (by omega)
      rw [this]; simp
    · have h2 : ixOf M c = M.length := Nat.le_antisymm ixOf_le h1
      rw [h2, if_neg (Nat.lt_irrefl _)]
      have : isF (F ++ [M.length]) M.length = true := by
        rw [h2] at hend
        unfold isF; rw [hend]; exact beq_self_eq_true _
      rw [if_pos this]
/-! what the last one needs -/
def rf (M : List Stp) (p : Nat) : List Nat := (gs M p).refs
def nd (M : List Stp) (n : Nat) : Nat → List Nat
  | 0 => [n]
  | t + 1 => if n - t ∈ nd M n t then nd M n t ++ rf M (n - t) else nd M n t
def cnt (N : List Nat) (q : Nat) : Nat := ((List.range q).filter (fun p => decide (p ∈ N))).length
def ps (N : List Nat) (n : Nat) : List Nat := (List.range n).filter (fun p => decide (p ∈ N))
def trim (M : List Stp) (n : Nat) : List Stp := (ps (nd M n (n + 1)) (n + 1)).map fun p => (gs M p).mv (cnt (nd M n (n + 1)))
structure Nd (M : List Stp) (n : Nat) (P : Nat → Prop) : Prop where
  last : P n
  le : ∀ p, P p → p ≤ n
  cl : ∀ p, P p → ∀ q ∈ rf M p, P q
  by_ : ∀ p, P p → p = n ∨ ∃ q, P q ∧ p < q ∧ p ∈ rf M q
def DownTo (M : List Stp) (n : Nat) : Prop := ∀ p ≤ n, ∀ q ∈ rf M p, q < p
theorem nd_mono (M : List Stp) (n t : Nat) : ∀ p ∈ nd M n t, p ∈ nd M n (t + 1) := by
  intro p hp
  rw [nd]
  split
  · exact List.mem_append_left _ hp
  · exact hp
theorem nd_inv {M : List Stp} {n : Nat} (hd : DownTo M n) (t : Nat) (ht : t ≤ n + 1) :
    n ∈ nd M n t ∧ (∀ p ∈ nd M n t, p ≤ n) ∧ (∀ p ∈ nd M n t, n < p + t → ∀ q ∈ rf M p, q ∈ nd M n t) ∧ (∀ p ∈ nd M n t, p = n ∨ ∃ q, q ∈ nd M n t ∧ p < q ∧ p ∈ rf M q) := by
  induction t with
  | zero =>
    refine ⟨List.mem_singleton.mpr rfl, fun p hp => ?_, fun p hp h => ?_, fun p hp => .inl (List.mem_singleton.mp hp)⟩
    · rw [List.mem_singleton.mp hp]; exact Nat.le_refl _
    · have := List.mem_singleton.mp hp; omega
  | succ t ih =>
    obtain ⟨a, b, c, d⟩ := ih (by omega)
    have mono := nd_mono M n t
    refine ⟨mono _ a, fun p hp => ?_, fun p hp h q hq => ?_, fun p hp => ?_⟩
    · rw [nd] at hp
      split at hp
      · rename_i hm
        rcases List.mem_append.mp hp with h1 | h1
        · exact b p h1
        · have := hd _ (b _ hm) p h1; omega
      · exact b p hp
    · rw [nd] at hp ⊢
      split at hp
      · rename_i hm
        rw [if_pos hm]
        rcases List.mem_append.mp hp with h1 | h1
        · rcases Nat.lt_or_ge n (p + t) with h2 | h2
          · exact List.mem_append_left _ (c p h1 h2 q hq)
          · have : p = n - t := by omega
            rw [← this]; exact List.mem_append_right _ hq
        · have := hd _ (b _ hm) p h1; omega
      · rename_i hm
        rw [if_neg hm]
        rcases Nat.lt_or_ge n (p + t) with h2 | h2
        · exact c p hp h2 q hq
        · have h3 : p = n - t := by omega
          rw [h3] at hp; exact absurd hp hm
    · have hm2 := hp
      rw [nd] at hm2
      split at hm2
      · rename_i hm
        rcases List.mem_append.mp hm2 with h1 | h1
        · rcases d p h1 with h2 | ⟨q, h3, h4⟩
          · exact .inl h2
          · exact .inr ⟨q, mono _ h3, h4⟩
        · exact .inr ⟨_, mono _ hm, hd _ (b _ hm) p h1, h1⟩
      · rcases d p hm2 with h2 | ⟨q, h3, h4⟩
        · exact .inl h2
        · exact .inr ⟨q, mono _ h3, h4⟩
theorem nd_nd {M : List Stp} {n : Nat} (hd : DownTo M n) : Nd M n (fun p => p ∈ nd M n (n + 1)) := by
  obtain ⟨a, b, c, d⟩ := nd_inv hd (n + 1) (Nat.le_refl _)
  exact ⟨a, b, fun p hp => c p hp (by omega), d⟩
theorem Nd.sub {M : List Stp} {n : Nat} {P Q : Nat → Prop} (h : Nd M n P) (g : Nd M n Q) : ∀ p, P p → Q p := by
  have : ∀ t p, n - p ≤ t → P p → Q p := by
    intro t
    induction t with
    | zero =>
      intro p hp pp
      have := h.le p pp
      have h2 : p = n := by omega
      rw [h2]; exact g.last
    | succ t ih =>
      intro p hp pp
      rcases h.by_ p pp with rfl | ⟨q, pq, hq, hr⟩
      · exact g.last
      · have := h.le q pq
        exact g.cl q (ih q (by omega) pq) p hr
  exact fun p pp => this _ p (Nat.le_refl _) pp
theorem Nd.iff {M : List Stp} {n : Nat} {P Q : Nat → Prop} (h : Nd M n P) (g : Nd M n Q) (p : Nat) : P p ↔ Q p := ⟨h.sub g p, g.sub h p⟩
theorem filter_range_map {f g : Nat → Bool} {r : Nat → Nat} (hr0 : r 0 = 0) (hf : ∀ n, f n = true → r (n + 1) = r n + 1 ∧ g (r n) = true)
    (hn : ∀ n, f n = false → r (n + 1) = r n ∨ (r (n + 1) = r n + 1 ∧ g (r n) = false)) (n : Nat) : (List.range (r n)).filter g = ((List.range n).filter f).map r := by
  induction n with
  | zero => rw [hr0]; rfl
  | succ n ih =>
    rw [List.range_succ, List.filter_append, List.map_append, List.filter_cons]
    cases h : f n with
    | true =>
      obtain ⟨h1, h2⟩ := hf n h
      rw [h1, List.range_succ, List.filter_append, ih, List.filter_cons, if_pos h2, if_pos rfl]; rfl
    | false =>
      rw [if_neg (by simp)]
      rcases hn n h with h1 | ⟨h1, h2⟩
      · rw [h1, ih]; simp
      · rw [h1, List.range_succ, List.filter_append, ih, List.filter_cons, if_neg (by rw [h2]; simp)]; rfl
theorem rf_down {M : List Stp} {F : List Nat} (o : MOk M F) {n : Nat} (h : n < M.length) : DownTo M n := fun p hp q hq => (o.re p (by omega) q hq).1
theorem trim_kept {M : List Stp} {F : List Nat} (o : MOk M F) {n : Nat} (h : n < M.length) (hF : isF F n = true) : trim (keptOf M F) (rk F n) = trim M n := by
  have hN := nd_nd (rf_down o h)
  generalize hNe : nd M n (n + 1) = N at hN
  have hfirst : ∀ p ∈ N, isF F p = true := by
    intro p hp
    rcases hN.by_ p hp with h1 | ⟨q, hq, _, hr⟩
    · rw [h1]; exact hF
    · exact (o.re q (by have := hN.le q hq; omega) p hr).2
  have hk : ∀ p < M.length, isF F p = true → gs (keptOf M F) (rk F p) = (gs M p).mv (rk F) := by
    intro p hp hf
    refine gs_some ?_
    unfold keptOf
    rw [List.getElem?_map]
    have := getElem_filter_range hp hf
    have e : (List.filter (isF F) (List.range M.length))[rk F p]? = some p := this
    rw [e]; rfl
  have hrf : ∀ p < M.length, isF F p = true → rf (keptOf M F) (rk F p) = (rf M p).map (rk F) := by
    intro p hp hf
    unfold rf
    rw [hk p hp hf, Stp.refs_mv]
  have hdn : DownTo (keptOf M F) (rk F n) := by
    intro m hm q hq
    have hml : m < ((List.range M.length).filter (isF F)).length := Nat.lt_of_le_of_lt hm (rk_lt h hF)
    have h1 := mem_filter_range (List.getElem?_eq_getElem hml)
    generalize ((List.range M.length).filter (isF F))[m] = p at h1
    have h2 : m = rk F p := h1.2.2
    rw [h2] at hq ⊢
    rw [hrf p h1.1 h1.2.1] at hq
    obtain ⟨i, hi, rfl⟩ := List.mem_map.mp hq
    have h3 := o.re p h1.1 i hi
    exact rk_lt h3.1 h3.2
  have hP : Nd (keptOf M F) (rk F n) (fun m => ∃ p ∈ N, rk F p = m) := by
    refine ⟨⟨n, hN.last, rfl⟩, fun m ⟨p, hp, e⟩ => ?_, fun m ⟨p, hp, e⟩ q hq => ?_, fun m ⟨p, hp, e⟩ => ?_⟩
    · rw [← e]; exact rk_mono (hN.le p hp)
    · rw [← e, hrf p (by have := hN.le p hp; omega) (hfirst p hp)] at hq
      obtain ⟨i, hi, rfl⟩ := List.mem_map.mp hq
      exact ⟨i, hN.cl p hp i hi, rfl⟩
    · rcases hN.by_ p hp with h1 | ⟨q, hq, hlt, hr⟩
      · left; rw [← e, h1]
      · right
        refine ⟨rk F q, ⟨q, hq, rfl⟩, ?_, ?_⟩
        · rw [← e]; exact rk_lt hlt (hfirst p hp)
        · rw [hrf q (by have := hN.le q hq; omega) (hfirst q hq), ← e]
          exact List.mem_map_of_mem hr
  have hQ := nd_nd hdn
  have hiff : ∀ m, m ∈ nd (keptOf M F) (rk F n) (rk F n + 1) ↔ ∃ p ∈ N, rk F p = m := fun m => hQ.iff hP m
  unfold trim
  rw [hNe]
  generalize nd (keptOf M F) (rk F n) (rk F n + 1) = N2 at hiff
  have hfr : ∀ k, (List.range (rk F k)).filter (fun p => decide (p ∈ N2)) = ((List.range k).filter (fun p => decide (p ∈ N))).map (rk F) := by
    refine filter_range_map rfl (fun k hk2 => ?_) fun k hk2 => ?_
    · have h1 := hfirst k (of_decide_eq_true hk2)
      rw [rk_succ, if_pos h1]
      exact ⟨rfl, decide_eq_true ((hiff _).mpr ⟨k, of_decide_eq_true hk2, rfl⟩)⟩
    · rw [rk_succ]
      by_cases h1 : isF F k = true
      · rw [if_pos h1]
        refine .inr ⟨rfl, decide_eq_false fun hm => ?_⟩
        obtain ⟨p, hp, e⟩ := (hiff _).mp hm
        have := rk_inj (hfirst p hp) h1 e
        rw [this] at hp
        exact of_decide_eq_false hk2 hp
      · rw [if_neg h1]; exact .inl rfl
  have hcnt : ∀ k, cnt N2 (rk F k) = cnt N k := by
    intro k; unfold cnt; rw [hfr, List.length_map]
  have hps : ps N2 (rk F n + 1) = (ps N (n + 1)).map (rk F) := by
    have e : rk F n + 1 = rk F (n + 1) := by rw [rk_succ, if_pos hF]
    unfold ps
    rw [e]; exact hfr _
  rw [hps, List.map_map]
  refine List.map_congr_left fun p hp => ?_
  have h1 := List.mem_filter.mp hp
  have h2 := of_decide_eq_true h1.2
  have h3 : p < M.length := by have := hN.le p h2; omega
  show (gs (keptOf M F) (rk F p)).mv (cnt N2) = _
  rw [hk p h3 (hfirst p h2), Stp.mv_mv]
  exact Stp.mv_congr fun i _ => hcnt i
theorem cnt_succ (N : List Nat) (n : Nat) : cnt N (n + 1) = cnt N n + if n ∈ N then 1 else 0 := by
  unfold cnt
  rw [List.range_succ, List.filter_append, List.length_append, List.filter_cons]
  by_cases h : n ∈ N
  · rw [if_pos h, if_pos (decide_eq_true h)]; rfl
  · rw [if_neg h, if_neg (by simpa using h)]; rfl
theorem cnt_mono {N : List Nat} {m n : Nat} (h : m ≤ n) : cnt N m ≤ cnt N n := by
  induction n with
  | zero => rw [Nat.le_zero.mp h]; exact Nat.le_refl _
  | succ n ih =>
    rcases Nat.lt_or_eq_of_le h with h1 | h1
    · rw [cnt_succ]; have := ih (by omega); omega
    · rw [h1]; exact Nat.le_refl _
theorem cnt_lt {N : List Nat} {m n : Nat} (h : m < n) (hm : m ∈ N) : cnt N m < cnt N n := by
  have h1 := cnt_mono (N := N) (show m + 1 ≤ n from h)
  rw [cnt_succ, if_pos hm] at h1
  omega
theorem cnt_inj {N : List Nat} {m n : Nat} (hm : m ∈ N) (hn : n ∈ N) (e : cnt N m = cnt N n) : m = n := by
  rcases Nat.lt_trichotomy m n with h | h | h
  · have := cnt_lt h hm; omega
  · exact h
  · have := cnt_lt h hn; omega
theorem ixOf_self {L : List Stp} {k : Nat} (hk : k < L.length) (h : ∀ i < k, gs L i ≠ gs L k) : ixOf (L.take k) (gs L k) = k := by
  have : ixOf (L.take k) (gs L k) = (L.take k).length := ixOf_none fun hm => by
    obtain ⟨i, hi⟩ := List.getElem?_of_mem hm
    have hik : i < k := by
      rcases Nat.lt_or_ge i k with h1 | h1
      · exact h1
      · rw [List.getElem?_eq_none (by rw [List.length_take]; omega)] at hi; cases hi
    rw [List.getElem?_take_of_lt hik] at hi
    exact h i hik (gs_some hi)
  rw [this, List.length_take]; omega
theorem take_succ_gs {L : List Stp} {k : Nat} (hk : k < L.length) : L.take (k + 1) = L.take k ++ [gs L k] := by
  rw [List.take_add_one, some_gs hk]; rfl
theorem prun_diff {L : List Stp} (hd : Down L) (hi : ∀ i k, i < k → k < L.length → gs L i ≠ gs L k) : ∀ k ≤ L.length, prun (L.take k) = (L.take k, List.range k) := by
  intro k
  induction k with
  | zero => intro _; rfl
  | succ k ih =>
    intro hk
    have hk2 : k < L.length := hk
    rw [take_succ_gs hk2, prun_snoc, ih (by omega)]
    unfold pstep
    dsimp only
    have hm : (gs L k).mv (gd (List.range k)) = gs L k := by
      refine Stp.mv_id fun i hi2 => ?_
      have := hd k _ (some_gs hk2) i hi2
      exact gd_some (by rw [List.getElem?_range this])
    rw [hm, ixOf_self hk2 (fun i hik => hi i k hik hk2), if_neg (by rw [List.length_take]; omega), List.range_succ]
theorem trim_stays {M : List Stp} {F : List Nat} (o : MOk M F) {n : Nat} (h : n < M.length) (hF : isF F n = true) :
    Down (trim M n) ∧ 0 < (trim M n).length ∧ prun (trim M n) = (trim M n, List.range (trim M n).length) ∧ trim (trim M n) ((trim M n).length - 1) = trim M n := by
  have hN := nd_nd (rf_down o h)
  have hLdef : trim M n = (ps (nd M n (n + 1)) (n + 1)).map fun p => (gs M p).mv (cnt (nd M n (n + 1))) := rfl
  generalize trim M n = L at hLdef ⊢
  generalize nd M n (n + 1) = N at hN hLdef
  have hlen : L.length = cnt N (n + 1) := by rw [hLdef, List.length_map]; rfl
  have hlen2 : L.length = cnt N n + 1 := by rw [hlen, cnt_succ, if_pos hN.last]
  have hget : ∀ p ∈ N, L[cnt N p]? = some ((gs M p).mv (cnt N)) := by
    intro p hp
    rw [hLdef, List.getElem?_map]
    have e : (ps N (n + 1))[cnt N p]? = some p := getElem_filter_range (by have := hN.le p hp; omega) (decide_eq_true hp)
    rw [e]; rfl
  have hof : ∀ i < L.length, ∃ p ∈ N, cnt N p = i := by
    intro i hi
    have hi2 : i < (ps N (n + 1)).length := by rw [hlen] at hi; exact hi
    have h1 := mem_filter_range (f := fun p => decide (p ∈ N)) (n := n + 1) (List.getElem?_eq_getElem hi2)
    exact ⟨_, of_decide_eq_true h1.2.1, h1.2.2.symm⟩
  have hrf : ∀ p ∈ N, rf L (cnt N p) = (rf M p).map (cnt N) := by
    intro p hp
    unfold rf
    rw [gs_some (hget p hp), Stp.refs_mv]
  have hdown : Down L := by
    intro k s hk i hi
    have hkl : k < L.length := by
      rcases Nat.lt_or_ge k L.length with h3 | h3
      · exact h3
      · rw [List.getElem?_eq_none h3] at hk; cases hk
    obtain ⟨p, hp, rfl⟩ := hof k hkl
    rw [hget p hp] at hk
    cases hk
    rw [Stp.refs_mv] at hi
    obtain ⟨j, hj, rfl⟩ := List.mem_map.mp hi
    have hpl : p < M.length := by have := hN.le p hp; omega
    exact cnt_lt (o.re p hpl j hj).1 (hN.cl p hp j hj)
  have hfirst : ∀ p ∈ N, isF F p = true := by
    intro p hp
    rcases hN.by_ p hp with h1 | ⟨q, hq, _, hr⟩
    · rw [h1]; exact hF
    · exact (o.re q (by have := hN.le q hq; omega) p hr).2
  have hdiff : ∀ i k, i < k → k < L.length → gs L i ≠ gs L k := by
    intro i k hik hk e
    obtain ⟨p, hp, rfl⟩ := hof i (by omega)
    obtain ⟨q, hq, rfl⟩ := hof k hk
    rw [gs_some (hget p hp), gs_some (hget q hq)] at e
    have h1 : gs M p = gs M q := Stp.mv_inj (fun a ha b hb e2 => cnt_inj (hN.cl p hp a ha) (hN.cl q hq b hb) e2) e
    have hpl : p < M.length := by have := hN.le p hp; omega
    have hql : q < M.length := by have := hN.le q hq; omega
    have h2 := o.eq p q hpl hql h1
    have h3 := hfirst p hp
    have h4 := hfirst q hq
    unfold isF at h3 h4
    have h5 : p = q := by rw [← beq_iff_eq.mp h3, ← beq_iff_eq.mp h4]; exact h2
    rw [h5] at hik; omega
  refine ⟨hdown, by omega, ?_, ?_⟩
  · have := prun_diff hdown hdiff L.length (Nat.le_refl _)
    rw [List.take_length] at this; exact this
  · have e1 : L.length - 1 = cnt N n := by omega
    rw [e1]
    have hdl : DownTo L (cnt N n) := by
      intro m hm q hq
      exact hdown m _ (some_gs (by omega)) q hq
    have hall : Nd L (cnt N n) (fun m => m ≤ cnt N n) := by
      refine ⟨Nat.le_refl _, fun p hp => hp, fun p hp q hq => ?_, fun m hm => ?_⟩
      · have := hdl p hp q hq; omega
      · obtain ⟨p, hp, rfl⟩ := hof m (by omega)
        rcases hN.by_ p hp with h1 | ⟨q, hq, hlt, hr⟩
        · left; rw [h1]
        · refine .inr ⟨cnt N q, cnt_mono (hN.le q hq), cnt_lt hlt hp, ?_⟩
          rw [hrf q hq]; exact List.mem_map_of_mem hr
    have hiff : ∀ m, m ∈ nd L (cnt N n) (cnt N n + 1) ↔ m ≤ cnt N n := fun m => (nd_nd hdl).iff hall m
    unfold trim
    generalize nd L (cnt N n) (cnt N n + 1) = N2 at hiff
    have hps : ∀ k ≤ cnt N n + 1, ps N2 k = List.range k := by
      intro k hk
      unfold ps
      refine List.filter_eq_self.mpr fun p hp => decide_eq_true ((hiff p).mpr ?_)
      have := List.mem_range.mp hp; omega
    have hcn : ∀ k ≤ cnt N n + 1, cnt N2 k = k := by
      intro k hk
      have : cnt N2 k = (ps N2 k).length := rfl
      rw [this, hps k hk, List.length_range]
    rw [hps _ (Nat.le_refl _), ← hlen2]
    refine List.ext_getElem? fun i => ?_
    rw [List.getElem?_map]
    rcases Nat.lt_or_ge i L.length with h3 | h3
    · rw [List.getElem?_range h3, some_gs h3]
      refine congrArg some (Stp.mv_id fun j hj => hcn j ?_)
      have := hdown i _ (some_gs h3) j hj; omega
    · rw [List.getElem?_eq_none (by rw [List.length_range]; exact h3), List.getElem?_eq_none h3]; rfl
/-! what the readings ask -/
theorem kept_len (M : List Stp) (F : List Nat) : (keptOf M F).length = rk F M.length := by unfold keptOf rk; rw [List.length_map]
theorem kept_at {M : List Stp} {F : List Nat} {m : Nat} (h : m < (keptOf M F).length) : ∃ p, p < M.length ∧ isF F p = true ∧ m = rk F p ∧ gs (keptOf M F) m = (gs M p).mv (rk F) := by
  have hml : m < ((List.range M.length).filter (isF F)).length := by unfold keptOf at h; rw [List.length_map] at h; exact h
  have h1 := mem_filter_range (List.getElem?_eq_getElem hml)
  refine ⟨_, h1.1, h1.2.1, h1.2.2, gs_some ?_⟩
  unfold keptOf
  rw [List.getElem?_map, List.getElem?_eq_getElem hml]; rfl
theorem kept_down {M : List Stp} {F : List Nat} (o : MOk M F) : Down (keptOf M F) := by
  intro m s hm i hi
  have hml : m < (keptOf M F).length := by
    rcases Nat.lt_or_ge m (keptOf M F).length with h3 | h3
    · exact h3
    · rw [List.getElem?_eq_none h3] at hm; cases hm
  obtain ⟨p, hp, hf, e, hg⟩ := kept_at hml
  rw [gs_some hm] at hg
  rw [hg, Stp.refs_mv] at hi
  obtain ⟨j, hj, rfl⟩ := List.mem_map.mp hi
  have h3 := o.re p hp j hj
  rw [e]
  exact rk_lt h3.1 h3.2
theorem prun_down {l : List Stp} (hd : Down l) : Down (prun l).1 := by
  rw [prun_eq l hd]; exact kept_down (mok l hd)
theorem prun_lt {l : List Stp} (hd : Down l) {k : Nat} (hk : k < l.length) : gd (prun l).2 k < (prun l).1.length := by
  have o := mok l hd
  have hl := mrun_len l
  rw [prun_eq l hd]
  show gd ((mrun l).2.map (rk (mrun l).2)) k < (keptOf (mrun l).1 (mrun l).2).length
  rw [kept_len, gd_some (by rw [List.getElem?_map, some_gd (by omega)]; rfl)]
  have h := o.fi k (by omega)
  exact rk_lt (by omega) h.2.1
theorem down_to {L : List Stp} (hd : Down L) {n : Nat} (hn : n < L.length) : DownTo L n := fun p hp q hq => hd p _ (some_gs (by omega)) q hq
theorem gs_take {L : List Stp} {k p : Nat} (h : p < k) : gs (L.take k) p = gs L p := by
  unfold gs; rw [List.getD_eq_getElem?_getD, List.getD_eq_getElem?_getD, List.getElem?_take_of_lt h]
theorem nd_take {L : List Stp} {n : Nat} : ∀ t, nd (L.take (n + 1)) n t = nd L n t
  | 0 => rfl
  | t + 1 => by
    have e : rf (L.take (n + 1)) (n - t) = rf L (n - t) := by unfold rf; rw [gs_take (by omega)]
    rw [nd, nd, nd_take t, e]
theorem trim_take {L : List Stp} {n : Nat} : trim (L.take (n + 1)) n = trim L n := by
  unfold trim
  rw [nd_take]
  refine List.map_congr_left fun p hp => ?_
  have : p < n + 1 := List.mem_range.mp (List.mem_filter.mp hp).1
  rw [gs_take this]
noncomputable def trimF : List Stp → List Stp
  | [] => []
  | s :: l => trim (mrun (s :: l)).1 (gd (mrun (s :: l)).2 l.length)
theorem trimF_of {l : List Stp} (h : 0 < l.length) : trimF l = trim (mrun l).1 (gd (mrun l).2 (l.length - 1)) := by
  cases l with
  | nil => cases h
  | cons s l => rfl
theorem trim_prun {l : List Stp} (hd : Down l) (h : 0 < l.length) : trim ((prun l).1.take (gd (prun l).2 (l.length - 1) + 1)) (gd (prun l).2 (l.length - 1)) = trimF l := by
  rw [trim_take, trimF_of h]
  have o := mok l hd
  have hl := mrun_len l
  have hf := o.fi (l.length - 1) (by omega)
  rw [prun_eq l hd]
  show trim (keptOf _ _) (gd ((mrun l).2.map _) _) = _
  rw [gd_some (by rw [List.getElem?_map, some_gd (by omega)]; rfl)]
  exact trim_kept o (by omega) hf.2.1
theorem trimF_stays {l : List Stp} (hd : Down l) : Down (trimF l) ∧ (trimF l).length ≤ l.length ∧ trimF (trimF l) = trimF l := by
  cases l with
  | nil => exact ⟨hd, Nat.le_refl _, rfl⟩
  | cons s l =>
    have h : 0 < (s :: l).length := Nat.succ_pos _
    generalize s :: l = l at h hd
    rw [trimF_of h]
    have o := mok l hd
    have hl := mrun_len l
    have hf := o.fi (l.length - 1) (by omega)
    have hlt : gd (mrun l).2 (l.length - 1) < (mrun l).1.length := by omega
    obtain ⟨a, b, c, d⟩ := trim_stays o hlt hf.2.1
    have hle : (trim (mrun l).1 (gd (mrun l).2 (l.length - 1))).length ≤ l.length := by
      unfold trim
      rw [List.length_map]
      unfold ps
      refine Nat.le_trans (List.length_filter_le _ _) ?_
      rw [List.length_range]; omega
    generalize trim (mrun l).1 (gd (mrun l).2 (l.length - 1)) = L at a b c d hle
    refine ⟨a, hle, ?_⟩
    have h2 := trim_prun a b
    rw [c] at h2
    have e1 : gd (List.range L.length) (L.length - 1) = L.length - 1 := gd_some (by rw [List.getElem?_range (by omega)])
    dsimp only at h2
    rw [e1, trim_take, d] at h2
    exact h2.symm
theorem mem_mv {l : List Stp} {P : Stp → Prop} (hp : ∀ s f, P s → P (s.mv f)) (h : ∀ s ∈ l, P s) : (∀ s ∈ (mrun l).1, P s) ∧ ∀ s ∈ (prun l).1, P s := by
  induction l using snoc_ind with
  | h0 => exact ⟨(fun s hs => by cases hs), (fun s hs => by cases hs)⟩
  | h1 l t ih =>
    obtain ⟨h1, h2⟩ := ih fun s hs => h s (List.mem_append_left _ hs)
    have ht := h t (List.mem_append_right _ (List.mem_singleton.mpr rfl))
    rw [mrun_snoc, prun_snoc]
    unfold mstep pstep
    refine ⟨fun s hs => ?_, fun s hs => ?_⟩
    · rcases List.mem_append.mp hs with hs | hs
      · exact h1 s hs
      · rw [List.mem_singleton.mp hs]; exact hp _ _ ht
    · dsimp only at hs
      split at hs
      · exact h2 s hs
      · rcases List.mem_append.mp hs with hs | hs
        · exact h2 s hs
        · rw [List.mem_singleton.mp hs]; exact hp _ _ ht
theorem trim_mem {M : List Stp} {n : Nat} {P : Stp → Prop} (hp : ∀ s f, P s → P (s.mv f)) (h : ∀ s ∈ M, P s) (hn : n < M.length) : ∀ s ∈ trim M n, P s := by
  intro s hs
  obtain ⟨p, hp2, rfl⟩ := List.mem_map.mp hs
  have : p < n + 1 := List.mem_range.mp (List.mem_filter.mp hp2).1
  exact hp _ _ (h _ (List.mem_of_getElem? (some_gs (by omega))))
theorem trimF_mem {l : List Stp} {P : Stp → Prop} (hp : ∀ s f, P s → P (s.mv f)) (hd : Down l) (h : ∀ s ∈ l, P s) : ∀ s ∈ trimF l, P s := by
  cases l with
  | nil => intro s hs; cases hs
  | cons s l =>
    have h0 : 0 < (s :: l).length := Nat.succ_pos _
    generalize s :: l = l at h h0 hd
    rw [trimF_of h0]
    have o := mok l hd
    have hl := mrun_len l
    have hf := o.fi (l.length - 1) (by omega)
    exact trim_mem hp (mem_mv hp h).1 (by omega)
theorem take_snoc {α : Type _} {l : List α} {i : Nat} {s : α} (h : l[i]? = some s) : l.take (i + 1) = l.take i ++ [s] := by
  rw [List.take_add_one, h]; rfl
theorem ixOf_app_self {l : List Stp} {c : Stp} (h : ixOf l c = l.length) : ixOf (l ++ [c]) c = l.length := by rw [ixOf_snoc, h]
theorem ixOf_app_ne {l : List Stp} {c s : Stp} (h : s ≠ c) : (ixOf (l ++ [c]) s < (l ++ [c]).length ↔ ixOf l s < l.length) ∧ (ixOf l s < l.length → ixOf (l ++ [c]) s = ixOf l s) := by
  rcases Nat.lt_or_ge (ixOf l s) l.length with h1 | h1
  · have e : ixOf (l ++ [c]) s = ixOf l s := by
      refine ixOf_of ?_ fun m hm => ?_
      · rw [List.getElem?_append_left h1]; exact ixOf_lt h1
      · rw [List.getElem?_append_left (by omega)]; exact ixOf_min hm
    rw [e, List.length_append]
    exact ⟨⟨fun _ => h1, fun _ => by omega⟩, fun _ => rfl⟩
  · have hn : s ∉ l ++ [c] := fun hm => by
      rcases List.mem_append.mp hm with hm | hm
      · have := ixOf_mem hm; omega
      · exact h (List.mem_singleton.mp hm)
    rw [ixOf_none hn]
    exact ⟨⟨fun h2 => absurd h2 (Nat.lt_irrefl _), fun h2 => by omega⟩, fun h2 => by omega⟩
theorem cnt_at {N : List Nat} {n i p : Nat} (h : (ps N n)[i]? = some p) : p < n ∧ p ∈ N ∧ cnt N p = i := by
  have := mem_filter_range h
  exact ⟨this.1, of_decide_eq_true this.2.1, this.2.2.symm⟩
theorem prun_kl (l : List Stp) : (prun l).1.length ≤ l.length := by
  induction l using snoc_ind with
  | h0 => exact Nat.le_refl _
  | h1 l s ih =>
    rw [prun_snoc]
    unfold pstep
    dsimp only
    rw [List.length_append, List.length_singleton]
    split
    · omega
    · rw [List.length_append, List.length_singleton]; omega
/-! steps as data -/
def toD : Stp → PyData
  | .base d => d
  | .one k i x => .tuple [.str k, .int (i : Int), x]
  | .rep i b s j d p => .tuple [.str "replace", .int (i : Int), b, s, .int (j : Int), d, p]
def t1 (z : Str) : PyData := .tuple [.str z]
def t2 (z w : Str) : PyData := .tuple [.str z, .str w]
def tf (z : Str) (d : PyData) : PyData := .tuple [.str z, d]
def termsL : List PyData := [t1 "a", t2 "X" "s", tf "f" (t2 "X" "s"), tf "f" (t1 "a"), t2 "Y" "s", t1 "true"]
def litsL : List PyData := [.tuple [.bool true, tf "p" (t1 "a"), t1 "true"], .tuple [.bool false, t1 "b", t1 "a"], .tuple [.bool false, t1 "true", t1 "true"], .tuple [.bool true, tf "f" (t1 "a"), t1 "a"]]
def fillsL : List PyData := [.tuple [], .tuple [.tuple [t2 "X" "s", t1 "a"]], .tuple [.tuple [t2 "Y" "s", t1 "b"], .tuple [t2 "X" "s", t2 "Y" "s"]], .tuple [.tuple [t2 "X" "s", tf "f" (t2 "X" "s")]],
  .tuple [.tuple [t2 "X" "s", t2 "Y" "s"], .tuple [t2 "Y" "s", t1 "b"]], .tuple [.tuple [t2 "X" "t", t2 "Y" "t"]]]
def fillsA : List PyData := fillsL
def placesL : List PyData := [.tuple [.int 0], .tuple [.int 1], .tuple [.int 0, .int 0], .tuple [.int 1, .int 2, .int 0]]
def intsL : List PyData := [.int 0, .int 1]
def boolsL : List PyData := [.bool true, .bool false]
def dropsL : List PyData := [.int 0, .int 1, .int 2]
def baseL : List PyData := dropsL.map (fun n => .tuple [.str "given", n]) ++ termsL.map (fun t => .tuple [.str "same", t]) ++ termsL.flatMap (fun t => termsL.map fun u => .tuple [.str "either", t, u])
def oneL : List (Str × PyData) := fillsA.map (fun x => (("fill" : Str), x)) ++ litsL.map (fun x => (("more" : Str), x)) ++ dropsL.map (fun x => (("drop" : Str), x))
def Wf : Stp → Prop
  | .base d => d ∈ baseL
  | .one k _ x => (k, x) ∈ oneL
  | .rep _ b s _ d p => b ∈ intsL ∧ s ∈ boolsL ∧ d ∈ intsL ∧ p ∈ placesL
theorem Wf.mv {f : Nat → Nat} {s : Stp} (h : Wf s) : Wf (s.mv f) := by cases s <;> exact h
theorem nodup_inj {α β : Type _} {f : α → β} : ∀ {l : List α}, (l.map f).Nodup → ∀ a ∈ l, ∀ b ∈ l, f a = f b → a = b
  | [], _, a, ha, _, _, _ => by cases ha
  | c :: l, h, a, ha, b, hb, e => by
    rw [List.map_cons, List.nodup_cons] at h
    rcases List.mem_cons.mp ha with ea | ha
    · rcases List.mem_cons.mp hb with eb | hb
      · rw [ea, eb]
      · exact absurd (by rw [← ea, e]; exact List.mem_map_of_mem hb) h.1
    · rcases List.mem_cons.mp hb with eb | hb
      · exact absurd (by rw [← eb, ← e]; exact List.mem_map_of_mem ha) h.1
      · exact nodup_inj h.2 a ha b hb e
theorem base_nd : (baseL.map nkey).Nodup := by decide +kernel
theorem one_nd : (oneL.map fun p => (p.1, nkey p.2)).Nodup := by decide +kernel
theorem ints_nd : (intsL.map nkey).Nodup := by decide +kernel
theorem bools_nd : (boolsL.map nkey).Nodup := by decide +kernel
theorem places_nd : (placesL.map nkey).Nodup := by decide +kernel
def headK : NestedKey → Option Str
  | .tup (.text z :: _) => some z
  | _ => none
theorem base_head : ∀ d ∈ baseL, headK (nkey d) = some "given" ∨ headK (nkey d) = some "same" ∨ headK (nkey d) = some "either" := by decide +kernel
theorem one_head : ∀ p ∈ oneL, p.1 = "fill" ∨ p.1 = "more" ∨ p.1 = "drop" := by decide +kernel
theorem toD_inj {s t : Stp} (hs : Wf s) (ht : Wf t) (e : nkey (toD s) = nkey (toD t)) : s = t := by
  have hh := congrArg headK e
  cases s with
  | base d =>
    cases t with
    | base d2 => rw [nodup_inj base_nd d hs d2 ht e]
    | one k i x =>
      have h1 : headK (nkey (toD (.one k i x))) = some k := rfl
      rw [h1] at hh
      have h2 : headK (nkey d) = some k := hh
      rcases base_head d hs with h | h | h <;> rcases one_head _ ht with h3 | h3 | h3 <;> (rw [h2] at h; have h3 : k = _ := h3; rw [h3] at h; exact absurd h (by decide))
    | rep i b s j d2 p =>
      have h2 : headK (nkey d) = some "replace" := hh
      rcases base_head d hs with h | h | h <;> (rw [h2] at h; exact absurd h (by decide))
  | one k i x =>
    cases t with
    | base d2 =>
      have h2 : some k = headK (nkey d2) := hh
      rcases base_head d2 ht with h | h | h <;> rcases one_head _ hs with h3 | h3 | h3 <;> (rw [← h2] at h; have h3 : k = _ := h3; rw [h3] at h; exact absurd h (by decide))
    | one k2 i2 x2 =>
      have e2 : NestedKey.tup [.text k, .num i, nkey x] = NestedKey.tup [.text k2, .num i2, nkey x2] := e
      injection e2 with e2
      injection e2 with ea e2
      injection e2 with eb e2
      injection e2 with ec _
      injection ea with ea
      injection eb with eb
      have h := nodup_inj one_nd (k, x) hs (k2, x2) ht (by show (k, nkey x) = (k2, nkey x2); rw [ea, ec])
      have h1 := (Prod.mk.inj h).1
      have h2 := (Prod.mk.inj h).2
      rw [h1, h2, Int.ofNat.inj eb]
    | rep i2 b2 s2 j2 d2 p2 =>
      have h2 : some k = some ("replace" : Str) := hh
      rcases one_head _ hs with h3 | h3 | h3 <;> (have h3 : k = _ := h3; rw [h3] at h2; exact absurd h2 (by decide))
  | rep i b s j d p =>
    cases t with
    | base d2 =>
      have h2 : some ("replace" : Str) = headK (nkey d2) := hh
      rcases base_head d2 ht with h | h | h <;> (rw [← h2] at h; exact absurd h (by decide))
    | one k2 i2 x2 =>
      have h2 : some ("replace" : Str) = some k2 := hh
      rcases one_head _ ht with h3 | h3 | h3 <;> (have h3 : k2 = _ := h3; rw [h3] at h2; exact absurd h2 (by decide))
    | rep i2 b2 s2 j2 d2 p2 =>
      have e2 : NestedKey.tup [.text "replace", .num i, nkey b, nkey s, .num j, nkey d, nkey p] = NestedKey.tup [.text "replace", .num i2, nkey b2, nkey s2, .num j2, nkey d2, nkey p2] := e
      injection e2 with e2
      injection e2 with _ e2
      injection e2 with ea e2
      injection e2 with eb e2
      injection e2 with ec e2
      injection e2 with ed e2
      injection e2 with ee e2
      injection e2 with ef _
      injection ea with ea
      injection ed with ed
      obtain ⟨h1, h2, h3, h4⟩ := hs
      obtain ⟨g1, g2, g3, g4⟩ := ht
      rw [Int.ofNat.inj ea, Int.ofNat.inj ed, nodup_inj ints_nd b h1 b2 g1 eb, nodup_inj bools_nd s h2 s2 g2 ec, nodup_inj ints_nd d h3 d2 g3 ee, nodup_inj places_nd p h4 p2 g4 ef]
/-! equality of data is equality of keys -/
mutual
theorem eqv_beq : ∀ (d e : PyData), Im d = true → Im e = true → PyData.eqv d e = NestedKey.beq (nkey d) (nkey e)
  | .none, e, _, he => by cases e <;> simp [PyData.eqv, nkey, NestedKey.beq, Im] at he ⊢
  | .bool b, e, _, he => by cases e <;> simp [PyData.eqv, nkey, NestedKey.beq, Im] at he ⊢ <;> (try (cases b <;> (try (rename_i c; cases c)) <;> first | rfl | (rw [Bool.eq_iff_iff]; simp)))
  | .int i, e, _, he => by cases e <;> simp [PyData.eqv, nkey, NestedKey.beq, Im] at he ⊢ <;> (try (rw [Bool.eq_iff_iff]; simp))
  | .str z, e, _, he => by cases e <;> simp [PyData.eqv, nkey, NestedKey.beq, Im] at he ⊢ <;> (try (rw [Bool.eq_iff_iff]; simp))
  | .tuple ds, .tuple es, hd, he => by
    rw [PyData.eqv, nkey, nkey, NestedKey.beq]
    exact eqvAll_beq ds es (by simpa [Im] using hd) (by simpa [Im] using he)
  | .tuple ds, .none, _, he => by simp [PyData.eqv, nkey, NestedKey.beq]
  | .tuple ds, .bool _, _, he => by simp [PyData.eqv, nkey, NestedKey.beq]
  | .tuple ds, .int _, _, he => by simp [PyData.eqv, nkey, NestedKey.beq]
  | .tuple ds, .str _, _, he => by simp [PyData.eqv, nkey, NestedKey.beq]
  | .tuple ds, .list _, _, he => by simp [Im] at he
  | .tuple ds, .dict _, _, he => by simp [Im] at he
  | .list _, _, hd, _ => by simp [Im] at hd
  | .dict _, _, hd, _ => by simp [Im] at hd
theorem eqvAll_beq : ∀ (ds es : List PyData), ImAll ds = true → ImAll es = true → PyData.eqvAll ds es = NestedKey.beqAll (nkeys ds) (nkeys es)
  | [], [], _, _ => by rw [PyData.eqvAll, nkeys, NestedKey.beqAll]
  | [], e :: es, _, _ => by rw [PyData.eqvAll, nkeys, nkeys, NestedKey.beqAll]
  | d :: ds, [], _, _ => by rw [PyData.eqvAll, nkeys, nkeys, NestedKey.beqAll]
  | d :: ds, e :: es, hd, he => by
    rw [ImAll, Bool.and_eq_true] at hd he
    rw [PyData.eqvAll, nkeys, nkeys, NestedKey.beqAll, eqv_beq d e hd.1 he.1, eqvAll_beq ds es hd.2 he.2]
end
/-! the key of a step -/
mutual
def flatD : PyData → List PyData
  | .tuple ds => .tuple [.int (ds.length : Nat)] :: flatAll ds
  | .none => [.none]
  | .bool b => [.bool b]
  | .int i => [.int i]
  | .str z => [.str z]
  | .list ds => [.list ds]
  | .dict ds => [.dict ds]
def flatAll : List PyData → List PyData
  | [] => []
  | d :: ds => flatD d ++ flatAll ds
end
theorem flatAll_app : ∀ (ds es : List PyData), flatAll (ds ++ es) = flatAll ds ++ flatAll es
  | [], es => by rw [flatAll]; rfl
  | d :: ds, es => by rw [List.cons_append, flatAll, flatAll, flatAll_app ds es, List.append_assoc]
def isTup : PyData → Bool
  | .tuple _ => true
  | _ => false
theorem flat_leaf {d : PyData} (h : isTup d = false) : flatD d = [d] := by cases d <;> first | rfl | cases h
def tupK : NestedKey → Bool
  | .tup _ => true
  | _ => false
theorem tupK_leaf {d : PyData} (h : isTup d = false) : tupK (nkey d) = false := by cases d <;> first | rfl | cases h
theorem flat_split {d : PyData} : isTup d = false ∨ ∃ ds, d = .tuple ds := by cases d <;> first | exact .inl rfl | exact .inr ⟨_, rfl⟩
theorem flat_leaf_inj {d e : PyData} {r q : List PyData} (hd : isTup d = false) (h : nkeys (flatD d ++ r) = nkeys (flatD e ++ q)) : nkey d = nkey e ∧ nkeys r = nkeys q := by
  rcases flat_split (d := e) with he | ⟨es, rfl⟩
  · rw [flat_leaf hd, flat_leaf he] at h
    have h0 : nkey d :: nkeys r = nkey e :: nkeys q := h
    injection h0 with h1 h2
    exact ⟨h1, h2⟩
  · rw [flat_leaf hd, flatD] at h
    have h0 : nkey d :: nkeys r = nkey (.tuple [.int (es.length : Nat)]) :: nkeys (flatAll es ++ q) := h
    injection h0 with h1 _
    have h2 := tupK_leaf hd
    rw [h1] at h2; cases h2
mutual
theorem flat_inj : ∀ (d e : PyData) (r q : List PyData), nkeys (flatD d ++ r) = nkeys (flatD e ++ q) → nkey d = nkey e ∧ nkeys r = nkeys q
  | .tuple ds, e, r, q, h => by
    rcases flat_split (d := e) with he | ⟨es, rfl⟩
    · rw [flat_leaf he, flatD] at h
      have h0 : nkey (.tuple [.int (ds.length : Nat)]) :: nkeys (flatAll ds ++ r) = nkey e :: nkeys q := h
      injection h0 with h1 _
      have h2 := tupK_leaf he
      rw [← h1] at h2; cases h2
    · rw [flatD, flatD] at h
      have h0 : NestedKey.tup [.num (ds.length : Nat)] :: nkeys (flatAll ds ++ r) = NestedKey.tup [.num (es.length : Nat)] :: nkeys (flatAll es ++ q) := h
      injection h0 with h1 h2
      injection h1 with h1
      injection h1 with h1 _
      injection h1 with h1
      obtain ⟨h3, h4⟩ := flatAll_inj ds es r q (Int.ofNat.inj h1) h2
      exact ⟨by rw [nkey, nkey, h3], h4⟩
  | .none, e, r, q, h => flat_leaf_inj rfl h
  | .bool _, e, r, q, h => flat_leaf_inj rfl h
  | .int _, e, r, q, h => flat_leaf_inj rfl h
  | .str _, e, r, q, h => flat_leaf_inj rfl h
  | .list _, e, r, q, h => flat_leaf_inj rfl h
  | .dict _, e, r, q, h => flat_leaf_inj rfl h
theorem flatAll_inj : ∀ (ds es : List PyData) (r q : List PyData), ds.length = es.length → nkeys (flatAll ds ++ r) = nkeys (flatAll es ++ q) → nkeys ds = nkeys es ∧ nkeys r = nkeys q
  | [], [], r, q, _, h => ⟨rfl, h⟩
  | [], _ :: _, _, _, hl, _ => by cases hl
  | _ :: _, [], _, _, hl, _ => by cases hl
  | d :: ds, e :: es, r, q, hl, h => by
    rw [flatAll, flatAll, List.append_assoc, List.append_assoc] at h
    obtain ⟨h1, h2⟩ := flat_inj d e _ _ h
    obtain ⟨h3, h4⟩ := flatAll_inj ds es r q (by simpa using hl) h2
    exact ⟨by rw [nkeys, nkeys, h1, h3], h4⟩
end
end K55

set_option Elab.async false
set_option linter.all false
set_option maxRecDepth 100000
set_option maxHeartbeats 2000000
namespace K55
open PySem PySem.Spec PyProof.Rows L2 NdefX CW RZ
open PySem.W (fnX)
/-! sizes of steps -/
theorem num_txt {i : Int} (h0 : 0 ≤ i) (h1 : i < 1000000) : (Str.ofString (toString i)).length ≤ 7 := by
  obtain ⟨m, rfl⟩ := Int.eq_ofNat_of_zero_le h0
  have h := int_text_length_le10 (a := (m : Int)) (k := 6) (by decide) (by omega)
  rw [PySem.ofString_length]
  omega
theorem small_log {i : Int} (h0 : 0 ≤ i) (h1 : i < 1000000) : i.natAbs.log2 < 1000 := by
  have h2 : i.natAbs < 2 ^ 1000 := Nat.lt_of_lt_of_le (show i.natAbs < 2 ^ 20 by omega) (Nat.pow_le_pow_right (by decide) (by decide))
  by_cases hz : i.natAbs = 0
  · rw [hz]; decide
  · exact (Nat.log2_lt hz).mpr h2
/-! data that can be shown: no lists, dicts, small ints -/
mutual
def okS : PyData → Bool
  | .none => true
  | .bool _ => true
  | .int i => decide (0 ≤ i ∧ i < 1000000)
  | .str z => ascS z
  | .tuple ds => okSAll ds
  | .list _ => false
  | .dict _ => false
def okSAll : List PyData → Bool
  | [] => true
  | d :: ds => okS d && okSAll ds
end
mutual
def szD : PyData → Nat
  | .none => 4
  | .bool _ => 5
  | .int _ => 7
  | .str z => 10 * z.length + 4
  | .tuple ds => szAll ds + 2
  | .list _ => 0
  | .dict _ => 0
def szAll : List PyData → Nat
  | [] => 0
  | d :: ds => (szD d + 2) + szAll ds
end
mutual
theorem okS_as : ∀ d : PyData, okS d = true → AsD d = true
  | .none, _ => rfl
  | .bool _, _ => rfl
  | .int _, _ => rfl
  | .str z, h => h
  | .tuple ds, h => by rw [AsD]; exact okSAll_as ds (by simpa [okS] using h)
  | .list _, h => by simp [okS] at h
  | .dict _, h => by simp [okS] at h
theorem okSAll_as : ∀ ds : List PyData, okSAll ds = true → AsAll ds = true
  | [], _ => rfl
  | d :: ds, h => by
    rw [okSAll, Bool.and_eq_true] at h
    rw [AsAll, okS_as d h.1, okSAll_as ds h.2]; rfl
end
mutual
theorem okS_sh : ∀ d : PyData, okS d = true → d.showable = true ∧ d.hasDict = false ∧ d.shown.length ≤ szD d
  | .none, _ => ⟨rfl, rfl, by rw [szD, PyData.shown]; decide +kernel⟩
  | .bool b, _ => ⟨rfl, rfl, by cases b <;> (rw [szD, PyData.shown]; decide +kernel)⟩
  | .int i, h => by
    rw [okS] at h
    have h := of_decide_eq_true h
    refine ⟨?_, rfl, ?_⟩
    · rw [PyData.showable]
      exact decide_eq_true (Nat.lt_of_lt_of_le (small_log h.1 h.2) (by decide))
    · rw [PyData.shown, szD]; exact num_txt h.1 h.2
  | .str z, h => ⟨rfl, rfl, by rw [szD]; exact str_text_le h⟩
  | .tuple ds, h => by
    obtain ⟨h1, h2, h3⟩ := okSAll_sh ds (by simpa [okS] using h)
    refine ⟨by rw [PyData.showable]; exact h1, by rw [PyData.hasDict]; exact h2, ?_⟩
    rw [PyData.shown, shown_map, szD]
    have := fmt_text (ds.map PyData.shown)
    omega
  | .list _, h => by simp [okS] at h
  | .dict _, h => by simp [okS] at h
theorem okSAll_sh : ∀ ds : List PyData, okSAll ds = true → PyData.showableAll ds = true ∧ PyData.hasDictAll ds = false ∧ piled (ds.map PyData.shown) ≤ szAll ds
  | [], _ => ⟨rfl, rfl, Nat.le_refl _⟩
  | d :: ds, h => by
    rw [okSAll, Bool.and_eq_true] at h
    obtain ⟨a1, a2, a3⟩ := okS_sh d h.1
    obtain ⟨b1, b2, b3⟩ := okSAll_sh ds h.2
    refine ⟨by rw [PyData.showableAll, a1, b1]; rfl, by rw [PyData.hasDictAll, a2, b2]; rfl, ?_⟩
    rw [List.map_cons, piled_cons, szAll]
    omega
end
theorem okSAll_iff {ds : List PyData} : okSAll ds = true ↔ ∀ d ∈ ds, okS d = true := by
  induction ds with
  | nil => simp [okSAll]
  | cons d ds ih => rw [okSAll, Bool.and_eq_true, ih]; simp
theorem szAll_le {B : Nat} {ds : List PyData} (h : ∀ d ∈ ds, szD d ≤ B) : szAll ds ≤ (B + 2) * ds.length := by
  induction ds with
  | nil => exact Nat.zero_le _
  | cons d ds ih =>
    have h1 := h d List.mem_cons_self
    have h2 := ih fun e he => h e (List.mem_cons_of_mem _ he)
    rw [szAll, List.length_cons, Nat.mul_succ]
    omega
def gdB (d : PyData) : Bool := okS d && (decide (d.depth ≤ 6) && (decide (szD d ≤ 500) && decide ((flatD d).length ≤ 40)))
theorem gd_base : ∀ d ∈ baseL, gdB d = true := List.all_eq_true.mp (by decide +kernel : baseL.all gdB = true)
theorem gd_one : ∀ p ∈ oneL, gdB p.2 = true := List.all_eq_true.mp (by decide +kernel : oneL.all (fun p => gdB p.2) = true)
theorem gd_ints : ∀ d ∈ intsL, gdB d = true := List.all_eq_true.mp (by decide +kernel : intsL.all gdB = true)
theorem gd_bools : ∀ d ∈ boolsL, gdB d = true := List.all_eq_true.mp (by decide +kernel : boolsL.all gdB = true)
theorem gd_places : ∀ d ∈ placesL, gdB d = true := List.all_eq_true.mp (by decide +kernel : placesL.all gdB = true)
structure GD (d : PyData) : Prop where
  ok : okS d = true
  dp : d.depth ≤ 6
  sz : szD d ≤ 500
  fl : (flatD d).length ≤ 40
theorem gd_of {d : PyData} (h : gdB d = true) : GD d := by
  unfold gdB at h
  simp only [Bool.and_eq_true, decide_eq_true_eq] at h
  exact ⟨h.1, h.2.1, h.2.2.1, h.2.2.2⟩
theorem one_k {p : Str × PyData} (h : p ∈ oneL) : ascS p.1 = true ∧ 10 * p.1.length + 4 ≤ 54 := by
  rcases one_head p h with e | e | e <;> rw [e] <;> exact ⟨by decide +kernel, by decide +kernel⟩
def Ws (s : Stp) : Prop := Wf s ∧ ∀ i ∈ s.refs, i < 100
theorem ws_ok {s : Stp} (h : Ws s) : okS (toD s) = true ∧ (toD s).depth ≤ 10 ∧ szD (toD s) ≤ 3000 := by
  obtain ⟨h, hr⟩ := h
  cases s with
  | base d =>
    have g := gd_of (gd_base d h)
    exact ⟨g.ok, Nat.le_trans g.dp (by decide), Nat.le_trans g.sz (by decide)⟩
  | one k i x =>
    have g := gd_of (gd_one (k, x) h)
    obtain ⟨k1, k2⟩ := one_k h
    have hi : i < 100 := hr i (by simp [Stp.refs])
    have gs := g.sz
    have gp := g.dp
    refine ⟨?_, ?_, ?_⟩
    · show okS (.tuple [.str k, .int (i : Int), x]) = true
      rw [okS, okSAll, okSAll, okSAll, okSAll, g.ok, okS, okS, decide_eq_true (show (0 : Int) ≤ (i : Int) ∧ (i : Int) < 1000000 by omega), show ascS k = true from k1]; rfl
    · show PyData.depth (.tuple [.str k, .int (i : Int), x]) ≤ 10
      simp only [PyData.depth, PyData.depthAll]
      have : x.depth ≤ 6 := gp
      omega
    · show szD (.tuple [.str k, .int (i : Int), x]) ≤ 3000
      simp only [szD, szAll]
      have : szD x ≤ 500 := gs
      have : 10 * k.length + 4 ≤ 54 := k2
      omega
  | rep i b s j d p =>
    obtain ⟨h1, h2, h3, h4⟩ := h
    have g1 := gd_of (gd_ints b h1)
    have g2 := gd_of (gd_bools s h2)
    have g3 := gd_of (gd_ints d h3)
    have g4 := gd_of (gd_places p h4)
    have hi : i < 100 := hr i (by simp [Stp.refs])
    have hj : j < 100 := hr j (by simp [Stp.refs])
    have gp := g1.dp; have gp2 := g2.dp; have gp3 := g3.dp; have gp4 := g4.dp
    have gs := g1.sz; have gs2 := g2.sz; have gs3 := g3.sz; have gs4 := g4.sz
    refine ⟨?_, ?_, ?_⟩
    · show okS (.tuple [.str "replace", .int (i : Int), b, s, .int (j : Int), d, p]) = true
      simp only [okS, okSAll, g1.ok, g2.ok, g3.ok, g4.ok, decide_eq_true (show (0 : Int) ≤ (i : Int) ∧ (i : Int) < 1000000 by omega), decide_eq_true (show (0 : Int) ≤ (j : Int) ∧ (j : Int) < 1000000 by omega), show ascS "replace" = true by decide +kernel, Bool.and_self]
    · show PyData.depth (.tuple [.str "replace", .int (i : Int), b, s, .int (j : Int), d, p]) ≤ 10
      simp only [PyData.depth, PyData.depthAll]
      omega
    · show szD (.tuple [.str "replace", .int (i : Int), b, s, .int (j : Int), d, p]) ≤ 3000
      simp only [szD, szAll]
      have : 10 * (Str.ofString "replace").length + 4 = 74 := by decide +kernel
      omega
theorem wf_fl {s : Stp} (h : Wf s) : (flatD (toD s)).length ≤ 200 := by
  cases s with
  | base d => exact Nat.le_trans (gd_of (gd_base d h)).fl (by decide)
  | one k i x =>
    have g := (gd_of (gd_one (k, x) h)).fl
    show (flatD (.tuple [.str k, .int (i : Int), x])).length ≤ 200
    have : (flatD x).length ≤ 40 := g
    simp only [flatD, flatAll, List.length_cons, List.length_append, List.length_nil]
    omega
  | rep i b s j d p =>
    obtain ⟨h1, h2, h3, h4⟩ := h
    have g1 := (gd_of (gd_ints b h1)).fl
    have g2 := (gd_of (gd_bools s h2)).fl
    have g3 := (gd_of (gd_ints d h3)).fl
    have g4 := (gd_of (gd_places p h4)).fl
    show (flatD (.tuple [.str "replace", .int (i : Int), b, s, .int (j : Int), d, p])).length ≤ 200
    simp only [flatD, flatAll, List.length_cons, List.length_append, List.length_nil]
    omega
theorem wf_as {s : Stp} (h : Wf s) : AsD (toD s) = true := by
  cases s with
  | base d => exact okS_as d (gd_of (gd_base d h)).ok
  | one k i x =>
    have g := okS_as x (gd_of (gd_one (k, x) h)).ok
    show AsD (.tuple [.str k, .int (i : Int), x]) = true
    simp only [AsD, AsAll, g, show ascS k = true from (one_k h).1, Bool.and_self]
  | rep i b s j d p =>
    obtain ⟨h1, h2, h3, h4⟩ := h
    show AsD (.tuple [.str "replace", .int (i : Int), b, s, .int (j : Int), d, p]) = true
    simp only [AsD, AsAll, okS_as _ (gd_of (gd_ints b h1)).ok, okS_as _ (gd_of (gd_bools s h2)).ok, okS_as _ (gd_of (gd_ints d h3)).ok, okS_as _ (gd_of (gd_places p h4)).ok, show ascS "replace" = true by decide +kernel, Bool.and_self]
theorem wf_dp {s : Stp} (h : Wf s) : (toD s).depth ≤ 10 := by
  cases s with
  | base d => exact Nat.le_trans (gd_of (gd_base d h)).dp (by decide)
  | one k i x =>
    have g := (gd_of (gd_one (k, x) h)).dp
    show PyData.depth (.tuple [.str k, .int (i : Int), x]) ≤ 10
    simp only [PyData.depth, PyData.depthAll]
    have : x.depth ≤ 6 := g
    omega
  | rep i b s j d p =>
    obtain ⟨h1, h2, h3, h4⟩ := h
    have g1 := (gd_of (gd_ints b h1)).dp
    have g2 := (gd_of (gd_bools s h2)).dp
    have g3 := (gd_of (gd_ints d h3)).dp
    have g4 := (gd_of (gd_places p h4)).dp
    show PyData.depth (.tuple [.str "replace", .int (i : Int), b, s, .int (j : Int), d, p]) ≤ 10
    simp only [PyData.depth, PyData.depthAll]
    omega
theorem wf_im {s : Stp} (h : Wf s) : Im (toD s) = true := as_im (wf_as h)
theorem wf_shaped {s : Stp} (h : Wf s) : SeqAt.shaped (toD s) = true := by
  unfold SeqAt.shaped
  rw [as_lay (wf_as h), decide_eq_true (Nat.le_trans (wf_dp h) (by decide))]; rfl
theorem imAll_steps {l : List Stp} (h : ∀ s ∈ l, Wf s) : ImAll (l.map toD) = true := imAll_iff.mpr fun d hd => by
  obtain ⟨s, hs, rfl⟩ := List.mem_map.mp hd
  exact wf_im (h s hs)
/-! the key -/
theorem leaf_item {e : PyData} (he : AsD e = true) (ht : isTup e = false) : Im e = true ∧ (nkey e).depth ≤ 1 := by
  refine ⟨as_im he, ?_⟩
  cases e <;> first | (cases ht; done) | (simp [nkey, NestedKey.depth])
theorem head_item (n : Nat) : Im (.tuple [.int (n : Int)]) = true ∧ (nkey (.tuple [.int (n : Int)])).depth ≤ 1 := by
  refine ⟨rfl, ?_⟩
  simp [nkey, nkeys, NestedKey.depth, NestedKey.depthAll]
mutual
theorem flat_items : ∀ d : PyData, AsD d = true → ∀ e ∈ flatD d, Im e = true ∧ (nkey e).depth ≤ 1
  | .none, h, e, he => by rw [flatD, List.mem_singleton] at he; rw [he]; exact leaf_item h rfl
  | .bool b, h, e, he => by rw [flatD, List.mem_singleton] at he; rw [he]; exact leaf_item h rfl
  | .int i, h, e, he => by rw [flatD, List.mem_singleton] at he; rw [he]; exact leaf_item h rfl
  | .str z, h, e, he => by rw [flatD, List.mem_singleton] at he; rw [he]; exact leaf_item h rfl
  | .list _, h, _, _ => by simp [AsD] at h
  | .dict _, h, _, _ => by simp [AsD] at h
  | .tuple ds, h, e, he => by
    rw [flatD] at he
    rcases List.mem_cons.mp he with rfl | he
    · exact head_item _
    · exact flatAll_items ds (by simpa [AsD] using h) e he
theorem flatAll_items : ∀ ds : List PyData, AsAll ds = true → ∀ e ∈ flatAll ds, Im e = true ∧ (nkey e).depth ≤ 1
  | [], _, e, he => by rw [flatAll] at he; cases he
  | d :: ds, h, e, he => by
    rw [AsAll, Bool.and_eq_true] at h
    rw [flatAll] at he
    rcases List.mem_append.mp he with he | he
    · exact flat_items d h.1 e he
    · exact flatAll_items ds h.2 e he
end
theorem nkeys_map : ∀ ds : List PyData, nkeys ds = ds.map nkey
  | [] => rfl
  | d :: ds => by rw [nkeys, nkeys_map ds]; rfl
theorem depthAll_le {n : Nat} : ∀ {ks : List NestedKey}, (∀ k ∈ ks, k.depth ≤ n) → NestedKey.depthAll ks ≤ n
  | [], _ => Nat.zero_le _
  | k :: ks, h => by
    rw [NestedKey.depthAll]
    exact Nat.max_le.mpr ⟨h k List.mem_cons_self, depthAll_le fun e he => h e (List.mem_cons_of_mem _ he)⟩
def keyD (s : Stp) : PyData := .tuple (flatD (toD s))
theorem key_im {s : Stp} (h : Wf s) : Im (keyD s) = true := by
  unfold keyD
  rw [Im]
  exact imAll_iff.mpr fun e he => (flat_items _ (wf_as h) e he).1
theorem key_dp {s : Stp} (h : Wf s) : (nkey (keyD s)).depth ≤ 8 := by
  unfold keyD
  rw [nkey, nkeys_map, NestedKey.depth]
  have := depthAll_le (n := 1) (ks := (flatD (toD s)).map nkey) fun k hk => by
    obtain ⟨e, he, rfl⟩ := List.mem_map.mp hk
    exact (flat_items _ (wf_as h) e he).2
  omega
theorem key_inj {s t : Stp} (hs : Wf s) (ht : Wf t) : nkey (keyD s) = nkey (keyD t) ↔ s = t := by
  refine ⟨fun e => ?_, fun e => by rw [e]⟩
  unfold keyD at e
  rw [nkey, nkey] at e
  injection e with e
  refine toD_inj hs ht (flat_inj (toD s) (toD t) [] [] ?_).1
  rw [List.append_nil, List.append_nil]; exact e
theorem eqv_steps {s t : Stp} (hs : Wf s) (ht : Wf t) : PyData.eqv (toD s) (toD t) = true ↔ s = t := by
  rw [eqv_beq _ _ (wf_im hs) (wf_im ht)]
  refine ⟨fun e => toD_inj hs ht (NestedKey.eq_of_beq _ _ e), fun e => by rw [e, NestedKey.beq_self]⟩
theorem k_sn {A B : Prop} {k t : Str} (h : k ≠ t) (b : B) : if decide (V.str k = V.str t) = true then A else B := by
  rw [decide_eq_false (fun e => h (V.str.inj e))]
  exact iteF b
def shapeB : PyData → Bool
  | .tuple (.str k :: _) => decide (k = "given" ∨ k = "same" ∨ k = "either")
  | _ => false
theorem base_shapeB : ∀ d ∈ baseL, shapeB d = true := List.all_eq_true.mp (by decide +kernel : baseL.all shapeB = true)
theorem base_shape {d : PyData} (h : d ∈ baseL) : ∃ k ds, d = .tuple (.str k :: ds) ∧ (k = "given" ∨ k = "same" ∨ k = "either") := by
  have := base_shapeB d h
  unfold shapeB at this
  split at this
  · exact ⟨_, _, rfl, of_decide_eq_true this⟩
  · cases this
theorem base_not {k : Str} (h : k = "given" ∨ k = "same" ∨ k = "either") : k ≠ "fill" ∧ k ≠ "more" ∧ k ≠ "drop" ∧ k ≠ "replace" := by
  rcases h with rfl | rfl | rfl <;> exact ⟨by decide, by decide, by decide, by decide⟩
def itemsOf : Stp → List Int
  | .base _ => []
  | .one _ _ _ => [1]
  | .rep _ _ _ _ _ _ => [1, 4]
theorem itemsOf_le (s : Stp) : (itemsOf s).length ≤ 2 := by cases s <;> simp [itemsOf]
def kindOf : Stp → Str
  | .base (.tuple (.str k :: _)) => k
  | .base _ => "given"
  | .one k _ _ => k
  | .rep _ _ _ _ _ _ => "replace"
def linesD (l : List Nat) : List PyData := l.map fun (i : Nat) => PyData.int (i : Int)
def pickD : Stp → PyData → PyData
  | .base _ => fun d => d
  | .one _ i _ => fun _ => .int (i : Int)
  | .rep i _ _ j _ _ => fun d => match d with
    | .int 1 => .int (i : Int)
    | _ => .int (j : Int)
theorem pick_lines (s : Stp) : ((itemsOf s).map PyData.int).map (pickD s) = linesD s.refs := by cases s <;> rfl
theorem wf_shape {s : Stp} (h : Wf s) : ∃ ds, toD s = .tuple (.str (kindOf s) :: ds) ∧ (∀ j ∈ itemsOf s, ∃ (n : Nat) (i : Int), j = (n : Int) ∧ (PyData.str (kindOf s) :: ds)[n]? = some (.int i) ∧ pickD s (.int j) = .int i) := by
  cases s with
  | base d =>
    obtain ⟨k, ds, rfl, _⟩ := base_shape h
    exact ⟨ds, rfl, fun j hj => by cases hj⟩
  | one k i x =>
    refine ⟨_, rfl, fun j hj => ?_⟩
    rw [show j = 1 from List.mem_singleton.mp hj]
    exact ⟨1, i, rfl, rfl, rfl⟩
  | rep i b s j d p =>
    refine ⟨_, rfl, fun n hn => ?_⟩
    have hn : n ∈ ([1, 4] : List Int) := hn
    rw [List.mem_cons, List.mem_singleton] at hn
    rcases hn with rfl | rfl
    · exact ⟨1, i, rfl, rfl, rfl⟩
    · exact ⟨4, j, rfl, rfl, rfl⟩
theorem flatD_pos (d : PyData) : 1 ≤ (flatD d).length := by cases d <;> simp [flatD]
theorem flatAll_len (ds : List PyData) : ds.length ≤ (flatAll ds).length := by
  induction ds with
  | nil => exact Nat.zero_le _
  | cons d ds ih =>
    rw [flatAll, List.length_append, List.length_cons]
    have := flatD_pos d
    omega
theorem flatAll_rev (ds : List PyData) : (flatAll ds.reverse).length = (flatAll ds).length := by
  induction ds with
  | nil => rfl
  | cons d ds ih => rw [List.reverse_cons, flatAll_app, List.length_append, ih, flatAll, List.length_append, flatAll, flatAll, List.length_append, List.length_nil]; omega
theorem asAll_app {ds es : List PyData} : AsAll (ds ++ es) = true ↔ AsAll ds = true ∧ AsAll es = true := by
  rw [asAll_iff, asAll_iff, asAll_iff]
  exact ⟨fun h => ⟨fun d hd => h d (List.mem_append_left _ hd), fun d hd => h d (List.mem_append_right _ hd)⟩, fun h d hd => (List.mem_append.mp hd).elim (h.1 d) (h.2 d)⟩
theorem DpAll.snoc_inv {K : PySem.W.Frag} {H : Hp} {vs : List V} {es : List PyData} {d : PyData} (h : DpAll K H vs (es ++ [d])) : ∃ ws w, vs = ws ++ [w] ∧ DpAll K H ws es ∧ Dp K H w d := by
  have hl := h.len
  rw [List.length_append, List.length_singleton] at hl
  have h1 : DpAll K H (vs.take es.length) es := by
    have := DpAll.take es.length h
    rw [List.take_left] at this
    exact this
  have h2 : DpAll K H (vs.drop es.length) [d] := by
    have := DpAll.drop es.length h
    rw [List.drop_left] at this
    exact this
  obtain ⟨w, ws, e, hw, hws⟩ := DpAll.cons_inv h2
  have := DpAll.nil_inv hws
  subst this
  exact ⟨_, w, by rw [← e, List.take_append_drop], h1, hw⟩
def stg (f : Nat → Nat) : Stp → Nat → List PyData
  | .base (.tuple ds), _ => ds
  | .base _, _ => []
  | .one k i x, t => [.str k, .int ((if t = 0 then i else f i : Nat) : Int), x]
  | .rep i b s j d p, t => [.str "replace", .int ((if t = 0 then i else f i : Nat) : Int), b, s, .int ((if t ≤ 1 then j else f j : Nat) : Int), d, p]
theorem stg_zero {f : Nat → Nat} {s : Stp} (h : Wf s) : toD s = .tuple (stg f s 0) := by
  cases s with
  | base d => obtain ⟨k, ds, rfl, _⟩ := base_shape h; rfl
  | one k i x => rfl
  | rep i b s j d p => rfl
theorem stg_end {f : Nat → Nat} {s : Stp} (h : Wf s) : toD (s.mv f) = .tuple (stg f s (itemsOf s).length) := by
  cases s with
  | base d => obtain ⟨k, ds, rfl, _⟩ := base_shape h; rfl
  | one k i x => rfl
  | rep i b s j d p => rfl
theorem stg_next {f : Nat → Nat} {s : Stp} (h : Wf s) {t : Nat} {j : Int} (hj : (itemsOf s)[t]? = some j) : ∃ (n r : Nat), j = (n : Int) ∧ n < (stg f s t).length ∧ r ∈ s.refs ∧ (∃ ds, toD s = .tuple ds ∧ ds[n]? = some (.int (r : Int))) ∧ stg f s (t + 1) = (stg f s t).set n (.int (f r : Int)) := by
  cases s with
  | base d => cases hj
  | one k i x =>
    cases t with
    | zero =>
      cases hj
      exact ⟨1, i, rfl, by simp [stg], List.mem_singleton.mpr rfl, ⟨_, rfl, rfl⟩, rfl⟩
    | succ t => cases hj
  | rep i b s j2 d p =>
    cases t with
    | zero =>
      cases hj
      exact ⟨1, i, rfl, by simp [stg], by simp [Stp.refs], ⟨_, rfl, rfl⟩, rfl⟩
    | succ t =>
      cases t with
      | zero =>
        cases hj
        exact ⟨4, j2, rfl, by simp [stg], by simp [Stp.refs], ⟨_, rfl, rfl⟩, rfl⟩
      | succ t => cases hj
theorem DpAll.set {K : PySem.W.Frag} {H : Hp} : ∀ {vs : List V} {ds : List PyData} (n : Nat) {v : V} {d : PyData}, DpAll K H vs ds → Dp K H v d → DpAll K H (vs.set n v) (ds.set n d)
  | _, _, n, _, _, .nil, _ => .nil
  | _, _, 0, _, _, .cons h t, q => .cons q t
  | _, _, n + 1, _, _, .cons h t, q => .cons h (DpAll.set n t q)
theorem stg_im {f : Nat → Nat} {s : Stp} (h : Wf s) (t : Nat) : ImAll (stg f s t) = true := by
  cases s with
  | base d =>
    obtain ⟨k, ds, rfl, _⟩ := base_shape h
    have := wf_im (s := .base (.tuple (.str k :: ds))) h
    have h2 : Im (.tuple (.str k :: ds)) = true := this
    rw [Im] at h2; exact h2
  | one k i x =>
    have := as_im (okS_as x (gd_of (gd_one (k, x) h)).ok)
    have h2 : Im x = true := this
    simp [stg, ImAll, Im, h2]
  | rep i b s j d p =>
    obtain ⟨h1, h2, h3, h4⟩ := h
    have a1 := as_im (okS_as _ (gd_of (gd_ints b h1)).ok)
    have a2 := as_im (okS_as _ (gd_of (gd_bools s h2)).ok)
    have a3 := as_im (okS_as _ (gd_of (gd_ints d h3)).ok)
    have a4 := as_im (okS_as _ (gd_of (gd_places p h4)).ok)
    simp [stg, ImAll, Im, a1, a2, a3, a4]
/-! the lines that are needed, as keys of a dict -/
def keysV (ks : List Nat) : List Key := ks.map fun (k : Nat) => (Sum.inl (k : Int) : Key)
def addK (ks : List Nat) (k : Nat) : List Nat := if k ∈ ks then ks else ks ++ [k]
theorem key_ne {k j : Nat} (h : k ≠ j) : (Sum.inl (k : Int) : Key) ≠ Sum.inl (j : Int) := fun e => h (Int.ofNat.inj (Sum.inl.inj e))
theorem valV_keys : ∀ {kvs : List (Key × V)} {ks : List Nat}, kvs.map (·.1) = keysV ks → ∀ k : Nat, (valV kvs (Sum.inl (k : Int))).isSome = decide (k ∈ ks)
  | [], [], _, k => rfl
  | [], _ :: _, h, _ => by cases h
  | _ :: _, [], h, _ => by cases h
  | p :: kvs, j :: ks, h, k => by
    have h1 : p.1 = (Sum.inl (j : Int) : Key) := (List.cons.inj h).1
    have h2 : kvs.map (·.1) = keysV ks := (List.cons.inj h).2
    by_cases e : j = k
    · rw [valV_pos (by rw [h1, e]), decide_eq_true (by rw [e]; exact List.mem_cons_self)]; rfl
    · rw [valV_neg (by rw [h1]; exact key_ne e), valV_keys h2 k]
      have : (k ∈ j :: ks) = (k ∈ ks) := by rw [List.mem_cons]; exact propext ⟨fun h => h.resolve_left (fun z => e z.symm), .inr⟩
      simp only [this]
theorem putK_keys {kvs : List (Key × V)} {ks : List Nat} (h : kvs.map (·.1) = keysV ks) (k : Nat) (v : V) : (putK kvs (Sum.inl (k : Int)) v).map (·.1) = keysV (addK ks k) := by
  unfold putK addK
  rw [valV_any, valV_keys h k]
  by_cases e : k ∈ ks
  · rw [decide_eq_true e, if_pos rfl, if_pos e, List.map_map, ← h]
    refine List.map_congr_left fun p _ => ?_
    show (if p.1 = (Sum.inl (k : Int) : Key) then (p.1, v) else p).1 = p.1
    split <;> rfl
  · rw [decide_eq_false e, if_neg (by decide), if_neg e, List.map_append, h]
    unfold keysV
    rw [List.map_append]; rfl
theorem addK_nodup {ks : List Nat} (h : ks.Nodup) (k : Nat) : (addK ks k).Nodup := by
  unfold addK
  split
  · exact h
  · rename_i hk
    rw [List.nodup_append]
    refine ⟨h, by simp, fun a ha b hb e => ?_⟩
    rw [List.mem_singleton] at hb
    rw [e, hb] at ha
    exact hk ha
theorem mem_addK {ks : List Nat} {k m : Nat} : m ∈ addK ks k ↔ m ∈ ks ∨ m = k := by
  unfold addK
  split
  · rename_i hk
    exact ⟨.inl, fun h => h.elim id fun e => e ▸ hk⟩
  · rw [List.mem_append, List.mem_singleton]
theorem ps_pairwise (N : List Nat) (n : Nat) : (ps N n).Pairwise (· < ·) := List.Pairwise.filter _ List.pairwise_lt_range
theorem ps_nodup (N : List Nat) (n : Nat) : (ps N n).Nodup := (ps_pairwise N n).imp fun h => Nat.ne_of_lt h
theorem mem_ps {N : List Nat} {n m : Nat} : m ∈ ps N n ↔ m < n ∧ m ∈ N := by
  unfold ps
  rw [List.mem_filter, List.mem_range, decide_eq_true_eq]
theorem ps_len (N : List Nat) (n : Nat) : (ps N n).length ≤ n := by
  unfold ps
  exact Nat.le_trans (List.length_filter_le _ _) (Nat.le_of_eq List.length_range)
theorem keys_perm {N ks : List Nat} {n : Nat} (hnd : ks.Nodup) (hm : ∀ m, m ∈ ks ↔ m ∈ N) (hle : ∀ m ∈ N, m < n) : ks.Perm (ps N n) := by
  rw [List.perm_ext_iff_of_nodup hnd (ps_nodup N n)]
  intro m
  rw [hm, mem_ps]
  exact ⟨fun h => ⟨hle m h, h⟩, fun h => h.2⟩
theorem keys_len {ks : List Nat} {n : Nat} (hnd : ks.Nodup) (hle : ∀ m ∈ ks, m < n) : ks.length ≤ n := by
  rw [(keys_perm (N := ks) hnd (fun m => Iff.rfl) hle).length_eq]; exact ps_len _ _
theorem sorted_keys {N ks : List Nat} {n : Nat} {ys : List Int} (hnd : ks.Nodup) (hm : ∀ m, m ∈ ks ↔ m ∈ N) (hle : ∀ m ∈ N, m < n) (hp : ys.Perm (ks.map fun (k : Nat) => (k : Int))) (hs : ys.Pairwise (· ≤ ·)) : ys.map V.int = (ps N n).map fun (k : Nat) => V.int (k : Int) := by
  have e : ys = (ps N n).map fun (k : Nat) => (k : Int) := by
    refine List.Perm.eq_of_pairwise (le := (· ≤ ·)) (fun a b _ _ h1 h2 => Int.le_antisymm h1 h2) hs ?_ (hp.trans ((keys_perm hnd hm hle).map _))
    rw [List.pairwise_map]
    exact (ps_pairwise N n).imp fun h => Int.ofNat_le.mpr (Nat.le_of_lt h)
  rw [e, List.map_map]; rfl
theorem filt_true {α : Type _} (l : List α) : l.filter (fun _ => true) = l := List.filter_eq_self.mpr fun _ _ => rfl
theorem cut_take (ds : List PyData) (k : Nat) : cutP ds none (some (k : Int)) = ds.take k := by
  unfold cutP
  rw [HT.sIx_none, HT.sIx_nat, List.drop_zero, Nat.sub_zero, List.take_eq_take_iff]
  omega
theorem ND.updL {P : Program} {w : World} {K : PySem.W.Frag} {H : Hp} {a b : Addr} {kvs : List NEnt} {zs : List V} {o : HO} (n : ND P w K H a kvs) (hne : a ≠ b) (hb : H b = some (.lst zs)) : ND P w K (upd H b o) a kvs :=
  ⟨by rw [upd_ne hne]; exact n.here, n.hd, n.len, fun p hp => ⟨Dp.im (fun _ _ h => SqT.upd hb h) (n.ks p hp).2.1 (n.ks p hp).1, (n.ks p hp).2⟩⟩
theorem NKey.updL {K : PySem.W.Frag} {H : Hp} {b : Addr} {v : V} {d : PyData} {zs : List V} {o : HO} (h : NKey K H v d) (hb : H b = some (.lst zs)) : NKey K (upd H b o) v d := ⟨Dp.im (fun _ _ h => SqT.upd hb h) h.2.1 h.1, h.2⟩
section
variable {P : Program} {w : World} {K : PySem.W.Frag} {mg : Str → Option Value}
def sp__law_cell (_ : TopW w P K mg) : Sp := fun vs H Q _ => ∃ (l : Addr) (ns : List Int) (k : Int), vs = [.ref l, .int k] ∧ SqL K H l (ns.map V.int) ∧ ns.length ≤ 63 ∧ (0 ≤ k ∧ k ≤ 1000) ∧ ∀ v, Q (.int v) H
def sp__law_digits (_ : TopW w P K mg) : Sp := fun vs H Q _ => ∃ (c : Int) (a : Addr) (ss : List Int), vs = [.int c, .ref a] ∧ SqL K H a (ss.map V.int) ∧ ss.length ≤ 1000 ∧ (∀ x ∈ ss, 0 < x ∧ x < 1073741824) ∧ ∀ p H' ds, Xt H H' → H' p = some (.lst (ds.map V.int)) → DigOk ds ss → Q (.ref p) H'
end
/-! promises -/
structure StepsOk (l : List Stp) : Prop where
  wf : ∀ s ∈ l, Wf s
  down : Down l
  len : l.length ≤ 60
def linesV (l : List Nat) : List V := l.map fun (i : Nat) => V.int (i : Int)
def PapAt (K : PySem.W.Frag) (C : Addr) (H : Hp) (a : Addr) (ds : List PyData) : Prop := ∃ dx s, H a = some (.ins C dx [("steps", s)]) ∧ Dp K H s (.tuple ds)
theorem PapAt.mono {K : PySem.W.Frag} {C : Addr} {H H' : Hp} {a : Addr} {ds : List PyData} (x : Xt H H') (h : PapAt K C H a ds) : PapAt K C H' a ds := by
  obtain ⟨dx, s, h1, h2⟩ := h
  exact ⟨dx, s, x _ _ h1, Dp.mono x h2⟩
def NumAt (K : PySem.W.Frag) (H : Hp) (n : V) (f : Nat → Nat) (l : List Nat) : Prop :=
  (∃ a xs, n = .ref a ∧ SqL K H a xs ∧ ∀ i ∈ l, xs[i]? = some (.int (f i : Int))) ∨ ∃ a kvs, n = .ref a ∧ H a = some (.dK kvs) ∧ ∀ i ∈ l, valV kvs (Sum.inl (i : Int)) = some (.int (f i : Int))
theorem NumAt.mono {K : PySem.W.Frag} {H H' : Hp} {n : V} {f : Nat → Nat} {l : List Nat} (x : Xt H H') (h : NumAt K H n f l) : NumAt K H' n f l := by
  rcases h with ⟨a, xs, e, hs, q⟩ | ⟨a, kvs, e, hs, q⟩
  · exact .inl ⟨a, xs, e, xl x hs, q⟩
  · exact .inr ⟨a, kvs, e, x _ _ hs, q⟩
def wayL : List Int := [18, 240, 240, 6, 4, 4, 2, 2, 2, 4, 60, 7]
theorem linesV_eq (l : List Nat) : linesV l = (l.map fun (k : Nat) => (k : Int)).map V.int := by unfold linesV; rw [List.map_map]; rfl
theorem linesD_eq (l : List Nat) : linesD l = (l.map fun (k : Nat) => (k : Int)).map PyData.int := by unfold linesD; rw [List.map_map]; rfl
theorem lines_inv {K : PySem.W.Frag} {H : Hp} {xs : List V} {l : List Nat} (h : DpAll K H xs (linesD l)) : xs = linesV l := by
  rw [linesD_eq] at h
  rw [linesV_eq]; exact DpAll.ints_inv h
theorem linesV_at {l : List Nat} {i k : Nat} (h : l[i]? = some k) : (linesV l)[i]? = some (.int (k : Int)) := by unfold linesV; rw [List.getElem?_map, h]; rfl
theorem linesV_len (l : List Nat) : (linesV l).length = l.length := List.length_map _
theorem linesV_app (l r : List Nat) : linesV (l ++ r) = linesV l ++ linesV r := List.map_append
theorem inV_lines {l : List Nat} {k : Nat} : inV (.int (k : Int)) (linesV l) = decide (k ∈ l) := by
  induction l with
  | nil => rfl
  | cons j l ih =>
    show (eqV (.int (j : Int)) (.int (k : Int)) || inV (.int (k : Int)) (linesV l)) = _
    rw [ih]
    have e : eqV (.int (j : Int)) (.int (k : Int)) = decide (j = k) := by
      show ((j : Int) == (k : Int)) = _
      by_cases h : j = k
      · subst h; simp
      · rw [decide_eq_false h]; exact beq_false_of_ne fun z => h (Int.ofNat.inj z)
    rw [e]
    by_cases h : j = k
    · subst h; simp
    · have h2 : ¬ k = j := fun z => h z.symm
      simp [h, h2]
theorem lines_flat (l : List Nat) : (linesV l).all flatV = true := by
  unfold linesV
  rw [List.all_map]
  exact List.all_eq_true.mpr fun _ _ => rfl
theorem steps_at {l : List Stp} {i : Nat} (h : i < l.length) : (l.map toD)[i]? = some (toD (gs l i)) := by rw [List.getElem?_map, some_gs h]; rfl
theorem gs_mem {l : List Stp} {i : Nat} (h : i < l.length) : gs l i ∈ l := List.mem_of_getElem? (some_gs h)
theorem steps_shaped {l : List Stp} (h : ∀ s ∈ l, Wf s) : SeqAt.shaped (.list (l.map toD)) = true := by
  have h1 : PyData.canLayAll0 (l.map toD) = true := as_layAll (asAll_iff.mpr fun d hd => by
    obtain ⟨s, hs, rfl⟩ := List.mem_map.mp hd
    exact wf_as (h s hs))
  have h2 : PyData.depthAll (l.map toD) ≤ 10 := dp_all fun d hd => by
    obtain ⟨s, hs, rfl⟩ := List.mem_map.mp hd
    exact wf_dp (h s hs)
  unfold SeqAt.shaped
  rw [show PyData.canLay0 (.list (l.map toD)) = true by simp only [PyData.canLay0]; exact h1, decide_eq_true (show PyData.depth (.list (l.map toD)) ≤ 64 by rw [PyData.depth]; omega)]; rfl
theorem index_steps {K : PySem.W.Frag} {H : Hp} {Q : VK} {m : Addr} {v : V} {M : List Stp} {c : Stp} (hm : Dp K H (.ref m) (.list ((M ++ [c]).map toD))) (hw : ∀ s ∈ M ++ [c], Wf s) (hc : Wf c) (hl : (M ++ [c]).length ≤ 1000) (hv : Dp K H v (toD c))
    (q : Q (.int (ixOf M c : Int)) H) : rIndexD K (.ref m) [v] H Q := by
  have hix : ixOf (M ++ [c]) c = ixOf M c := ixOf_snoc
  have hlt : ixOf (M ++ [c]) c < (M ++ [c]).length := ixOf_mem (List.mem_append_right _ (List.mem_singleton.mpr rfl))
  refine ⟨m, v, toD c, _, ixOf M c, toD c, rfl, rfl, hm, hv, steps_shaped hw, wf_shaped hc, ?_, (eqv_steps hc hc).mpr rfl, fun j z' hj hz => ?_, q⟩
  · rw [List.getElem?_map, ← hix, ixOf_lt hlt]; rfl
  · rw [List.getElem?_map] at hz
    cases e : (M ++ [c])[j]? with
    | none => rw [e] at hz; cases hz
    | some s =>
      rw [e] at hz
      cases hz
      have hs := hw s (List.mem_of_getElem? e)
      cases b : PyData.eqv (toD s) (toD c) with
      | false => rfl
      | true =>
        rw [(eqv_steps hs hc).mp b, ] at e
        exact absurd e (ixOf_min (by rw [hix]; exact hj))
theorem down_small {l : List Stp} (h : StepsOk l) : ∀ s ∈ l, Ws s := fun s hs => by
  obtain ⟨i, hi⟩ := List.getElem?_of_mem hs
  have hl := (List.getElem?_eq_some_iff.mp hi).1
  refine ⟨h.wf s hs, fun r hr => ?_⟩
  have := h.down i s hi r hr
  have := h.len
  omega
theorem rep_steps {K : PySem.W.Frag} {H : Hp} {Q : VK} {b : Addr} {l : List Stp} (hb : Dp K H (.ref b) (.tuple (l.map toD))) (h : StepsOk l) (q : Q (.str (PyData.shown (.tuple (l.map toD)))) H) : rRepr K [.ref b] H Q := by
  have hs := down_small h
  have hl := h.len
  have h1 : okS (.tuple (l.map toD)) = true := by
    rw [okS]
    refine okSAll_iff.mpr fun d hd => ?_
    obtain ⟨s, hm, rfl⟩ := List.mem_map.mp hd
    exact (ws_ok (hs s hm)).1
  obtain ⟨a1, a2, a3⟩ := okS_sh _ h1
  have h2 : szAll (l.map toD) ≤ (3000 + 2) * (l.map toD).length := szAll_le fun d hd => by
    obtain ⟨s, hm, rfl⟩ := List.mem_map.mp hd
    exact (ws_ok (hs s hm)).2.2
  have h3 : PyData.depthAll (l.map toD) ≤ 10 := dp_all fun d hd => by
    obtain ⟨s, hm, rfl⟩ := List.mem_map.mp hd
    exact (ws_ok (hs s hm)).2.1
  rw [szD] at a3
  rw [List.length_map] at h2
  refine ⟨b, _, rfl, hb, a1, a2, ?_, ?_, q⟩
  · rw [PyData.depth]; omega
  · rw [sizeLine_eq]; omega
theorem ins_of {K : PySem.W.Frag} {C : Addr} (cl : Cls K C) (h : insB K C = true) : C8.InsC K C := by
  unfold insB at h
  simp only [Bool.and_eq_true, decide_eq_true_eq] at h
  obtain ⟨h1, h2, h3, h4, h5⟩ := h
  refine ⟨cl, ?_, ?_, h3, h4, h5⟩
  · split at h1
    · rename_i s e; rw [e, of_decide_eq_true h1]
    · cases h1
  · split at h2
    · rename_i s e; rw [e, of_decide_eq_true h2]
    · cases h2
theorem T_ins {P : Program} {w : World} {K : PySem.W.Frag} {mg : Str → Option Value} (T : TopW w P K mg) : C8.InsC K T.C_Paper := by
  have h := T.insv
  rw [addrOf_eq T.insa] at h
  exact ins_of T.cl_Paper h
theorem k_nes {A B : Prop} {x : V} (b : B) : if (!decide (x = x)) = true then A else B := by
  rw [decide_eq_true rfl]; exact iteF b
/-! dicts with numbers as keys -/
section
variable {D : Ends} {σ : L2.St} {H : Hp} {a : Addr} {v : V}
theorem v_dputI {kvs : List (Key × V)} {k : Nat} (e : H a = some (.dK kvs)) (hl : kvs.length < 10000000) (q : D.nx σ (upd H a (.dK (putK kvs (Sum.inl (k : Int) : Key) v)))) : ∃ a' H4, V.ref a = .ref a' ∧ DPut H a' (.int (k : Int)) v H4 ∧ D.nx σ H4 :=
  ⟨a, _, rfl, .inl ⟨kvs, _, e, rfl, szL2 hl, rfl⟩, q⟩
end
section
variable {P : Program} {w : World} {K : PySem.W.Frag} {mg : Str → Option Value}
theorem items_dict (T : TopW w P K mg) : ∃ es n, KDict K w T.a_LINE_ITEMS es n := He.dicW_ok T.d_LINE_ITEMS
theorem items_at (T : TopW w P K mg) : KD0 K w T.a_LINE_ITEMS := by
  obtain ⟨es, n, d⟩ := items_dict T
  exact ⟨d.low, es, n, d.at_, d.lit⟩
theorem items_of (T : TopW w P K mg) {s : Stp} (h : Wf s) (H : Hp) : ∃ b : Addr, KDct K w T.a_LINE_ITEMS (kindOf s) (.ref b) ∧ SqT K H b ((itemsOf s).map V.int) := by
  obtain ⟨es, n, d⟩ := items_dict T
  have key : ∀ (z : Str) (b : Addr) (xs : List V), PySem.W.nsIn K T.a_LINE_ITEMS z = some (some (.ref b)) → (∀ H : Hp, SqT K H b xs) → z = kindOf s → xs = (itemsOf s).map V.int → ∃ b : Addr, KDct K w T.a_LINE_ITEMS (kindOf s) (.ref b) ∧ SqT K H b ((itemsOf s).map V.int) := by
    intro z b xs h1 h2 e1 e2
    subst e1 e2
    exact ⟨b, ⟨es, n, _, d.at_, d.lit, h1, rfl⟩, h2 H⟩
  cases s with
  | base d =>
    obtain ⟨k, ds, rfl, hk⟩ := base_shape h
    rcases hk with rfl | rfl | rfl
    · exact key _ _ _ T.n_given T.q_given rfl rfl
    · exact key _ _ _ T.n_same T.q_same rfl rfl
    · exact key _ _ _ T.n_either T.q_either rfl rfl
  | one k i x =>
    have hk : k = "fill" ∨ k = "more" ∨ k = "drop" := one_head _ h
    rcases hk with rfl | rfl | rfl
    · exact key _ _ _ T.n_fill T.q_fill rfl rfl
    · exact key _ _ _ T.n_more T.q_more rfl rfl
    · exact key _ _ _ T.n_drop T.q_drop rfl rfl
  | rep i b s j d p => exact key _ _ _ T.n_replace T.q_replace rfl rfl
end
section
variable {P : Program} {w : World} {K : PySem.W.Frag} {mg : Str → Option Value}
def sp_is_whole (_ : TopW w P K mg) : Sp := fun vs H Q _ => ∃ i : Int, vs = [.int i] ∧ Q (.bl true) H
def sp_Paper___init__ (T : TopW w P K mg) : Sp := fun vs H Q _ => ∃ (a dx : Addr) (v : V) (ds : List PyData), vs = [.ref a, v] ∧ H a = some (.ins T.C_Paper dx []) ∧ (Dp K H v (.list ds) ∨ Dp K H v (.tuple ds)) ∧ ds.length ≤ 1000 ∧
  ∀ H', (∀ b o, b ≠ a → H b = some o → H' b = some o) → PapAt K T.C_Paper H' a ds → Q .non H'
def sp__line_items (_ : TopW w P K mg) : Sp := fun vs H Q _ => ∃ (v : V) (s : Stp), vs = [v] ∧ Dp K H v (toD s) ∧ Wf s ∧ ∀ p H', Xt H H' → H p = none → H' p = some (.lst ((itemsOf s).map V.int)) → Q (.ref p) H'
def sp_lines_used (_ : TopW w P K mg) : Sp := fun vs H Q _ => ∃ (v : V) (s : Stp), vs = [v] ∧ Dp K H v (toD s) ∧ Wf s ∧ ∀ v' H', Xt H H' → Dp K H' v' (.tuple (linesD s.refs)) → Q v' H'
def sp_with_lines (_ : TopW w P K mg) : Sp := fun vs H Q _ => ∃ (v n : V) (s : Stp) (f : Nat → Nat), vs = [v, n] ∧ Dp K H v (toD s) ∧ Wf s ∧ NumAt K H n f s.refs ∧ ∀ v' H', Xt H H' → Dp K H' v' (toD (s.mv f)) → Q v' H'
def sp_needed_lines (_ : TopW w P K mg) : Sp := fun vs H Q _ => ∃ (a : Addr) (M : List Stp) (n : Nat), vs = [.ref a] ∧ Dp K H (.ref a) (.list (M.map toD)) ∧ M.length = n + 1 ∧ n < 60 ∧ (∀ s ∈ M, Wf s) ∧ DownTo M n ∧
  ∀ p H', Xt H H' → H' p = some (.lst (linesV (ps (nd M n (n + 1)) (n + 1)))) → Q (.ref p) H'
def sp_needed_steps (_ : TopW w P K mg) : Sp := fun vs H Q _ => ∃ (a : Addr) (M : List Stp) (n : Nat), vs = [.ref a] ∧ Dp K H (.ref a) (.list (M.map toD)) ∧ M.length = n + 1 ∧ n < 60 ∧ (∀ s ∈ M, Wf s) ∧ DownTo M n ∧
  ∀ p H', Xt H H' → Dp K H' (.ref p) (.list ((trim M n).map toD)) → Q (.ref p) H'
def sp_trimmed_paper (T : TopW w P K mg) : Sp := fun vs H Q _ => ∃ (a : Addr) (l : List Stp), vs = [.ref a] ∧ PapAt K T.C_Paper H a (l.map toD) ∧ StepsOk l ∧ ∀ b H', Xt H H' → PapAt K T.C_Paper H' b ((trimF l).map toD) → Q (.ref b) H'
def sp__step_key (_ : TopW w P K mg) : Sp := fun vs H Q _ => ∃ (v : V) (s : Stp), vs = [v] ∧ Dp K H v (toD s) ∧ Wf s ∧ ∀ b H', Xt H H' → Dp K H' (.ref b) (keyD s) → Q (.ref b) H'
def sp__law_earlier (_ : TopW w P K mg) : Sp := fun vs H Q _ => ∃ (k : Nat) (d : Int), vs = [.int (k : Int), .int d] ∧ 1 ≤ k ∧ k ≤ 60 ∧ 0 ≤ d ∧ d < 240 ∧ ∀ i : Nat, i < k → Q (.int (i : Int)) H
def sp__law_drawn_step (_ : TopW w P K mg) : Sp := fun vs H Q _ => ∃ (a : Addr) (k : Nat) (ds : List Int), vs = [.ref a, .int (k : Int)] ∧ SqL K H a (ds.map V.int) ∧ DigOk ds wayL ∧ k ≤ 60 ∧ ∀ v s H', Xt H H' → Wf s → (∀ i ∈ s.refs, i < k) → Dp K H' v (toD s) → Q v H'
def sp__law_moved (_ : TopW w P K mg) : Sp := fun vs H Q _ => ∃ (v : V) (a : Addr) (s : Stp) (f : Nat → Nat) (xs : List V), vs = [v, .ref a] ∧ Dp K H v (toD s) ∧ Wf s ∧ SqL K H a xs ∧ (∀ i ∈ s.refs, xs[i]? = some (.int (f i : Int))) ∧ ∀ v' H', Xt H H' → Dp K H' v' (toD (s.mv f)) → Q v' H'
def sp__law_used (_ : TopW w P K mg) : Sp := fun vs H Q _ => ∃ (v : V) (s : Stp), vs = [v] ∧ Dp K H v (toD s) ∧ Wf s ∧ ∀ p H', Xt H H' → H' p = some (.lst (linesV s.refs)) → Q (.ref p) H'
def sp__law_drawn_steps (_ : TopW w P K mg) : Sp := fun vs H Q _ => ∃ (l : Addr) (ns : List Int) (c : Nat), vs = [.ref l, .int (c : Int)] ∧ SqL K H l (ns.map V.int) ∧ ns.length ≤ 63 ∧ c ≤ 60 ∧ ∀ p H' l, Xt H H' → StepsOk l → l.length = c → Dp K H' (.ref p) (.list (l.map toD)) → Q (.ref p) H'
def sp__law_trimmed (_ : TopW w P K mg) : Sp := fun vs H Q _ => ∃ (a : Addr) (l : List Stp), vs = [.ref a] ∧ Dp K H (.ref a) (.list (l.map toD)) ∧ StepsOk l ∧ ∀ b H', Xt H H' → Dp K H' (.ref b) (.tuple ((trimF l).map toD)) → Q (.ref b) H'
def sp__law_right (_ : TopW w P K mg) : Sp := fun vs H Q _ => ∃ (a : Addr) (l : List Stp), vs = [.ref a] ∧ Dp K H (.ref a) (.list (l.map toD)) ∧ StepsOk l ∧ ∀ H', Xt H H' → Q (.bl true) H'
end
theorem way_inv {ds : List Int} (h : DigOk ds wayL) : ∃ r0 r1 r2 r3 r4 r5 r6 r7 r8 r9 r10 r11 : Int, ds = [r0, r1, r2, r3, r4, r5, r6, r7, r8, r9, r10, r11] ∧ (0 ≤ r0 ∧ r0 < 18) ∧ (0 ≤ r1 ∧ r1 < 240) ∧ (0 ≤ r2 ∧ r2 < 240) ∧ (0 ≤ r3 ∧ r3 < 6) ∧ (0 ≤ r4 ∧ r4 < 4) ∧ (0 ≤ r5 ∧ r5 < 4) ∧ (0 ≤ r6 ∧ r6 < 2) ∧ (0 ≤ r7 ∧ r7 < 2) ∧ (0 ≤ r8 ∧ r8 < 2) ∧ (0 ≤ r9 ∧ r9 < 4) ∧ (0 ≤ r10 ∧ r10 < 60) ∧ (0 ≤ r11 ∧ r11 < 7) := by
  obtain ⟨hl, hb⟩ := h
  match ds, hl with
  | [r0, r1, r2, r3, r4, r5, r6, r7, r8, r9, r10, r11], _ =>
    exact ⟨r0, r1, r2, r3, r4, r5, r6, r7, r8, r9, r10, r11, rfl, hb 0 r0 18 rfl rfl, hb 1 r1 240 rfl rfl, hb 2 r2 240 rfl rfl, hb 3 r3 6 rfl rfl, hb 4 r4 4 rfl rfl, hb 5 r5 4 rfl rfl, hb 6 r6 2 rfl rfl, hb 7 r7 2 rfl rfl, hb 8 r8 2 rfl rfl, hb 9 r9 4 rfl rfl, hb 10 r10 60 rfl rfl, hb 11 r11 7 rfl rfl⟩
theorem pick_at {L : List PyData} {i : Int} (h0 : 0 ≤ i) (h1 : i < (L.length : Int)) : ∃ d, d ∈ L ∧ atI L i = some d := by
  obtain ⟨n, rfl⟩ := Int.eq_ofNat_of_zero_le h0
  have hn : n < L.length := by omega
  exact ⟨L[n], List.getElem_mem hn, atI_nat (List.getElem?_eq_getElem hn)⟩
theorem drop_in {r : Int} (h0 : 0 ≤ r) (h1 : r < 6) : PyData.int (r / 2) ∈ dropsL := by
  have : r / 2 = 0 ∨ r / 2 = 1 ∨ r / 2 = 2 := by omega
  rcases this with e | e | e <;> rw [e] <;> simp [dropsL]
theorem given_ok {r : Int} (h0 : 0 ≤ r) (h1 : r < 6) : Wf (.base (.tuple [.str "given", .int (r / 2)])) := List.mem_append_left _ (List.mem_append_left _ (List.mem_map_of_mem (f := fun n => PyData.tuple [.str "given", n]) (drop_in h0 h1)))
theorem same_ok {t : PyData} (h : t ∈ termsL) : Wf (.base (.tuple [.str "same", t])) := List.mem_append_left _ (List.mem_append_right _ (List.mem_map_of_mem (f := fun t => PyData.tuple [.str "same", t]) h))
theorem either_ok {t u : PyData} (h : t ∈ termsL) (g : u ∈ termsL) : Wf (.base (.tuple [.str "either", t, u])) := List.mem_append_right _ (List.mem_flatMap.mpr ⟨t, h, List.mem_map_of_mem (f := fun u => PyData.tuple [.str "either", t, u]) g⟩)
theorem fill_ok {i : Nat} {x : PyData} (h : x ∈ fillsL) : Wf (.one "fill" i x) := List.mem_append_left _ (List.mem_append_left _ (List.mem_map_of_mem (f := fun x => (("fill" : Str), x)) h))
theorem more_ok {i : Nat} {x : PyData} (h : x ∈ litsL) : Wf (.one "more" i x) := List.mem_append_left _ (List.mem_append_right _ (List.mem_map_of_mem (f := fun x => (("more" : Str), x)) h))
theorem drop_ok {i : Nat} {r : Int} (h0 : 0 ≤ r) (h1 : r < 6) : Wf (.one "drop" i (.int (r / 2))) := List.mem_append_right _ (List.mem_map_of_mem (f := fun x => (("drop" : Str), x)) (drop_in h0 h1))
theorem int_ok {r : Int} (h0 : 0 ≤ r) (h1 : r < 2) : PyData.int r ∈ intsL := by
  have : r = 0 ∨ r = 1 := by omega
  rcases this with e | e <;> rw [e] <;> simp [intsL]
theorem bool_ok (b : Bool) : PyData.bool b ∈ boolsL := by cases b <;> simp [boolsL]
section
variable {K : PySem.W.Frag} {σ : L2.St} {H : Hp} {Q : VK} {te : TE} {tt : TT} {vs : List Nat} {j : Nat}
theorem b_rngF {n : Nat} (p : Nat → Bool) (hn : n < 100000) (hw : ∀ x, wipe ((wipe σ vs).set j (some x)) vs = wipe σ vs)
    (test : ∀ i H', i < n → Xt H H' → ∀ R : Bool → Hp → Prop, R (p i) H' → tt ((wipe σ vs).set j (some (.int (0 + (i : Int))))) H' R)
    (body : ∀ i H', i < n → Xt H H' → ∀ R : VK, R (.int (0 + (i : Int))) H' → te ((wipe σ vs).set j (some (.int (0 + (i : Int))))) H' R)
    (k : ∀ Dl H2, H Dl = none → Xt H H2 → H2 Dl = some (.lst (linesV ((List.range n).filter p))) → Q (.ref Dl) H2) : LcB (Itr 0 n) (gName j) tt te vs σ Q H := fun Dl hD => by
  refine lc_range (g := gName j) (tt := tt) (te := te) (σ := σ) (vs := vs) (fun i H' => Xt H H' ∧ H' Dl = some (.lst (linesV ((List.range i).filter p)))) ⟨xnew hD, upd_same⟩ (fun i H' hi w => ⟨hw _, test i H' hi w.1 _ ?_⟩) (fun H' w => k Dl H' hD w.1 w.2)
  have hl : (linesV ((List.range i).filter p)).length ≤ i := by rw [linesV_len]; exact Nat.le_trans (List.length_filter_le _ _) (Nat.le_of_eq List.length_range)
  cases hp : p i with
  | true =>
    rw [if_pos rfl]
    refine body i H' hi w.1 _ ⟨_, w.2, szL2 (by omega), xmut w.1 hD, ?_⟩
    rw [upd_same, List.range_succ, List.filter_append, linesV_app, List.filter_cons, if_pos hp, show (0 : Int) + (i : Int) = (i : Int) by omega]; rfl
  | false =>
    rw [if_neg (by decide)]
    refine ⟨w.1, ?_⟩
    rw [List.range_succ, List.filter_append, List.filter_cons, if_neg (by rw [hp]; decide), List.filter_nil, List.append_nil]; exact w.2
end
theorem fill_inv {c : Stp} (h : Wf c) (hk : kindOf c = "fill") : ∃ i fs, c = .one "fill" i (.tuple fs) ∧ PyData.tuple fs ∈ fillsL := by
  cases c with
  | base d =>
    obtain ⟨k, ds, rfl, hb⟩ := base_shape h
    have hk : k = "fill" := hk
    exact absurd hk (base_not hb).1
  | one k i x =>
    have hk : k = "fill" := hk
    subst hk
    have h : ((("fill" : Str), x)) ∈ oneL := h
    have hx : x ∈ fillsL := by
      unfold oneL at h
      rcases List.mem_append.mp h with h | h
      · rcases List.mem_append.mp h with h | h
        · obtain ⟨y, hy, e⟩ := List.mem_map.mp h
          rw [← (Prod.mk.inj e).2]; exact hy
        · obtain ⟨y, hy, e⟩ := List.mem_map.mp h
          exact absurd (Prod.mk.inj e).1 (by decide)
      · obtain ⟨y, hy, e⟩ := List.mem_map.mp h
        exact absurd (Prod.mk.inj e).1 (by decide)
    have hall : ∀ x ∈ fillsL, isTup x = true := List.all_eq_true.mp (by decide +kernel : fillsL.all isTup = true)
    rcases flat_split (d := x) with ht | ⟨fs, rfl⟩
    · rw [hall x hx] at ht; cases ht
    · exact ⟨i, fs, rfl, hx⟩
  | rep i b s j d p => exact absurd (show ("replace" : Str) = "fill" from hk) (by decide)
theorem fill_rev {fs : List PyData} (h : PyData.tuple fs ∈ fillsL) : PyData.tuple fs.reverse ∈ fillsL := by
  simp only [fillsL, List.mem_cons, List.not_mem_nil, or_false, PyData.tuple.injEq] at h
  rcases h with rfl | rfl | rfl | rfl | rfl | rfl <;> simp [fillsL]
theorem fill_len {fs : List PyData} (h : PyData.tuple fs ∈ fillsL) : fs.length ≤ 2 := by
  simp only [fillsL, List.mem_cons, List.not_mem_nil, or_false, PyData.tuple.injEq] at h
  rcases h with rfl | rfl | rfl | rfl | rfl | rfl <;> decide
theorem k_sy {A B : Prop} {k t : Str} (h : k = t) (a : A) : if decide (V.str k = V.str t) = true then A else B := by
  subst h
  rw [if_pos (decide_eq_true rfl)]; exact a
theorem dec_int {a b : Nat} : decide (V.int (a : Int) = V.int (b : Int)) = decide (a = b) := by
  by_cases h : a = b
  · rw [h, decide_eq_true rfl, decide_eq_true rfl]
  · rw [decide_eq_false h]
    exact decide_eq_false fun e => h (Int.ofNat.inj (V.int.inj e))
theorem mod_at {xs : List Nat} {r : Int} (h0 : 0 ≤ r) (hl : 0 < xs.length) : ∃ o, o ∈ xs ∧ atI (linesV xs) (r % ((linesV xs).length : Int)) = some (.int (o : Int)) := by
  obtain ⟨m, rfl⟩ := Int.eq_ofNat_of_zero_le h0
  rw [linesV_len]
  have hlt : m % xs.length < xs.length := Nat.mod_lt _ hl
  refine ⟨xs[m % xs.length], List.getElem_mem hlt, ?_⟩
  exact atI_nat (j := m % xs.length) (linesV_at (List.getElem?_eq_getElem hlt))
end K55

set_option Elab.async false
set_option linter.all false
set_option maxRecDepth 100000
set_option maxHeartbeats 2000000
namespace K55
open PySem PySem.Spec PyProof.Rows L2 NdefX CW RZ
open PySem.W (fnX)
def sp_lawK (K : PySem.W.Frag) : Sp := fun vs H Q _ => ∃ (l : Addr) (ns : List Int), vs = [.ref l] ∧ SqL K H l (ns.map V.int) ∧ ns.length ≤ 63 ∧ ∀ H', Q (.bl true) H'
local macro_rules | `(tactic| walk_at "0") => `(tactic| (with_reducible refine k_seq ?_))
local macro_rules | `(tactic| walk_at "1") => `(tactic| (with_reducible refine k_asg ?_))
local macro_rules | `(tactic| walk_at "2") => `(tactic| (with_reducible refine k_ret ?_))
local macro_rules | `(tactic| walk_at "3") => `(tactic| (with_reducible refine k_drop ?_))
local macro_rules | `(tactic| walk_at "4") => `(tactic| (with_reducible refine k_ifs ?_))
local macro_rules | `(tactic| walk_at "5") => `(tactic| (with_reducible refine k_next ?_))
local macro_rules | `(tactic| walk_at "6") => `(tactic| (with_reducible refine k_name ?_))
local macro_rules | `(tactic| walk_at "7") => `(tactic| (with_reducible refine k_c ?_))
local macro_rules | `(tactic| walk_at "8") => `(tactic| (with_reducible refine k_op ?_))
local macro_rules | `(tactic| walk_at "9") => `(tactic| (with_reducible refine k_cons ?_))
local macro_rules | `(tactic| walk_at "10") => `(tactic| (with_reducible refine k_nil ?_))
local macro_rules | `(tactic| walk_at "11") => `(tactic| (with_reducible refine k_cb ?_))
local macro_rules | `(tactic| walk_at "12") => `(tactic| (with_reducible refine k_call ?_))
local macro_rules | `(tactic| walk_at "13") => `(tactic| (with_reducible refine k_un ?_))
local macro_rules | `(tactic| walk_at "14") => `(tactic| (with_reducible refine k_test ?_))
local macro_rules | `(tactic| walk_at "15") => `(tactic| (with_reducible refine k_tb ?_))
local macro_rules | `(tactic| walk_at "16") => `(tactic| (with_reducible refine k_not ?_))
local macro_rules | `(tactic| walk_at "17") => `(tactic| (with_reducible refine k_and ?_))
local macro_rules | `(tactic| walk_at "18") => `(tactic| (with_reducible refine k_or ?_))
local macro_rules | `(tactic| walk_at "19") => `(tactic| (with_reducible refine k_andV ?_))
local macro_rules | `(tactic| walk_at "21") => `(tactic| (with_reducible refine k_notV ?_))
local macro_rules | `(tactic| walk_at "22") => `(tactic| (with_reducible refine k_ife ?_))
local macro_rules | `(tactic| walk_at "25") => `(tactic| (with_reducible refine k_fld ?_))
local macro_rules | `(tactic| walk_at "26") => `(tactic| (with_reducible refine k_sfld ?_))
local macro_rules | `(tactic| walk_at "28") => `(tactic| (with_reducible refine k_din ?_))
local macro_rules | `(tactic| walk_at "29") => `(tactic| (with_reducible refine k_dput ?_))
local macro_rules | `(tactic| walk_at "31") => `(tactic| (with_reducible refine k_make ?_))
local macro_rules | `(tactic| walk_at "33") => `(tactic| (with_reducible refine k_bm0 ?_))
local macro_rules | `(tactic| walk_at "34") => `(tactic| (with_reducible refine k_lst0 ?_))
local macro_rules | `(tactic| walk_at "35") => `(tactic| (with_reducible refine k_tup0 ?_))
local macro_rules | `(tactic| walk_at "36") => `(tactic| (with_reducible refine k_bm ?_))
local macro_rules | `(tactic| walk_at "37") => `(tactic| (with_reducible refine k_for ?_))
local macro_rules | `(tactic| walk_at "38") => `(tactic| (with_reducible refine k_ilist ?_))
local macro_rules | `(tactic| walk_at "39") => `(tactic| (with_reducible refine k_itup ?_))
local macro_rules | `(tactic| walk_at "42") => `(tactic| (with_reducible refine k_irng1 ?_))
local macro_rules | `(tactic| walk_at "46") => `(tactic| (with_reducible refine v_isi_str ?_))
local macro_rules | `(tactic| walk_at "48") => `(tactic| (with_reducible refine k_sl ?_))
local macro_rules | `(tactic| walk_at "49") => `(tactic| (with_reducible refine k_nopart ?_))
local macro_rules | `(tactic| walk_at "50") => `(tactic| (with_reducible refine k_part ?_))
local macro_rules | `(tactic| walk_at "51") => `(tactic| (with_reducible refine k_lcl ?_))
local macro_rules | `(tactic| walk_at "55") => `(tactic| (with_reducible refine v_I0 ?_))
local macro_rules | `(tactic| walk_at "56") => `(tactic| (with_reducible refine v_plus_int ?_))
local macro_rules | `(tactic| walk_at "57") => `(tactic| (with_reducible refine v_int ?_))
local macro_rules | `(tactic| walk_at "58") => `(tactic| (with_reducible refine v_neg ?_))
local macro_rules | `(tactic| walk_at "67") => `(tactic| (with_reducible refine v_isi_int ?_))
local macro_rules | `(tactic| walk_at "68") => `(tactic| (with_reducible refine v_isi_intB ?_))
local macro_rules | `(tactic| walk_at "69") => `(tactic| (((with_reducible refine' k_var ?hv ?_); case hv => exact rfl)))
local macro_rules | `(tactic| walk_at "70") => `(tactic| (((with_reducible refine' v_I ?hc ?_); case hc => first | (show (0 : Int) < _; first | decide | omega | assumption) | exact ⟨by decide, by decide⟩ | exact ⟨by decide, by decide, by decide⟩ | exact ⟨by omega, by decide⟩)))
local macro_rules | `(tactic| walk_at "72") => `(tactic| (((with_reducible refine' u_times_int ?hc ?_); case hc => first | exact .inr ⟨by decide, by decide⟩ | exact .inl ⟨by decide, by decide⟩ | exact .inr ⟨by omega, by omega⟩ | exact .inl ⟨by omega, by omega⟩)))
local macro_rules | `(tactic| walk_at "75") => `(tactic| (((with_reducible refine' v_eqU ?hc ?_); case hc => exact rfl)))
local macro_rules | `(tactic| walk_at "76") => `(tactic| (((with_reducible refine' v_neU ?hc ?_); case hc => exact rfl)))
local macro_rules | `(tactic| walk_at "77") => `(tactic| (((with_reducible refine' v_len_l ?hc ?_); case hc => first | assumption | exact sql (by assumption))))
local macro_rules | `(tactic| walk_at "79") => `(tactic| (((with_reducible refine' v_ix_l ?hs ?ha ?_); (case hs => first | assumption | exact sql (by assumption)); (case ha => assumption))))
local macro_rules | `(tactic| walk_at "82") => `(tactic| (((with_reducible refine' v_new ?hz ?_); case hz => first | decide | (simp only [List.length_cons, List.length_nil]; decide))))
local macro_rules | `(tactic| walk_at "83") => `(tactic| (((with_reducible refine' v_newT ?hz ?_); case hz => first | decide | (simp only [List.length_cons, List.length_nil]; decide))))
local macro_rules | `(tactic| walk_at "88") => `(tactic| (with_reducible refine' ⟨_, rfl, ?_⟩))
local macro_rules | `(tactic| walk_at "89") => `(tactic| (refine k_no ?_))
local macro_rules | `(tactic| walk_at "90") => `(tactic| (refine k_yes ?_))
local macro_rules | `(tactic| walk_at "91") => `(tactic| (((with_reducible refine' v_ix_t ?hs ?ha ?_); (case hs => assumption); (case ha => assumption))))
section
variable {P : Program} {w : World} {K : PySem.W.Frag} {mg : Str → Option Value} {base : Heap}
theorem ok_is_whole (T : TopW w P K mg) : FnOk P w K mg base CX0 1 T.f_is_whole T.fd_is_whole ["value"] (sp_is_whole T) := by
  refine T.F_is_whole.ok sc_is_whole (fun vs H Q E h => ?_) (fun cdv A outer s H vs Q E hr h => ?_)
  · obtain ⟨i, rfl, q⟩ := h
    rfl
  · obtain ⟨i, rfl, q⟩ := h
    refine ⟨_, (pss_one (ps_ret (pe_and (pe_callB (r := rIsi K) call_isi (by rfl) T.n_isinstance PyProof.Rows.boot_isinstance (pa_cons (pv 0) (pa_cons (pe_bltn (v := .ty "int") (by rfl) T.n_int (by decide +kernel) rfl) pa_nil))) (pe_one (pe_not (pe_callB (r := rIsi K) call_isi (by rfl) T.n_isinstance PyProof.Rows.boot_isinstance (pa_cons (pv 0) (pa_cons (pe_bltn (v := .ty "bool") (by rfl) T.n_bool (by decide +kernel) rfl) pa_nil)))))))), ?_⟩
    walk_at "2"
    walk_at "19"
    walk_at "11"
    walk_at "9"
    walk_at "69"
    walk_at "9"
    walk_at "7"
    walk_at "10"
    walk_at "67"
    walk_at "88"
    walk_at "90"
    walk_at "21"
    walk_at "11"
    walk_at "9"
    walk_at "69"
    walk_at "9"
    walk_at "7"
    walk_at "10"
    walk_at "68"
    walk_at "88"
    exact q


theorem ok_Paper___init__ (T : TopW w P K mg) : FnOk P w K mg base CX0 1 T.f_Paper___init__ T.fd_Paper___init__ ["self", "steps"] (sp_Paper___init__ T) := by
  refine T.F_Paper___init__.ok sc_Paper___init__ (fun vs H Q E h => ?_) (fun cdv A outer s H vs Q E hr h => ?_)
  · obtain ⟨a, dx, v, ds, rfl, hA, hv, hl, q⟩ := h
    rfl
  · obtain ⟨a, dx, v, ds, rfl, hA, hv, hl, q⟩ := h
    refine ⟨_, (pss_one (ps_fld (pv 0) (pe_callTy (r := rTup K) call_tupU (by rfl) T.n_tuple (by decide +kernel) (pa_cons (pv 1) pa_nil)) rfl)), ?_⟩
    walk_at "26"
    walk_at "11"
    walk_at "9"
    walk_at "69"
    walk_at "10"
    have key : ∀ (s : V) (H1 : Hp), Xt H H1 → Dp K H1 s (.tuple ds) → Q .non (upd H1 a (.ins T.C_Paper dx (putF "steps" s []))) := fun s H1 x1 hs => q _ (xa_tr (xa_of x1) xa_upd) ⟨dx, s, upd_same, dpa (x1 _ _ hA) xa_upd hs⟩
    rcases hv with hv | hv
    · refine d_tupl hv fun s1 H1 x1 hs1 => ?_
      walk_at "69"
      refine v_sfld (x1 _ _ hA) T.cl_Paper T.na_Paper_steps (by decide) ?_
      skip
      exact key s1 H1 x1 hs1
    · refine d_tupt hv ?_
      walk_at "69"
      refine v_sfld hA T.cl_Paper T.na_Paper_steps (by decide) ?_
      skip
      exact key v H (xrefl H) hv


theorem ok__step_key (T : TopW w P K mg) : FnOk P w K mg base CX0 1 T.f__step_key T.fd__step_key ["step"] (sp__step_key T) := by
  refine T.F__step_key.ok sc__step_key (fun vs H Q E h => ?_) (fun cdv A outer s H vs Q E hr h => ?_)
  · obtain ⟨v, s, rfl, hv, hw, q⟩ := h
    rfl
  · obtain ⟨v, s, rfl, hv, hw, q⟩ := h
    refine ⟨_, (pss_cons (ps_set (i := 1) sc__step_key.nd rfl (Or.inl rfl) (pe_lst pa_nil))
      (pss_cons (ps_set (i := 2) sc__step_key.nd rfl (Or.inl rfl) (pe_lst (pa_cons (pv 0) pa_nil)))
      (pss_cons (ps_while PassesOwn.never (pt_truth (pv 2) (by intro _; rfl)) (pss_cons (ps_set (i := 3) sc__step_key.nd rfl (Or.inl rfl) (pe_bm0 PySem.F.plainAttrs_list PySem.F.slot_list_pop PySem.F.type_list_pop mt_pop (pv 2)))
      (pss_one (ps_if (pt_val (pe_callB (r := rIsi K) call_isi (by rfl) T.n_isinstance PyProof.Rows.boot_isinstance (pa_cons (pv 3) (pa_cons (pe_bltn (v := .ty "tuple") (by rfl) T.n_tuple (by decide +kernel) rfl) pa_nil)))) (pss_cons (ps_expr (pe_bm PySem.F.plainAttrs_list PySem.F.slot_list_append PySem.F.type_list_append mt_append (pv 1) (pa_cons (pe_tup (pa_cons (pe_callB (r := rLenU K) call_lenU (by rfl) T.n_len PySem.boot_len (pa_cons (pv 3) pa_nil)) pa_nil)) pa_nil)))
      (pss_one (ps_expr (pe_bm PySem.F.plainAttrs_list PySem.F.slot_list_extend PySem.F.type_list_extend mt_extU (pv 2) (pa_cons (pe_revT (pv 3)) pa_nil))))) (pss_one (ps_expr (pe_bm PySem.F.plainAttrs_list PySem.F.slot_list_append PySem.F.type_list_append mt_append (pv 1) (pa_cons (pv 3) pa_nil))))))))
      (pss_one (ps_ret (pe_callTy (r := rTup K) call_tupU (by rfl) T.n_tuple (by decide +kernel) (pa_cons (pv 1) pa_nil))))))), ?_⟩
    have has := wf_as hw
    have hfl := wf_fl hw
    have hkey : keyD s = .tuple (flatD (toD s)) := rfl
    rw [hkey] at q
    generalize toD s = d at *
    walk_at "0"
    walk_at "1"
    walk_at "34"
    walk_at "10"
    walk_at "82"
    intro p H1 n1 x1 e1
    walk_at "6"
    walk_at "0"
    walk_at "1"
    walk_at "34"
    walk_at "9"
    walk_at "69"
    walk_at "10"
    walk_at "82"
    intro l H2 n2 x2 e2
    walk_at "6"
    walk_at "0"
    have npl : p ≠ l := fun h => by rw [h, n2] at e1; cases e1
    have nl : H l = none := xfree x1 n2
    have x12 := xtr x1 x2
    refine ⟨fun m σ' H' => ∃ y3 fs ws, ∃ F es : List PyData, σ' = [some v, some (.ref p), some (.ref l), y3] ∧ Xt H H' ∧ H' p = some (.lst fs) ∧ H' l = some (.lst ws) ∧ DpAll K H' fs F ∧ DpAll K H' ws es ∧ ImAll F = true ∧ AsAll es = true ∧ F ++ flatAll es.reverse = flatD d ∧ (flatAll es).length = m, ⟨_, none, [], [v], [], [d], rfl, x12, x2 _ _ e1, e2, .nil, .cons (Dp.mono x12 hv) .nil, rfl, ?_, ?_, rfl⟩, ?_⟩
    · rw [AsAll, has, AsAll]; rfl
    · show [] ++ flatAll [d] = _
      rw [flatAll, flatAll, List.nil_append, List.append_nil]
    rintro m σ' H' ⟨y3, fs, ws, F, es, rfl, xx, ep, el, hF, hes, imF, ase, hap, hm⟩
    walk_at "69"
    refine ⟨!ws.isEmpty, .inl ⟨ws, sql el, rfl⟩, ?_⟩
    rcases List.eq_nil_or_concat es with rfl | ⟨L, c, hpe⟩
    · have := DpAll.nil_inv hes
      subst this
      walk_at "89"
      walk_at "2"
      walk_at "11"
      walk_at "9"
      walk_at "69"
      walk_at "10"
      have hap : F ++ [] = flatD d := hap
      rw [List.append_nil] at hap
      subst hap
      refine d_tupl (.of_lst ep hF) fun w H3 x3 hw3 => ?_
      obtain ⟨b, xs, rfl, hS, hd⟩ := Dp.tup_inv hw3
      exact q b H3 (xtr xx x3) hw3
    rw [List.concat_eq_append] at hpe
    subst hpe
    obtain ⟨ws', wv, rfl, hL, hwv⟩ := DpAll.snoc_inv hes
    rw [show (!(ws' ++ [wv]).isEmpty) = true by simp]
    refine iteT ⟨fun σ' H' => ∃ m', m' < m ∧ ∃ y3 fs ws, ∃ F es : List PyData, σ' = [some v, some (.ref p), some (.ref l), y3] ∧ Xt H H' ∧ H' p = some (.lst fs) ∧ H' l = some (.lst ws) ∧ DpAll K H' fs F ∧ DpAll K H' ws es ∧ ImAll F = true ∧ AsAll es = true ∧ F ++ flatAll es.reverse = flatD d ∧ (flatAll es).length = m', fun _ _ h => h, ?_⟩
    obtain ⟨asL, asc⟩ := asAll_app.mp ase
    have asc : AsD c = true := by rw [AsAll, AsAll, Bool.and_true] at asc; exact asc
    have imL : ImAll L = true := imAll_iff.mpr fun e he => as_im (asAll_iff.mp asL e he)
    have imc : Im c = true := as_im asc
    rw [flatAll_app, List.length_append] at hm
    have hm : (flatAll L).length + (flatAll [c]).length = m := hm
    have hc1 : flatAll [c] = flatD c := by rw [flatAll, flatAll, List.append_nil]
    rw [hc1] at hm
    rw [List.reverse_append] at hap
    have hap : F ++ flatAll (c :: L.reverse) = flatD d := hap
    rw [flatAll, ← List.append_assoc] at hap
    have hlen := congrArg List.length hap
    rw [List.length_append, List.length_append, flatAll_rev] at hlen
    have hLl := flatAll_len L
    have hcp := flatD_pos c
    have hFl := hF.len
    have hwl := hL.len
    walk_at "0"
    walk_at "1"
    walk_at "33"
    walk_at "69"
    refine ⟨ty_l el, v_pop el ?_⟩
    have x5 : Xt H (upd H' l (.lst ws')) := xmut xx nl
    have hL5 : DpAll K (upd H' l (.lst ws')) ws' L := DpAll.im (fun _ _ h => SqT.upd el h) imL hL
    have hF5 : DpAll K (upd H' l (.lst ws')) fs F := DpAll.im (fun _ _ h => SqT.upd el h) imF hF
    have hw5 : Dp K (upd H' l (.lst ws')) wv c := Dp.im (fun _ _ h => SqT.upd el h) imc hwv
    have hp5 : (upd H' l (.lst ws')) p = some (.lst fs) := by rw [upd_ne npl]; exact ep
    have hl5 : (upd H' l (.lst ws')) l = some (.lst ws') := upd_same
    generalize upd H' l (.lst ws') = H5 at x5 hL5 hF5 hw5 hp5 hl5
    walk_at "6"
    walk_at "4"
    walk_at "15"
    walk_at "11"
    walk_at "9"
    walk_at "69"
    walk_at "9"
    walk_at "7"
    walk_at "10"
    refine d_isTup hw5 imc ?_
    walk_at "88"
    rcases flat_split (d := c) with ht | ⟨cs, rfl⟩
    · have hfc := flat_leaf ht
      have ht2 : isTupD c = false := by cases c <;> first | rfl | cases ht
      rw [hfc] at hap hm
      rw [ht2]
      walk_at "89"
      walk_at "3"
      walk_at "36"
      walk_at "69"
      refine ⟨ty_l hp5, ?_⟩
      walk_at "9"
      walk_at "69"
      walk_at "10"
      refine v_app hp5 (by omega) ?_
      skip
      have hm : (flatAll L).length + 1 = m := hm
      refine ⟨(flatAll L).length, by omega, _, _, _, F ++ [c], L, rfl, xmut x5 (xfree (xrefl H) n1), upd_same, by rw [upd_ne npl.symm]; exact hl5, DpAll.app (DpAll.im (fun _ _ h => SqT.upd hp5 h) imF hF5) (.cons (Dp.im (fun _ _ h => SqT.upd hp5 h) imc hw5) .nil), DpAll.im (fun _ _ h => SqT.upd hp5 h) imL hL5, ?_, asL, hap, rfl⟩
      refine imAll_iff.mpr fun e he => ?_
      rcases List.mem_append.mp he with he | he
      · exact imAll_iff.mp imF e he
      · rw [List.mem_singleton.mp he]; exact imc
    · have ascs : AsAll cs = true := by rw [AsD] at asc; exact asc
      have imcs : ImAll cs = true := imAll_iff.mpr fun e he => as_im (asAll_iff.mp ascs e he)
      have hfc : flatD (.tuple cs) = .tuple [.int (cs.length : Nat)] :: flatAll cs := by rw [flatD]
      rw [hfc] at hap hm hlen
      rw [List.length_cons] at hm hlen
      have hcl := flatAll_len cs
      rw [show isTupD (.tuple cs) = true from rfl]
      walk_at "90"
      walk_at "0"
      walk_at "3"
      walk_at "36"
      walk_at "69"
      refine ⟨ty_l hp5, ?_⟩
      walk_at "9"
      walk_at "35"
      walk_at "9"
      walk_at "11"
      walk_at "9"
      walk_at "69"
      walk_at "10"
      refine d_len hw5 ?_
      walk_at "10"
      walk_at "83"
      intro t H6 n6 x6 e6
      have hp6 := x6 _ _ hp5
      walk_at "10"
      refine v_app hp6 (by omega) ?_
      have ht6 : Dp K H6 (.ref t) (.tuple [.int (cs.length : Nat)]) := .of_tup e6 (.cons (.int _) .nil)
      have x7 : Xt H (upd H6 p (.lst (fs ++ [.ref t]))) := xmut (xtr x5 x6) n1
      have hF7 : DpAll K (upd H6 p (.lst (fs ++ [.ref t]))) (fs ++ [.ref t]) (F ++ [.tuple [.int (cs.length : Nat)]]) := DpAll.app (DpAll.im (fun _ _ h => SqT.upd hp6 h) imF (DpAll.mono x6 hF5)) (.cons (Dp.im (fun _ _ h => SqT.upd hp6 h) rfl ht6) .nil)
      have hL7 : DpAll K (upd H6 p (.lst (fs ++ [.ref t]))) ws' L := DpAll.im (fun _ _ h => SqT.upd hp6 h) imL (DpAll.mono x6 hL5)
      have hw7 : Dp K (upd H6 p (.lst (fs ++ [.ref t]))) wv (.tuple cs) := Dp.im (fun _ _ h => SqT.upd hp6 h) imc (Dp.mono x6 hw5)
      have hp7 : (upd H6 p (.lst (fs ++ [.ref t]))) p = some (.lst (fs ++ [.ref t])) := upd_same
      have hl7 : (upd H6 p (.lst (fs ++ [.ref t]))) l = some (.lst ws') := by rw [upd_ne npl.symm]; exact x6 _ _ hl5
      generalize upd H6 p (.lst (fs ++ [.ref t])) = H7 at x7 hF7 hL7 hw7 hp7 hl7
      walk_at "3"
      walk_at "36"
      walk_at "69"
      refine ⟨ty_l hl7, ?_⟩
      walk_at "9"
      refine k_rt ?_
      walk_at "69"
      refine d_rt hw7 fun pr H8 xs n8 x8 e8 hxs => ?_
      have hl8 := x8 _ _ hl7
      have hp8 := x8 _ _ hp7
      have hxl := hxs.len
      rw [List.length_reverse] at hxl
      walk_at "10"
      refine v_extT hl8 (sqt e8) (by omega) ?_
      skip
      have imF2 : ImAll (F ++ [.tuple [.int (cs.length : Nat)]]) = true := imAll_iff.mpr fun e he => by
        rcases List.mem_append.mp he with he | he
        · exact imAll_iff.mp imF e he
        · rw [List.mem_singleton.mp he]; rfl
      have imr : ImAll cs.reverse = true := imAll_iff.mpr fun e he => imAll_iff.mp imcs e (List.mem_reverse.mp he)
      refine ⟨(flatAll (L ++ cs.reverse)).length, ?_, _, _, _, F ++ [.tuple [.int (cs.length : Nat)]], L ++ cs.reverse, rfl, xmut (xtr x7 x8) nl, by rw [upd_ne npl]; exact hp8, upd_same, DpAll.im (fun _ _ h => SqT.upd hl8 h) imF2 (DpAll.mono x8 hF7), DpAll.app (DpAll.im (fun _ _ h => SqT.upd hl8 h) imL (DpAll.mono x8 hL7)) (DpAll.im (fun _ _ h => SqT.upd hl8 h) imr hxs), imF2, asAll_app.mpr ⟨asL, asAll_iff.mpr fun e he => asAll_iff.mp ascs e (List.mem_reverse.mp he)⟩, ?_, rfl⟩
      · rw [flatAll_app, List.length_append, flatAll_rev]; omega
      · rw [List.reverse_append, List.reverse_reverse, flatAll_app, ← hap]
        simp only [List.append_assoc, List.cons_append, List.nil_append]


theorem ok__law_cell (T : TopW w P K mg) : FnOk P w K mg base CX0 1 T.f__law_cell T.fd__law_cell ["script", "k"] (sp__law_cell T) := by
  refine T.F__law_cell.ok sc__law_cell (fun vs H Q E h => ?_) (fun cdv A outer s H vs Q E hr h => ?_)
  · obtain ⟨l, ns, k, rfl, hS, hn, hk, q⟩ := h
    rfl
  · obtain ⟨l, ns, k, rfl, hS, hn, hk, q⟩ := h
    refine ⟨_, (pss_cons (ps_if (pt_cmpR op_lt (pv 1) (pe_callB (r := rLenU K) call_lenU (by rfl) T.n_len PySem.boot_len (pa_cons (pv 0) pa_nil)) (nomark _)) (pss_one (ps_ret (pe_ix (r := rIx K) ix_seq (pv 0) (pv 1) (fun _ _ => rfl)))) pss_nil)
      (pss_cons (ps_set (i := 2) sc__law_cell.nd rfl (Or.inl rfl) pe_int)
      (pss_cons (ps_for PassesOwn.never rfl (pi_list (pv 0)) (pg_name (i := 3) sc__law_cell.nd rfl (Or.inl rfl)) (pss_one (ps_set (i := 2) sc__law_cell.nd rfl (Or.inl rfl) (pe_op op_mod (pe_callTy call_intU (by rfl) T.n_int PyProof.Rows.boot_int (pa_cons (pe_op (r := rPlus K) op_plus (pe_op op_timesU (pv 2) pe_int) (pe_op op_mod (pe_callTy call_intU (by rfl) T.n_int PyProof.Rows.boot_int (pa_cons (pv 3) pa_nil)) pe_int)) pa_nil)) pe_int))))
      (pss_one (ps_ret (pe_op op_mod (pe_callTy call_intU (by rfl) T.n_int PyProof.Rows.boot_int (pa_cons (pe_op op_timesU (pe_op op_timesU (pe_op (r := rPlus K) op_plus (pv 2) pe_int) (pe_op (r := rPlus K) op_plus (pv 1) pe_int)) pe_int) pa_nil)) pe_int)))))), ?_⟩
    walk_at "0"
    walk_at "4"
    walk_at "14"
    walk_at "8"
    walk_at "69"
    walk_at "11"
    walk_at "9"
    walk_at "69"
    walk_at "10"
    walk_at "77"
    walk_at "55"
    walk_at "88"
    refine k_if (fun hlt => ?_) (fun hge => ?_)
    · rw [List.length_map] at hlt
      obtain ⟨n, e, _⟩ := atI_int (ns := ns) (i := k) hk.1 hlt
      walk_at "2"
      walk_at "8"
      walk_at "69"
      walk_at "69"
      walk_at "79"
      exact q n
    · walk_at "5"
      walk_at "0"
      walk_at "1"
      walk_at "7"
      walk_at "6"
      walk_at "0"
      walk_at "37"
      walk_at "38"
      walk_at "69"
      walk_at "88"
      refine ⟨⟨_, hS⟩, for_list (xs := ns.map V.int) (fun i σ' H' => ∃ sd y, σ' = [some (.ref l), some (.int k), some (.int sd), y] ∧ 0 ≤ sd ∧ sd < 1000003 ∧ H' = H) ⟨17, none, rfl, by decide, by decide, rfl⟩ ?_ ?_ ?_⟩
      · rintro i σ' H' hi ⟨sd, y, rfl, h1, h2, rfl⟩
        exact hS
      · rintro i x σ' H' hx ⟨sd, y, rfl, h1, h2, rfl⟩
        obtain ⟨n, rfl, _⟩ := map_int_at hx
        walk_at "6"
        walk_at "1"
        walk_at "8"
        walk_at "11"
        walk_at "9"
        walk_at "8"
        walk_at "8"
        walk_at "69"
        walk_at "7"
        walk_at "72"
        walk_at "8"
        walk_at "11"
        walk_at "9"
        walk_at "69"
        walk_at "10"
        walk_at "57"
        walk_at "7"
        walk_at "70"
        walk_at "56"
        walk_at "10"
        walk_at "57"
        walk_at "7"
        walk_at "70"
        walk_at "6"
        exact ⟨_, _, rfl, by omega, by omega, rfl⟩
      · rintro σ' H' ⟨sd, y, rfl, h1, h2, rfl⟩
        walk_at "2"
        walk_at "8"
        walk_at "11"
        walk_at "9"
        walk_at "8"
        walk_at "8"
        walk_at "8"
        walk_at "69"
        walk_at "7"
        walk_at "56"
        walk_at "8"
        walk_at "69"
        walk_at "7"
        walk_at "56"
        walk_at "72"
        walk_at "7"
        walk_at "72"
        walk_at "10"
        walk_at "57"
        walk_at "7"
        walk_at "70"
        exact q _



theorem ok__law_digits (T : TopW w P K mg) : FnOk P w K mg base CX0 1 T.f__law_digits T.fd__law_digits ["cell", "sizes"] (sp__law_digits T) := by
  refine T.F__law_digits.ok sc__law_digits (fun vs H Q E h => ?_) (fun cdv A outer s H vs Q E hr h => ?_)
  · obtain ⟨c, a, ss, rfl, hS, hl, hb, q⟩ := h
    rfl
  · obtain ⟨c, a, ss, rfl, hS, hl, hb, q⟩ := h
    refine ⟨_, (pss_cons (ps_set (i := 2) sc__law_digits.nd rfl (Or.inl rfl) (pe_lst pa_nil))
      (pss_cons (ps_set (i := 3) sc__law_digits.nd rfl (Or.inl rfl) (pe_callTy call_intU (by rfl) T.n_int PyProof.Rows.boot_int (pa_cons (pv 0) pa_nil)))
      (pss_cons (ps_if (pt_cmpR op_ge (pv 3) (pe_op op_pow pe_int pe_int) (nomark _)) (pss_cons (ps_set (i := 3) sc__law_digits.nd rfl (Or.inl rfl) (pe_op op_sub (pv 3) (pe_op op_pow pe_int pe_int)))
      (pss_cons (ps_for PassesOwn.never rfl (pi_list (pv 1)) (pg_name (i := 4) sc__law_digits.nd rfl (Or.inl rfl)) (pss_cons (ps_expr (pe_bm PySem.F.plainAttrs_list PySem.F.slot_list_append PySem.F.type_list_append mt_append (pv 2) (pa_cons (pe_op op_mod (pe_callTy call_intU (by rfl) T.n_int PyProof.Rows.boot_int (pa_cons (pv 3) pa_nil)) (pv 4)) pa_nil)))
      (pss_one (ps_set (i := 3) sc__law_digits.nd rfl (Or.inl rfl) (pe_op op_fdivW (pe_callTy call_intU (by rfl) T.n_int PyProof.Rows.boot_int (pa_cons (pv 3) pa_nil)) (pv 4))))))
      (pss_one (ps_ret (pv 2))))) pss_nil)
      (pss_cons (ps_set (i := 5) sc__law_digits.nd rfl (Or.inl rfl) (pe_op op_mod (pe_callTy call_intU (by rfl) T.n_int PyProof.Rows.boot_int (pa_cons (pv 3) pa_nil)) pe_int))
      (pss_cons (ps_for PassesOwn.never rfl (pi_range1 (by rfl) T.n_range (pa_cons (pe_callB (r := rLenU K) call_lenU (by rfl) T.n_len PySem.boot_len (pa_cons (pv 1) pa_nil)) pa_nil)) (pg_name (i := 6) sc__law_digits.nd rfl (Or.inl rfl)) (pss_cons (ps_set (i := 5) sc__law_digits.nd rfl (Or.inl rfl) (pe_op op_mod (pe_callTy call_intU (by rfl) T.n_int PyProof.Rows.boot_int (pa_cons (pe_op (r := rPlus K) op_plus (pe_op (r := rPlus K) op_plus (pe_op op_timesU (pv 5) pe_int) (pe_op op_timesU pe_int (pv 6))) pe_int) pa_nil)) pe_int))
      (pss_cons (ps_set (i := 7) sc__law_digits.nd rfl (Or.inl rfl) (pe_op op_mod (pe_callTy call_intU (by rfl) T.n_int PyProof.Rows.boot_int (pa_cons (pe_op op_timesU (pv 5) (pe_op (r := rPlus K) op_plus (pe_op op_fdivW (pv 5) pe_int) pe_int)) pa_nil)) pe_int))
      (pss_one (ps_expr (pe_bm PySem.F.plainAttrs_list PySem.F.slot_list_append PySem.F.type_list_append mt_append (pv 2) (pa_cons (pe_op op_mod (pe_op op_fdivW (pv 7) pe_int) (pe_ix (r := rIx K) ix_seq (pv 1) (pv 6) (fun _ _ => rfl))) pa_nil)))))))
      (pss_one (ps_ret (pv 2)))))))), ?_⟩
    walk_at "0"
    walk_at "1"
    walk_at "34"
    walk_at "10"
    walk_at "82"
    intro o H1 no x1 eo
    walk_at "6"
    walk_at "0"
    walk_at "1"
    walk_at "11"
    walk_at "9"
    walk_at "69"
    walk_at "10"
    walk_at "57"
    walk_at "6"
    walk_at "0"
    walk_at "4"
    walk_at "14"
    walk_at "8"
    walk_at "69"
    walk_at "8"
    walk_at "7"
    walk_at "7"
    walk_at "70"
    walk_at "55"
    walk_at "88"
    refine k_if (fun hge => ?_) (fun hlt => ?_)
    · walk_at "0"
      walk_at "1"
      walk_at "8"
      walk_at "69"
      walk_at "8"
      walk_at "7"
      walk_at "7"
      walk_at "70"
      walk_at "55"
      walk_at "6"
      walk_at "0"
      walk_at "37"
      walk_at "38"
      walk_at "69"
      walk_at "88"
      refine ⟨⟨_, xl x1 hS⟩, for_list (xs := ss.map V.int) (fun i σ' H' => ∃ (rest : Int) (y : Option V) (ds : List Int), σ' = [some (.int c), some (.ref a), some (.ref o), some (.int rest), y, none, none, none] ∧ i ≤ ss.length ∧ Xt H H' ∧ H' o = some (.lst (ds.map V.int)) ∧ DigOk ds (ss.take i)) ⟨_, none, [], rfl, Nat.zero_le _, x1, eo, DigOk.nil⟩ ?_ ?_ ?_⟩
      · rintro i σ' H' hi ⟨rest, y, ds, rfl, hi2, x2, e2, hd⟩
        exact xl x2 hS
      · rintro i x σ' H' hx ⟨rest, y, ds, rfl, hi2, x2, e2, hd⟩
        obtain ⟨n, rfl, hn⟩ := map_int_at hx
        have hb2 := hb n (List.mem_of_getElem? hn)
        have hi3 : i < ss.length := (List.getElem?_eq_some_iff.mp hn).1
        have hdl : ds.length = i := by rw [hd.1, List.length_take]; omega
        walk_at "6"
        walk_at "0"
        walk_at "3"
        walk_at "36"
        walk_at "69"
        refine ⟨ty_l e2, ?_⟩
        walk_at "9"
        walk_at "8"
        walk_at "11"
        walk_at "9"
        walk_at "69"
        walk_at "10"
        walk_at "57"
        walk_at "69"
        walk_at "70"
        walk_at "10"
        refine v_app e2 (by rw [List.length_map]; omega) ?_
        walk_at "1"
        walk_at "8"
        walk_at "11"
        walk_at "9"
        walk_at "69"
        walk_at "10"
        walk_at "57"
        walk_at "69"
        refine v_I (wide_div (b := 30) hb2.1 (by omega) (by decide) (by decide)) ?_
        walk_at "6"
        refine ⟨_, _, ds ++ [rest % n], rfl, hi3, xmut x2 no, ?_, hd.snoc hn (Int.emod_nonneg _ (by omega)) (Int.emod_lt_of_pos _ hb2.1)⟩
        rw [upd_same, List.map_append]
        rfl
      · rintro σ' H' ⟨rest, y, ds, rfl, hi2, x2, e2, hd⟩
        walk_at "2"
        walk_at "69"
        rw [List.length_map, List.take_length] at hd
        exact q o H' ds x2 e2 hd
    · walk_at "5"
      walk_at "0"
      walk_at "1"
      walk_at "8"
      walk_at "11"
      walk_at "9"
      walk_at "69"
      walk_at "10"
      walk_at "57"
      walk_at "7"
      walk_at "70"
      walk_at "6"
      walk_at "0"
      walk_at "37"
      walk_at "42"
      walk_at "9"
      walk_at "11"
      walk_at "9"
      walk_at "69"
      walk_at "10"
      refine v_len_l (xl x1 hS) ?_
      walk_at "10"
      walk_at "88"
      rw [List.length_map]
      refine ⟨by omega, by omega, ?_⟩
      rw [Int.toNat_natCast]
      refine for_range (lo := 0) (n := ss.length) (fun i σ' H' => ∃ (rest sd : Int) (y z : Option V) (ds : List Int), σ' = [some (.int c), some (.ref a), some (.ref o), some (.int rest), none, some (.int sd), y, z] ∧ i ≤ ss.length ∧ (0 ≤ sd ∧ sd < 2147483647) ∧ Xt H H' ∧ H' o = some (.lst (ds.map V.int)) ∧ DigOk ds (ss.take i)) ⟨_, _, none, none, [], rfl, Nat.zero_le _, ⟨by omega, by omega⟩, x1, eo, DigOk.nil⟩ ?_ ?_
      · rintro i σ' H' hi ⟨rest, sd, y, z, ds, rfl, hi2, ⟨h1, h2⟩, x2, e2, hd⟩
        obtain ⟨n, hn⟩ : ∃ n, ss[i]? = some n := ⟨_, List.getElem?_eq_getElem hi⟩
        have hb2 := hb n (List.mem_of_getElem? hn)
        have hdl : ds.length = i := by rw [hd.1, List.length_take]; omega
        have ha : atI (ss.map V.int) (0 + (i : Int)) = some (.int n) := by
          rw [Int.zero_add]
          exact atI_nat (by rw [List.getElem?_map, hn]; rfl)
        walk_at "6"
        walk_at "0"
        walk_at "1"
        walk_at "8"
        walk_at "11"
        walk_at "9"
        walk_at "8"
        walk_at "8"
        walk_at "8"
        walk_at "69"
        walk_at "7"
        walk_at "72"
        walk_at "8"
        walk_at "7"
        walk_at "69"
        walk_at "72"
        walk_at "56"
        walk_at "7"
        walk_at "56"
        walk_at "10"
        walk_at "57"
        walk_at "7"
        walk_at "70"
        walk_at "6"
        walk_at "0"
        walk_at "1"
        walk_at "8"
        walk_at "11"
        walk_at "9"
        walk_at "8"
        walk_at "69"
        walk_at "8"
        walk_at "8"
        walk_at "69"
        walk_at "7"
        walk_at "70"
        walk_at "7"
        walk_at "56"
        walk_at "72"
        walk_at "10"
        walk_at "57"
        walk_at "7"
        walk_at "70"
        walk_at "6"
        walk_at "3"
        walk_at "36"
        walk_at "69"
        have h3 : 0 ≤ (sd * 48271 + 974711 * (0 + (i : Int)) + 12345) % 2147483647 := by omega
        have h4 : (sd * 48271 + 974711 * (0 + (i : Int)) + 12345) % 2147483647 < 2147483647 := by omega
        generalize (sd * 48271 + 974711 * (0 + (i : Int)) + 12345) % 2147483647 = sd2 at h3 h4 ⊢
        skip
        refine ⟨ty_l e2, ?_⟩
        walk_at "9"
        walk_at "8"
        walk_at "8"
        walk_at "69"
        walk_at "7"
        walk_at "70"
        walk_at "8"
        walk_at "69"
        walk_at "69"
        refine v_ix_l (xl x2 hS) ha ?_
        walk_at "70"
        walk_at "10"
        refine v_app e2 (by rw [List.length_map]; omega) ?_
        skip
        refine ⟨rest, _, _, _, ds ++ [sd2 * (sd2 / 65537 + 3) % 2147483629 / 19 % n], rfl, hi, ⟨h3, h4⟩, xmut x2 no, ?_, hd.snoc hn (Int.emod_nonneg _ (by omega)) (Int.emod_lt_of_pos _ hb2.1)⟩
        rw [upd_same, List.map_append]
        rfl
      · rintro σ' H' ⟨rest, sd, y, z, ds, rfl, hi2, ⟨h1, h2⟩, x2, e2, hd⟩
        walk_at "2"
        walk_at "69"
        rw [List.take_length] at hd
        exact q o H' ds x2 e2 hd



theorem ok__law_earlier (T : TopW w P K mg) : FnOk P w K mg base CX0 1 T.f__law_earlier T.fd__law_earlier ["k", "digit"] (sp__law_earlier T) := by
  refine T.F__law_earlier.ok sc__law_earlier (fun vs H Q E h => ?_) (fun cdv A outer s H vs Q E hr h => ?_)
  · obtain ⟨k, d, rfl, k1, k2, d0, d1, q⟩ := h
    rfl
  · obtain ⟨k, d, rfl, k1, k2, d0, d1, q⟩ := h
    refine ⟨_, (pss_cons (ps_if (pt_cmpR op_gt (pe_op op_mod (pv 1) pe_int) pe_int (nomark _)) (pss_one (ps_ret (pe_callB (r := Evl.rMax2) (call_max2 rfl) (by rfl) T.n_max PyProof.Rows.boot_max (pa_cons pe_int (pa_cons (pe_op op_sub (pe_op op_sub (pv 0) pe_int) (pe_op op_mod (pe_op op_fdivW (pv 1) pe_int) pe_int)) pa_nil))))) pss_nil)
      (pss_one (ps_ret (pe_op op_mod (pe_op op_fdivW (pv 1) pe_int) (pv 0))))), ?_⟩
    have key : ∀ n : Int, 0 ≤ n → n < (k : Int) → Q (.int n) H := fun n h0 h1 => by
      have := q n.toNat (by omega)
      rw [Int.toNat_of_nonneg h0] at this; exact this
    walk_at "0"
    walk_at "4"
    walk_at "14"
    walk_at "8"
    walk_at "8"
    walk_at "69"
    walk_at "7"
    walk_at "70"
    walk_at "7"
    walk_at "55"
    walk_at "88"
    refine k_if (fun h => ?_) (fun h => ?_)
    · walk_at "2"
      walk_at "11"
      walk_at "9"
      walk_at "7"
      walk_at "9"
      walk_at "8"
      walk_at "8"
      walk_at "69"
      walk_at "7"
      walk_at "55"
      walk_at "8"
      walk_at "8"
      walk_at "69"
      walk_at "7"
      walk_at "70"
      walk_at "7"
      walk_at "70"
      walk_at "55"
      walk_at "10"
      have e1 := Int.ediv_nonneg (a := d) (b := 4) d0 (by decide)
      have e2 := Int.emod_nonneg (d / 4) (b := 3) (by decide)
      refine ⟨_, _, rfl, ?_⟩
      split
      · exact key _ (by omega) (by omega)
      · exact key _ (by omega) (by omega)
    · have kp : (0 : Int) < (k : Int) := by omega
      walk_at "5"
      walk_at "2"
      walk_at "8"
      walk_at "8"
      walk_at "69"
      walk_at "7"
      walk_at "70"
      walk_at "69"
      walk_at "70"
      exact key _ (Int.emod_nonneg _ (by omega)) (Int.emod_lt_of_pos _ kp)


theorem ok__law_moved (T : TopW w P K mg) : FnOk P w K mg base CX0 1 T.f__law_moved T.fd__law_moved ["step", "numbers"] (sp__law_moved T) := by
  refine T.F__law_moved.ok sc__law_moved (fun vs H Q E h => ?_) (fun cdv A outer s H vs Q E hr h => ?_)
  · obtain ⟨v, a, s, f, xs, rfl, hv, hw, hs, hf, q⟩ := h
    rfl
  · obtain ⟨v, a, s, f, xs, rfl, hv, hw, hs, hf, q⟩ := h
    refine ⟨_, (pss_cons (ps_if (PW.pt (pw_or (pt_cmpR (r := rEqU K) (op_eqU hr) (pe_ix (r := rIx K) ix_seq (pv 0) pe_int (fun _ _ => rfl)) pe_str (nomark _)) (pw_or (pt_cmpR (r := rEqU K) (op_eqU hr) (pe_ix (r := rIx K) ix_seq (pv 0) pe_int (fun _ _ => rfl)) pe_str (nomark _)) (pw_or1 (pt_cmpR (r := rEqU K) (op_eqU hr) (pe_ix (r := rIx K) ix_seq (pv 0) pe_int (fun _ _ => rfl)) pe_str (nomark _)))))) (pss_one (ps_ret (pe_tup (pa_cons (pe_ix (r := rIx K) ix_seq (pv 0) pe_int (fun _ _ => rfl)) (pa_cons (pe_ix (r := rIx K) ix_seq (pv 1) (pe_ix (r := rIx K) ix_seq (pv 0) pe_int (fun _ _ => rfl)) (fun _ _ => rfl)) (pa_cons (pe_ix (r := rIx K) ix_seq (pv 0) pe_int (fun _ _ => rfl)) pa_nil)))))) pss_nil)
      (pss_cons (ps_if (pt_cmpR (r := rEqU K) (op_eqU hr) (pe_ix (r := rIx K) ix_seq (pv 0) pe_int (fun _ _ => rfl)) pe_str (nomark _)) (pss_one (ps_ret (pe_tup (pa_cons (pe_ix (r := rIx K) ix_seq (pv 0) pe_int (fun _ _ => rfl)) (pa_cons (pe_ix (r := rIx K) ix_seq (pv 1) (pe_ix (r := rIx K) ix_seq (pv 0) pe_int (fun _ _ => rfl)) (fun _ _ => rfl)) (pa_cons (pe_ix (r := rIx K) ix_seq (pv 0) pe_int (fun _ _ => rfl)) (pa_cons (pe_ix (r := rIx K) ix_seq (pv 0) pe_int (fun _ _ => rfl)) (pa_cons (pe_ix (r := rIx K) ix_seq (pv 1) (pe_ix (r := rIx K) ix_seq (pv 0) pe_int (fun _ _ => rfl)) (fun _ _ => rfl)) (pa_cons (pe_ix (r := rIx K) ix_seq (pv 0) pe_int (fun _ _ => rfl)) (pa_cons (pe_ix (r := rIx K) ix_seq (pv 0) pe_int (fun _ _ => rfl)) pa_nil)))))))))) pss_nil)
      (pss_one (ps_ret (pv 0))))), ?_⟩
    cases s with
    | base d =>
      obtain ⟨k, ds, rfl, hk⟩ := base_shape hw
      obtain ⟨n1, n2, n3, n4⟩ := base_not hk
      have hv : Dp K H v (.tuple (.str k :: ds)) := hv
      walk_at "0"
      walk_at "4"
      walk_at "18"
      walk_at "14"
      walk_at "8"
      walk_at "8"
      walk_at "69"
      walk_at "7"
      refine d_ix hv (atI_nat (j := 0) rfl) fun w0 hw0 => ?_
      cases Dp.str_inv hw0
      walk_at "7"
      walk_at "75"
      walk_at "88"
      refine k_sn n1 ?_
      walk_at "18"
      walk_at "14"
      walk_at "8"
      walk_at "8"
      walk_at "69"
      walk_at "7"
      refine d_ix hv (atI_nat (j := 0) rfl) fun w0 hw0 => ?_
      cases Dp.str_inv hw0
      walk_at "7"
      walk_at "75"
      walk_at "88"
      refine k_sn n2 ?_
      walk_at "14"
      walk_at "8"
      walk_at "8"
      walk_at "69"
      walk_at "7"
      refine d_ix hv (atI_nat (j := 0) rfl) fun w0 hw0 => ?_
      cases Dp.str_inv hw0
      walk_at "7"
      walk_at "75"
      walk_at "88"
      refine k_sn n3 ?_
      walk_at "5"
      walk_at "0"
      walk_at "4"
      walk_at "14"
      walk_at "8"
      walk_at "8"
      walk_at "69"
      walk_at "7"
      refine d_ix hv (atI_nat (j := 0) rfl) fun w0 hw0 => ?_
      cases Dp.str_inv hw0
      walk_at "7"
      walk_at "75"
      walk_at "88"
      refine k_sn n4 ?_
      walk_at "5"
      walk_at "2"
      walk_at "69"
      exact q v H (xrefl H) hv
    | one k i x =>
      have hv : Dp K H v (.tuple [.str k, .int (i : Int), x]) := hv
      have hi : atI xs (i : Int) = some (.int (f i : Int)) := atI_nat (hf i (by simp [Stp.refs]))
      have fin : ∀ (p : Addr) (H' : Hp), Xt H H' → (∃ w2 : V, H' p = some (.tup [.str k, .int (f i : Int), w2]) ∧ Dp K H w2 x) → Q (.ref p) H' := fun p H' x1 ⟨w2, e, h2⟩ => q _ H' x1 (.of_tup e (.cons (.str _) (.cons (.int _) (.cons (Dp.mono x1 h2) .nil))))
      have hk := one_head _ hw
      have hk : k = "fill" ∨ k = "more" ∨ k = "drop" := hk
      rcases hk with rfl | rfl | rfl
      · walk_at "0"
        walk_at "4"
        walk_at "18"
        walk_at "14"
        walk_at "8"
        walk_at "8"
        walk_at "69"
        walk_at "7"
        refine d_ix hv (atI_nat (j := 0) rfl) fun w0 hw0 => ?_
        cases Dp.str_inv hw0
        walk_at "7"
        walk_at "75"
        walk_at "88"
        walk_at "90"
        walk_at "90"
        walk_at "2"
        walk_at "35"
        walk_at "9"
        walk_at "8"
        walk_at "69"
        walk_at "7"
        refine d_ix hv (atI_nat (j := 0) rfl) fun w0 hw0 => ?_
        cases Dp.str_inv hw0
        walk_at "9"
        walk_at "8"
        walk_at "69"
        walk_at "8"
        walk_at "69"
        walk_at "7"
        refine d_ix hv (atI_nat (j := 1) rfl) fun w1 hw1 => ?_
        cases Dp.int_inv hw1
        walk_at "79"
        walk_at "9"
        walk_at "8"
        walk_at "69"
        walk_at "7"
        refine d_ix hv (atI_nat (j := 2) rfl) fun w2 hw2 => ?_
        walk_at "10"
        walk_at "83"
        intro p H1 n1 x1 e1
        exact fin p H1 x1 ⟨w2, e1, hw2⟩
      · walk_at "0"
        walk_at "4"
        walk_at "18"
        walk_at "14"
        walk_at "8"
        walk_at "8"
        walk_at "69"
        walk_at "7"
        refine d_ix hv (atI_nat (j := 0) rfl) fun w0 hw0 => ?_
        cases Dp.str_inv hw0
        walk_at "7"
        walk_at "75"
        walk_at "88"
        walk_at "89"
        walk_at "18"
        walk_at "14"
        walk_at "8"
        walk_at "8"
        walk_at "69"
        walk_at "7"
        refine d_ix hv (atI_nat (j := 0) rfl) fun w0 hw0 => ?_
        cases Dp.str_inv hw0
        walk_at "7"
        walk_at "75"
        walk_at "88"
        walk_at "90"
        walk_at "90"
        walk_at "2"
        walk_at "35"
        walk_at "9"
        walk_at "8"
        walk_at "69"
        walk_at "7"
        refine d_ix hv (atI_nat (j := 0) rfl) fun w0 hw0 => ?_
        cases Dp.str_inv hw0
        walk_at "9"
        walk_at "8"
        walk_at "69"
        walk_at "8"
        walk_at "69"
        walk_at "7"
        refine d_ix hv (atI_nat (j := 1) rfl) fun w1 hw1 => ?_
        cases Dp.int_inv hw1
        walk_at "79"
        walk_at "9"
        walk_at "8"
        walk_at "69"
        walk_at "7"
        refine d_ix hv (atI_nat (j := 2) rfl) fun w2 hw2 => ?_
        walk_at "10"
        walk_at "83"
        intro p H1 n1 x1 e1
        exact fin p H1 x1 ⟨w2, e1, hw2⟩
      · walk_at "0"
        walk_at "4"
        walk_at "18"
        walk_at "14"
        walk_at "8"
        walk_at "8"
        walk_at "69"
        walk_at "7"
        refine d_ix hv (atI_nat (j := 0) rfl) fun w0 hw0 => ?_
        cases Dp.str_inv hw0
        walk_at "7"
        walk_at "75"
        walk_at "88"
        walk_at "89"
        walk_at "18"
        walk_at "14"
        walk_at "8"
        walk_at "8"
        walk_at "69"
        walk_at "7"
        refine d_ix hv (atI_nat (j := 0) rfl) fun w0 hw0 => ?_
        cases Dp.str_inv hw0
        walk_at "7"
        walk_at "75"
        walk_at "88"
        walk_at "89"
        walk_at "14"
        walk_at "8"
        walk_at "8"
        walk_at "69"
        walk_at "7"
        refine d_ix hv (atI_nat (j := 0) rfl) fun w0 hw0 => ?_
        cases Dp.str_inv hw0
        walk_at "7"
        walk_at "75"
        walk_at "88"
        walk_at "90"
        walk_at "2"
        walk_at "35"
        walk_at "9"
        walk_at "8"
        walk_at "69"
        walk_at "7"
        refine d_ix hv (atI_nat (j := 0) rfl) fun w0 hw0 => ?_
        cases Dp.str_inv hw0
        walk_at "9"
        walk_at "8"
        walk_at "69"
        walk_at "8"
        walk_at "69"
        walk_at "7"
        refine d_ix hv (atI_nat (j := 1) rfl) fun w1 hw1 => ?_
        cases Dp.int_inv hw1
        walk_at "79"
        walk_at "9"
        walk_at "8"
        walk_at "69"
        walk_at "7"
        refine d_ix hv (atI_nat (j := 2) rfl) fun w2 hw2 => ?_
        walk_at "10"
        walk_at "83"
        intro p H1 n1 x1 e1
        exact fin p H1 x1 ⟨w2, e1, hw2⟩
    | rep i b s j d p =>
      have hv : Dp K H v (.tuple [.str "replace", .int (i : Int), b, s, .int (j : Int), d, p]) := hv
      have hi : atI xs (i : Int) = some (.int (f i : Int)) := atI_nat (hf i (by simp [Stp.refs]))
      have hj : atI xs (j : Int) = some (.int (f j : Int)) := atI_nat (hf j (by simp [Stp.refs]))
      walk_at "0"
      walk_at "4"
      walk_at "18"
      walk_at "14"
      walk_at "8"
      walk_at "8"
      walk_at "69"
      walk_at "7"
      refine d_ix hv (atI_nat (j := 0) rfl) fun w0 hw0 => ?_
      cases Dp.str_inv hw0
      walk_at "7"
      walk_at "75"
      walk_at "88"
      walk_at "89"
      walk_at "18"
      walk_at "14"
      walk_at "8"
      walk_at "8"
      walk_at "69"
      walk_at "7"
      refine d_ix hv (atI_nat (j := 0) rfl) fun w0 hw0 => ?_
      cases Dp.str_inv hw0
      walk_at "7"
      walk_at "75"
      walk_at "88"
      walk_at "89"
      walk_at "14"
      walk_at "8"
      walk_at "8"
      walk_at "69"
      walk_at "7"
      refine d_ix hv (atI_nat (j := 0) rfl) fun w0 hw0 => ?_
      cases Dp.str_inv hw0
      walk_at "7"
      walk_at "75"
      walk_at "88"
      walk_at "89"
      walk_at "5"
      walk_at "0"
      walk_at "4"
      walk_at "14"
      walk_at "8"
      walk_at "8"
      walk_at "69"
      walk_at "7"
      refine d_ix hv (atI_nat (j := 0) rfl) fun w0 hw0 => ?_
      cases Dp.str_inv hw0
      walk_at "7"
      walk_at "75"
      walk_at "88"
      walk_at "90"
      walk_at "2"
      walk_at "35"
      walk_at "9"
      walk_at "8"
      walk_at "69"
      walk_at "7"
      refine d_ix hv (atI_nat (j := 0) rfl) fun w0 hw0 => ?_
      cases Dp.str_inv hw0
      walk_at "9"
      walk_at "8"
      walk_at "69"
      walk_at "8"
      walk_at "69"
      walk_at "7"
      refine d_ix hv (atI_nat (j := 1) rfl) fun w1 hw1 => ?_
      cases Dp.int_inv hw1
      walk_at "79"
      walk_at "9"
      walk_at "8"
      walk_at "69"
      walk_at "7"
      refine d_ix hv (atI_nat (j := 2) rfl) fun w2 hw2 => ?_
      walk_at "9"
      walk_at "8"
      walk_at "69"
      walk_at "7"
      refine d_ix hv (atI_nat (j := 3) rfl) fun w3 hw3 => ?_
      walk_at "9"
      walk_at "8"
      walk_at "69"
      walk_at "8"
      walk_at "69"
      walk_at "7"
      refine d_ix hv (atI_nat (j := 4) rfl) fun w4 hw4 => ?_
      cases Dp.int_inv hw4
      walk_at "79"
      walk_at "9"
      walk_at "8"
      walk_at "69"
      walk_at "7"
      refine d_ix hv (atI_nat (j := 5) rfl) fun w5 hw5 => ?_
      walk_at "9"
      walk_at "8"
      walk_at "69"
      walk_at "7"
      refine d_ix hv (atI_nat (j := 6) rfl) fun w6 hw6 => ?_
      walk_at "10"
      walk_at "83"
      intro p1 H1 n1 x1 e1
      exact q _ H1 x1 (.of_tup e1 (.cons (.str _) (.cons (.int _) (.cons (Dp.mono x1 hw2) (.cons (Dp.mono x1 hw3) (.cons (.int _) (.cons (Dp.mono x1 hw5) (.cons (Dp.mono x1 hw6) .nil))))))))


theorem ok__law_used (T : TopW w P K mg) : FnOk P w K mg base CX0 1 T.f__law_used T.fd__law_used ["step"] (sp__law_used T) := by
  refine T.F__law_used.ok sc__law_used (fun vs H Q E h => ?_) (fun cdv A outer s H vs Q E hr h => ?_)
  · obtain ⟨v, s, rfl, hv, hw, q⟩ := h
    rfl
  · obtain ⟨v, s, rfl, hv, hw, q⟩ := h
    refine ⟨_, (pss_cons (ps_if (PW.pt (pw_or (pt_cmpR (r := rEqU K) (op_eqU hr) (pe_ix (r := rIx K) ix_seq (pv 0) pe_int (fun _ _ => rfl)) pe_str (nomark _)) (pw_or (pt_cmpR (r := rEqU K) (op_eqU hr) (pe_ix (r := rIx K) ix_seq (pv 0) pe_int (fun _ _ => rfl)) pe_str (nomark _)) (pw_or1 (pt_cmpR (r := rEqU K) (op_eqU hr) (pe_ix (r := rIx K) ix_seq (pv 0) pe_int (fun _ _ => rfl)) pe_str (nomark _)))))) (pss_one (ps_ret (pe_lst (pa_cons (pe_ix (r := rIx K) ix_seq (pv 0) pe_int (fun _ _ => rfl)) pa_nil)))) pss_nil)
      (pss_cons (ps_if (pt_cmpR (r := rEqU K) (op_eqU hr) (pe_ix (r := rIx K) ix_seq (pv 0) pe_int (fun _ _ => rfl)) pe_str (nomark _)) (pss_one (ps_ret (pe_lst (pa_cons (pe_ix (r := rIx K) ix_seq (pv 0) pe_int (fun _ _ => rfl)) (pa_cons (pe_ix (r := rIx K) ix_seq (pv 0) pe_int (fun _ _ => rfl)) pa_nil))))) pss_nil)
      (pss_one (ps_ret (pe_lst pa_nil))))), ?_⟩
    cases s with
    | base d =>
      obtain ⟨k, ds, rfl, hk⟩ := base_shape hw
      obtain ⟨n1, n2, n3, n4⟩ := base_not hk
      have hv : Dp K H v (.tuple (.str k :: ds)) := hv
      walk_at "0"
      walk_at "4"
      walk_at "18"
      walk_at "14"
      walk_at "8"
      walk_at "8"
      walk_at "69"
      walk_at "7"
      refine d_ix hv (atI_nat (j := 0) rfl) fun w0 hw0 => ?_
      cases Dp.str_inv hw0
      walk_at "7"
      walk_at "75"
      walk_at "88"
      refine k_sn n1 ?_
      walk_at "18"
      walk_at "14"
      walk_at "8"
      walk_at "8"
      walk_at "69"
      walk_at "7"
      refine d_ix hv (atI_nat (j := 0) rfl) fun w0 hw0 => ?_
      cases Dp.str_inv hw0
      walk_at "7"
      walk_at "75"
      walk_at "88"
      refine k_sn n2 ?_
      walk_at "14"
      walk_at "8"
      walk_at "8"
      walk_at "69"
      walk_at "7"
      refine d_ix hv (atI_nat (j := 0) rfl) fun w0 hw0 => ?_
      cases Dp.str_inv hw0
      walk_at "7"
      walk_at "75"
      walk_at "88"
      refine k_sn n3 ?_
      walk_at "5"
      walk_at "0"
      walk_at "4"
      walk_at "14"
      walk_at "8"
      walk_at "8"
      walk_at "69"
      walk_at "7"
      refine d_ix hv (atI_nat (j := 0) rfl) fun w0 hw0 => ?_
      cases Dp.str_inv hw0
      walk_at "7"
      walk_at "75"
      walk_at "88"
      refine k_sn n4 ?_
      walk_at "5"
      walk_at "2"
      walk_at "34"
      walk_at "10"
      walk_at "82"
      intro p H1 n1 x1 e1
      exact q p H1 x1 e1
    | one k i x =>
      have hv : Dp K H v (.tuple [.str k, .int (i : Int), x]) := hv
      have hk := one_head _ hw
      have hk : k = "fill" ∨ k = "more" ∨ k = "drop" := hk
      rcases hk with rfl | rfl | rfl
      · walk_at "0"
        walk_at "4"
        walk_at "18"
        walk_at "14"
        walk_at "8"
        walk_at "8"
        walk_at "69"
        walk_at "7"
        refine d_ix hv (atI_nat (j := 0) rfl) fun w0 hw0 => ?_
        cases Dp.str_inv hw0
        walk_at "7"
        walk_at "75"
        walk_at "88"
        walk_at "90"
        walk_at "90"
        walk_at "2"
        walk_at "34"
        walk_at "9"
        walk_at "8"
        walk_at "69"
        walk_at "7"
        refine d_ix hv (atI_nat (j := 1) rfl) fun w1 hw1 => ?_
        cases Dp.int_inv hw1
        walk_at "10"
        walk_at "82"
        intro p H1 n1 x1 e1
        exact q p H1 x1 e1
      · walk_at "0"
        walk_at "4"
        walk_at "18"
        walk_at "14"
        walk_at "8"
        walk_at "8"
        walk_at "69"
        walk_at "7"
        refine d_ix hv (atI_nat (j := 0) rfl) fun w0 hw0 => ?_
        cases Dp.str_inv hw0
        walk_at "7"
        walk_at "75"
        walk_at "88"
        walk_at "89"
        walk_at "18"
        walk_at "14"
        walk_at "8"
        walk_at "8"
        walk_at "69"
        walk_at "7"
        refine d_ix hv (atI_nat (j := 0) rfl) fun w0 hw0 => ?_
        cases Dp.str_inv hw0
        walk_at "7"
        walk_at "75"
        walk_at "88"
        walk_at "90"
        walk_at "90"
        walk_at "2"
        walk_at "34"
        walk_at "9"
        walk_at "8"
        walk_at "69"
        walk_at "7"
        refine d_ix hv (atI_nat (j := 1) rfl) fun w1 hw1 => ?_
        cases Dp.int_inv hw1
        walk_at "10"
        walk_at "82"
        intro p H1 n1 x1 e1
        exact q p H1 x1 e1
      · walk_at "0"
        walk_at "4"
        walk_at "18"
        walk_at "14"
        walk_at "8"
        walk_at "8"
        walk_at "69"
        walk_at "7"
        refine d_ix hv (atI_nat (j := 0) rfl) fun w0 hw0 => ?_
        cases Dp.str_inv hw0
        walk_at "7"
        walk_at "75"
        walk_at "88"
        walk_at "89"
        walk_at "18"
        walk_at "14"
        walk_at "8"
        walk_at "8"
        walk_at "69"
        walk_at "7"
        refine d_ix hv (atI_nat (j := 0) rfl) fun w0 hw0 => ?_
        cases Dp.str_inv hw0
        walk_at "7"
        walk_at "75"
        walk_at "88"
        walk_at "89"
        walk_at "14"
        walk_at "8"
        walk_at "8"
        walk_at "69"
        walk_at "7"
        refine d_ix hv (atI_nat (j := 0) rfl) fun w0 hw0 => ?_
        cases Dp.str_inv hw0
        walk_at "7"
        walk_at "75"
        walk_at "88"
        walk_at "90"
        walk_at "2"
        walk_at "34"
        walk_at "9"
        walk_at "8"
        walk_at "69"
        walk_at "7"
        refine d_ix hv (atI_nat (j := 1) rfl) fun w1 hw1 => ?_
        cases Dp.int_inv hw1
        walk_at "10"
        walk_at "82"
        intro p H1 n1 x1 e1
        exact q p H1 x1 e1
    | rep i b s j d p =>
      have hv : Dp K H v (.tuple [.str "replace", .int (i : Int), b, s, .int (j : Int), d, p]) := hv
      walk_at "0"
      walk_at "4"
      walk_at "18"
      walk_at "14"
      walk_at "8"
      walk_at "8"
      walk_at "69"
      walk_at "7"
      refine d_ix hv (atI_nat (j := 0) rfl) fun w0 hw0 => ?_
      cases Dp.str_inv hw0
      walk_at "7"
      walk_at "75"
      walk_at "88"
      walk_at "89"
      walk_at "18"
      walk_at "14"
      walk_at "8"
      walk_at "8"
      walk_at "69"
      walk_at "7"
      refine d_ix hv (atI_nat (j := 0) rfl) fun w0 hw0 => ?_
      cases Dp.str_inv hw0
      walk_at "7"
      walk_at "75"
      walk_at "88"
      walk_at "89"
      walk_at "14"
      walk_at "8"
      walk_at "8"
      walk_at "69"
      walk_at "7"
      refine d_ix hv (atI_nat (j := 0) rfl) fun w0 hw0 => ?_
      cases Dp.str_inv hw0
      walk_at "7"
      walk_at "75"
      walk_at "88"
      walk_at "89"
      walk_at "5"
      walk_at "0"
      walk_at "4"
      walk_at "14"
      walk_at "8"
      walk_at "8"
      walk_at "69"
      walk_at "7"
      refine d_ix hv (atI_nat (j := 0) rfl) fun w0 hw0 => ?_
      cases Dp.str_inv hw0
      walk_at "7"
      walk_at "75"
      walk_at "88"
      walk_at "90"
      walk_at "2"
      walk_at "34"
      walk_at "9"
      walk_at "8"
      walk_at "69"
      walk_at "7"
      refine d_ix hv (atI_nat (j := 1) rfl) fun w1 hw1 => ?_
      cases Dp.int_inv hw1
      walk_at "9"
      walk_at "8"
      walk_at "69"
      walk_at "7"
      refine d_ix hv (atI_nat (j := 4) rfl) fun w4 hw4 => ?_
      cases Dp.int_inv hw4
      walk_at "10"
      walk_at "82"
      intro p1 H1 n1 x1 e1
      exact q p1 H1 x1 e1


theorem ok__line_items (T : TopW w P K mg) : FnOk P w K mg base CX0 2 T.f__line_items T.fd__line_items ["step"] (sp__line_items T) := by
  refine T.F__line_items.ok sc__line_items (fun vs H Q E h => ?_) (fun cdv A outer s H vs Q E hr h => ?_)
  · obtain ⟨v, s, rfl, hv, hw, q⟩ := h
    rfl
  · obtain ⟨v, s, rfl, hv, hw, q⟩ := h
    refine ⟨_, (pss_cons (ps_if (PW.pt (pw_or (pt_cmpR (r := rEqU K) (op_eqU hr) (pe_callB (r := rLenU K) call_lenU (by rfl) T.n_len PySem.boot_len (pa_cons (pv 0) pa_nil)) pe_int (nomark _)) (pw_or1 (pt_not (pt_val (pe_callB (r := rIsi K) call_isi (by rfl) T.n_isinstance PyProof.Rows.boot_isinstance (pa_cons (pe_ix (r := rIx K) ix_seq (pv 0) pe_int (fun _ _ => rfl)) (pa_cons (pe_bltn (v := .ty "str") (by rfl) T.n_str (by decide +kernel) rfl) pa_nil)))))))) (pss_one (ps_ret (pe_lst pa_nil))) pss_nil)
      (pss_one (ps_ret (pe_lc (own := [("item", 1)]) (g := gName 1) rfl sc__line_items.nd (pi_tup (pe_getW (pe_glob (v := .ref T.a_LINE_ITEMS) (by rfl) T.c_LINE_ITEMS rfl) (pe_ix (r := rIx K) ix_seq (pv 0) pe_int (fun _ _ => rfl)) (pe_tup pa_nil) ⟨rfl, rfl, rfl, rfl⟩)) (blkOk_by (N := N__line_items) (sc := defScope s__line_items) (by decide +kernel)) (fun _ _ _ _ _ => (pg_name (i := 1) sc__line_items.nd rfl (Or.inl rfl))) (fun _ _ _ _ _ => pts_one (PW.pt (pw_and (pt_cmpR op_lt (pv 1) (pe_callB (r := rLenU K) call_lenU (by rfl) T.n_len PySem.boot_len (pa_cons (pv 0) pa_nil)) (nomark _)) (pw_and1 (pt_val (pe_call (ok_is_whole T) (hr.mono (by first | decide | exact Nat.le_refl _ | omega | (show _ ≤ _ + n; omega))) (by rfl) T.g_is_whole T.F_is_whole.kp T.b_is_whole .nil pass0 (pa_cons (pe_ix (r := rIx K) ix_seq (pv 0) (pv 1) (fun _ _ => rfl)) pa_nil))))))) (fun _ _ _ _ _ => (pv 1)))))), ?_⟩
    obtain ⟨ds, e, hix⟩ := wf_shape hw
    rw [e] at hv
    walk_at "0"
    walk_at "4"
    walk_at "18"
    walk_at "14"
    walk_at "8"
    walk_at "11"
    walk_at "9"
    walk_at "69"
    walk_at "10"
    refine d_len hv ?_
    walk_at "7"
    walk_at "75"
    walk_at "88"
    walk_at "89"
    walk_at "16"
    walk_at "15"
    walk_at "11"
    walk_at "9"
    walk_at "8"
    walk_at "69"
    walk_at "7"
    refine d_ix hv (atI_nat (j := 0) rfl) fun w0 hw0 => ?_
    cases Dp.str_inv hw0
    walk_at "9"
    walk_at "7"
    walk_at "10"
    walk_at "46"
    walk_at "88"
    walk_at "89"
    walk_at "5"
    walk_at "2"
    walk_at "51"
    walk_at "39"
    obtain ⟨b, hK, hS⟩ := items_of T hw H
    refine ⟨T.a_LINE_ITEMS, rfl, items_at T, ?_⟩
    walk_at "8"
    walk_at "69"
    walk_at "7"
    refine d_ix hv (atI_nat (j := 0) rfl) fun w0 hw0 => ?_
    cases Dp.str_inv hw0
    walk_at "35"
    walk_at "10"
    walk_at "83"
    intro p1 H1 n1 x1 e1
    refine ⟨_, _, rfl, hK, b, rfl, ⟨_, xt x1 hS⟩, b_datF walk_tup (fun H' x' => xt x' (xt x1 hS)) (DpAll.ints (K := K) _) (fun _ => true) (fun d => d) (fun d hd => ?_) ?_ ?_ ?_⟩
    · obtain ⟨j, _, rfl⟩ := List.mem_map.mp hd
      rfl
    · rw [List.length_map]; have := itemsOf_le s; omega
    · intro v' d H' hv' hd xx R R0 hR hR0
      obtain ⟨j, hj, rfl⟩ := List.mem_map.mp hd
      cases Dp.int_inv hv'
      obtain ⟨n, i, rfl, hi, _⟩ := hix j hj
      have hv2 := Dp.mono (xtr x1 xx) hv
      have hl := (List.getElem?_eq_some_iff.mp hi).1
      walk_at "6"
      refine ⟨rfl, ?_⟩
      walk_at "17"
      walk_at "14"
      walk_at "8"
      walk_at "69"
      walk_at "11"
      walk_at "9"
      walk_at "69"
      walk_at "10"
      refine d_len hv2 ?_
      walk_at "55"
      walk_at "88"
      refine k_if (fun _ => ?_) (fun h => absurd (Int.ofNat_lt.mpr hl) h)
      walk_at "15"
      walk_at "12"
      walk_at "9"
      walk_at "8"
      walk_at "69"
      walk_at "69"
      refine d_ix hv2 (atI_nat hi) fun wi hwi => ?_
      cases Dp.int_inv hwi
      walk_at "10"
      refine ⟨i, rfl, ?_⟩
      walk_at "88"
      walk_at "90"
      walk_at "69"
      exact hR rfl _ H' (xrefl H') (.int _)
    · intro Dl ys H2 hD x2 e2 hy
      rw [filt_true, List.map_id'] at hy
      rw [DpAll.ints_inv hy] at e2
      exact q Dl H2 (xtr x1 x2) (xfree x1 hD) e2


theorem ok__law_drawn_step (T : TopW w P K mg) : FnOk P w K mg base CX0 2 T.f__law_drawn_step T.fd__law_drawn_step ["row", "k"] (sp__law_drawn_step T) := by
  refine T.F__law_drawn_step.ok sc__law_drawn_step (fun vs H Q E h => ?_) (fun cdv A outer s H vs Q E hr h => ?_)
  · obtain ⟨a, k, ds, rfl, hS, hd, hk, q⟩ := h
    rfl
  · obtain ⟨a, k, ds, rfl, hS, hd, hk, q⟩ := h
    refine ⟨_, (pss_cons (ps_set (i := 2) sc__law_drawn_step.nd rfl (Or.inl rfl) (pe_lst (pa_cons (pe_tup (pa_cons pe_str pa_nil)) (pa_cons (pe_tup (pa_cons pe_str (pa_cons pe_str pa_nil))) (pa_cons (pe_tup (pa_cons pe_str (pa_cons (pe_tup (pa_cons pe_str (pa_cons pe_str pa_nil))) pa_nil))) (pa_cons (pe_tup (pa_cons pe_str (pa_cons (pe_tup (pa_cons pe_str pa_nil)) pa_nil))) (pa_cons (pe_tup (pa_cons pe_str (pa_cons pe_str pa_nil))) (pa_cons (pe_tup (pa_cons pe_str pa_nil)) pa_nil))))))))
      (pss_cons (ps_set (i := 3) sc__law_drawn_step.nd rfl (Or.inl rfl) (pe_lst (pa_cons (pe_tup (pa_cons pe_bl (pa_cons (pe_tup (pa_cons pe_str (pa_cons (pe_tup (pa_cons pe_str pa_nil)) pa_nil))) (pa_cons (pe_tup (pa_cons pe_str pa_nil)) pa_nil)))) (pa_cons (pe_tup (pa_cons pe_bl (pa_cons (pe_tup (pa_cons pe_str pa_nil)) (pa_cons (pe_tup (pa_cons pe_str pa_nil)) pa_nil)))) (pa_cons (pe_tup (pa_cons pe_bl (pa_cons (pe_tup (pa_cons pe_str pa_nil)) (pa_cons (pe_tup (pa_cons pe_str pa_nil)) pa_nil)))) (pa_cons (pe_tup (pa_cons pe_bl (pa_cons (pe_tup (pa_cons pe_str (pa_cons (pe_tup (pa_cons pe_str pa_nil)) pa_nil))) (pa_cons (pe_tup (pa_cons pe_str pa_nil)) pa_nil)))) pa_nil))))))
      (pss_cons (ps_set (i := 4) sc__law_drawn_step.nd rfl (Or.inl rfl) (pe_lst (pa_cons (pe_tup pa_nil) (pa_cons (pe_tup (pa_cons (pe_tup (pa_cons (pe_tup (pa_cons pe_str (pa_cons pe_str pa_nil))) (pa_cons (pe_tup (pa_cons pe_str pa_nil)) pa_nil))) pa_nil)) (pa_cons (pe_tup (pa_cons (pe_tup (pa_cons (pe_tup (pa_cons pe_str (pa_cons pe_str pa_nil))) (pa_cons (pe_tup (pa_cons pe_str pa_nil)) pa_nil))) (pa_cons (pe_tup (pa_cons (pe_tup (pa_cons pe_str (pa_cons pe_str pa_nil))) (pa_cons (pe_tup (pa_cons pe_str (pa_cons pe_str pa_nil))) pa_nil))) pa_nil))) (pa_cons (pe_tup (pa_cons (pe_tup (pa_cons (pe_tup (pa_cons pe_str (pa_cons pe_str pa_nil))) (pa_cons (pe_tup (pa_cons pe_str (pa_cons (pe_tup (pa_cons pe_str (pa_cons pe_str pa_nil))) pa_nil))) pa_nil))) pa_nil)) pa_nil))))))
      (pss_cons (ps_set (i := 4) sc__law_drawn_step.nd rfl (Or.inl rfl) (pe_op (r := rPlus K) op_plus (pv 4) (pe_lst (pa_cons (pe_tup (pa_cons (pe_tup (pa_cons (pe_tup (pa_cons pe_str (pa_cons pe_str pa_nil))) (pa_cons (pe_tup (pa_cons pe_str (pa_cons pe_str pa_nil))) pa_nil))) (pa_cons (pe_tup (pa_cons (pe_tup (pa_cons pe_str (pa_cons pe_str pa_nil))) (pa_cons (pe_tup (pa_cons pe_str pa_nil)) pa_nil))) pa_nil))) (pa_cons (pe_tup (pa_cons (pe_tup (pa_cons (pe_tup (pa_cons pe_str (pa_cons pe_str pa_nil))) (pa_cons (pe_tup (pa_cons pe_str (pa_cons pe_str pa_nil))) pa_nil))) pa_nil)) pa_nil)))))
      (pss_cons (ps_set (i := 5) sc__law_drawn_step.nd rfl (Or.inl rfl) (pe_lst (pa_cons (pe_tup (pa_cons pe_int pa_nil)) (pa_cons (pe_tup (pa_cons pe_int pa_nil)) (pa_cons (pe_tup (pa_cons pe_int (pa_cons pe_int pa_nil))) (pa_cons (pe_tup (pa_cons pe_int (pa_cons pe_int (pa_cons pe_int pa_nil)))) pa_nil))))))
      (pss_cons (ps_set (i := 6) sc__law_drawn_step.nd rfl (Or.inl rfl) (pe_ix (r := rIx K) ix_seq (pv 0) pe_int (fun _ _ => rfl)))
      (Evl.pss_cut (ps_if (pt_cmpR (r := rEqU K) (op_eqU hr) (pv 1) pe_int (nomark _)) (pss_one (ps_set (i := 6) sc__law_drawn_step.nd rfl (Or.inl rfl) (pe_op op_mod (pe_callTy call_intU (by rfl) T.n_int PyProof.Rows.boot_int (pa_cons (pv 6) pa_nil)) pe_int))) pss_nil)
      (Evl.pss_cut (ps_if (PW.pt (pw_and (pt_cmpR op_gt (pv 1) pe_int (nomark _)) (pw_and1 (pt_cmpR op_lt (pv 6) pe_int (nomark _))))) (pss_one (ps_set (i := 6) sc__law_drawn_step.nd rfl (Or.inl rfl) pe_int)) pss_nil)
      (pss_cons (ps_if (pt_cmpR op_lt (pv 6) pe_int (nomark _)) (pss_one (ps_ret (pe_tup (pa_cons pe_str (pa_cons (pe_op op_fdivW (pe_ix (r := rIx K) ix_seq (pv 0) pe_int (fun _ _ => rfl)) pe_int) pa_nil))))) pss_nil)
      (pss_cons (ps_if (pt_cmpR op_lt (pv 6) pe_int (nomark _)) (pss_one (ps_ret (pe_tup (pa_cons pe_str (pa_cons (pe_ix (r := rIx K) ix_seq (pv 2) (pe_ix (r := rIx K) ix_seq (pv 0) pe_int (fun _ _ => rfl)) (fun _ _ => rfl)) pa_nil))))) pss_nil)
      (pss_cons (ps_if (pt_cmpR op_lt (pv 6) pe_int (nomark _)) (pss_one (ps_ret (pe_tup (pa_cons pe_str (pa_cons (pe_ix (r := rIx K) ix_seq (pv 2) (pe_ix (r := rIx K) ix_seq (pv 0) pe_int (fun _ _ => rfl)) (fun _ _ => rfl)) (pa_cons (pe_ix (r := rIx K) ix_seq (pv 2) (pe_ix (r := rIx K) ix_seq (pv 0) pe_int (fun _ _ => rfl)) (fun _ _ => rfl)) pa_nil)))))) pss_nil)
      (pss_cons (ps_set (i := 7) sc__law_drawn_step.nd rfl (Or.inl rfl) (pe_call (ok__law_earlier T) (hr.mono (by first | decide | exact Nat.le_refl _ | omega | (show _ ≤ _ + n; omega))) (by rfl) T.g__law_earlier T.F__law_earlier.kp T.b__law_earlier .nil pass0 (pa_cons (pv 1) (pa_cons (pe_ix (r := rIx K) ix_seq (pv 0) pe_int (fun _ _ => rfl)) pa_nil))))
      (pss_cons (ps_set (i := 8) sc__law_drawn_step.nd rfl (Or.inl rfl) (pe_call (ok__law_earlier T) (hr.mono (by first | decide | exact Nat.le_refl _ | omega | (show _ ≤ _ + n; omega))) (by rfl) T.g__law_earlier T.F__law_earlier.kp T.b__law_earlier .nil pass0 (pa_cons (pv 1) (pa_cons (pe_ix (r := rIx K) ix_seq (pv 0) pe_int (fun _ _ => rfl)) pa_nil))))
      (pss_cons (ps_if (pt_cmpR op_lt (pv 6) pe_int (nomark _)) (pss_one (ps_ret (pe_tup (pa_cons pe_str (pa_cons (pv 7) (pa_cons (pe_ix (r := rIx K) ix_seq (pv 4) (pe_ix (r := rIx K) ix_seq (pv 0) pe_int (fun _ _ => rfl)) (fun _ _ => rfl)) pa_nil)))))) pss_nil)
      (pss_cons (ps_if (pt_cmpR op_lt (pv 6) pe_int (nomark _)) (pss_one (ps_ret (pe_tup (pa_cons pe_str (pa_cons (pv 7) (pa_cons (pe_ix (r := rIx K) ix_seq (pv 3) (pe_ix (r := rIx K) ix_seq (pv 0) pe_int (fun _ _ => rfl)) (fun _ _ => rfl)) pa_nil)))))) pss_nil)
      (pss_cons (ps_if (pt_cmpR op_lt (pv 6) pe_int (nomark _)) (pss_one (ps_ret (pe_tup (pa_cons pe_str (pa_cons (pv 7) (pa_cons (pe_op op_fdivW (pe_ix (r := rIx K) ix_seq (pv 0) pe_int (fun _ _ => rfl)) pe_int) pa_nil)))))) pss_nil)
      (pss_one (ps_ret (pe_tup (pa_cons pe_str (pa_cons (pv 7) (pa_cons (pe_ix (r := rIx K) ix_seq (pv 0) pe_int (fun _ _ => rfl)) (pa_cons (pe_cmpR (r := rEqU K) (op_eqU hr) (pe_ix (r := rIx K) ix_seq (pv 0) pe_int (fun _ _ => rfl)) pe_int (nomark _)) (pa_cons (pv 8) (pa_cons (pe_ix (r := rIx K) ix_seq (pv 0) pe_int (fun _ _ => rfl)) (pa_cons (pe_ix (r := rIx K) ix_seq (pv 5) (pe_ix (r := rIx K) ix_seq (pv 0) pe_int (fun _ _ => rfl)) (fun _ _ => rfl)) pa_nil)))))))))))))))))))))))))), ?_⟩
    obtain ⟨r0, r1, r2, r3, r4, r5, r6, r7, r8, r9, r10, r11, rfl, ⟨l0, u0⟩, ⟨l1, u1⟩, ⟨l2, u2⟩, ⟨l3, u3⟩, ⟨l4, u4⟩, ⟨l5, u5⟩, ⟨l6, u6⟩, ⟨l7, u7⟩, ⟨l8, u8⟩, _⟩ := way_inv hd
    clear hd
    have X := xrefl H
    walk_at "0"
    walk_at "1"
    walk_at "34"
    walk_at "9"
    walk_at "35"
    walk_at "9"
    walk_at "7"
    walk_at "10"
    walk_at "83"
    intro p1 H1 n1 x1 e1
    replace hS := xl x1 hS
    replace X := xtr X x1
    have d1 : Dp K H1 (.ref p1) (.tuple [.str "a"]) := .of_tup e1 (.cons (.str _) .nil)
    clear n1 e1 x1
    walk_at "9"
    walk_at "35"
    walk_at "9"
    walk_at "7"
    walk_at "9"
    walk_at "7"
    walk_at "10"
    walk_at "83"
    intro p2 H2 n2 x2 e2
    replace hS := xl x2 hS
    replace X := xtr X x2
    replace d1 := Dp.mono x2 d1
    have d2 : Dp K H2 (.ref p2) (.tuple [.str "X", .str "s"]) := .of_tup e2 (.cons (.str _) (.cons (.str _) .nil))
    clear n2 e2 x2
    walk_at "9"
    walk_at "35"
    walk_at "9"
    walk_at "7"
    walk_at "9"
    walk_at "35"
    walk_at "9"
    walk_at "7"
    walk_at "9"
    walk_at "7"
    walk_at "10"
    walk_at "83"
    intro p3 H3 n3 x3 e3
    replace hS := xl x3 hS
    replace X := xtr X x3
    replace d1 := Dp.mono x3 d1
    replace d2 := Dp.mono x3 d2
    have d3 : Dp K H3 (.ref p3) (.tuple [.str "X", .str "s"]) := .of_tup e3 (.cons (.str _) (.cons (.str _) .nil))
    clear n3 e3 x3
    walk_at "10"
    walk_at "83"
    intro p4 H4 n4 x4 e4
    replace hS := xl x4 hS
    replace X := xtr X x4
    replace d1 := Dp.mono x4 d1
    replace d2 := Dp.mono x4 d2
    replace d3 := Dp.mono x4 d3
    have d4 : Dp K H4 (.ref p4) (.tuple [.str "f", .tuple [.str "X", .str "s"]]) := .of_tup e4 (.cons (.str _) (.cons d3 .nil))
    clear n4 e4 x4 d3
    walk_at "9"
    walk_at "35"
    walk_at "9"
    walk_at "7"
    walk_at "9"
    walk_at "35"
    walk_at "9"
    walk_at "7"
    walk_at "10"
    walk_at "83"
    intro p5 H5 n5 x5 e5
    replace hS := xl x5 hS
    replace X := xtr X x5
    replace d1 := Dp.mono x5 d1
    replace d2 := Dp.mono x5 d2
    replace d4 := Dp.mono x5 d4
    have d5 : Dp K H5 (.ref p5) (.tuple [.str "a"]) := .of_tup e5 (.cons (.str _) .nil)
    clear n5 e5 x5
    walk_at "10"
    walk_at "83"
    intro p6 H6 n6 x6 e6
    replace hS := xl x6 hS
    replace X := xtr X x6
    replace d1 := Dp.mono x6 d1
    replace d2 := Dp.mono x6 d2
    replace d4 := Dp.mono x6 d4
    replace d5 := Dp.mono x6 d5
    have d6 : Dp K H6 (.ref p6) (.tuple [.str "f", .tuple [.str "a"]]) := .of_tup e6 (.cons (.str _) (.cons d5 .nil))
    clear n6 e6 x6 d5
    walk_at "9"
    walk_at "35"
    walk_at "9"
    walk_at "7"
    walk_at "9"
    walk_at "7"
    walk_at "10"
    walk_at "83"
    intro p7 H7 n7 x7 e7
    replace hS := xl x7 hS
    replace X := xtr X x7
    replace d1 := Dp.mono x7 d1
    replace d2 := Dp.mono x7 d2
    replace d4 := Dp.mono x7 d4
    replace d6 := Dp.mono x7 d6
    have d7 : Dp K H7 (.ref p7) (.tuple [.str "Y", .str "s"]) := .of_tup e7 (.cons (.str _) (.cons (.str _) .nil))
    clear n7 e7 x7
    walk_at "9"
    walk_at "35"
    walk_at "9"
    walk_at "7"
    walk_at "10"
    walk_at "83"
    intro p8 H8 n8 x8 e8
    replace hS := xl x8 hS
    replace X := xtr X x8
    replace d1 := Dp.mono x8 d1
    replace d2 := Dp.mono x8 d2
    replace d4 := Dp.mono x8 d4
    replace d6 := Dp.mono x8 d6
    replace d7 := Dp.mono x8 d7
    have d8 : Dp K H8 (.ref p8) (.tuple [.str "true"]) := .of_tup e8 (.cons (.str _) .nil)
    clear n8 e8 x8
    walk_at "10"
    walk_at "82"
    intro p9 H9 n9 x9 e9
    replace hS := xl x9 hS
    replace X := xtr X x9
    replace d1 := Dp.mono x9 d1
    replace d2 := Dp.mono x9 d2
    replace d4 := Dp.mono x9 d4
    replace d6 := Dp.mono x9 d6
    replace d7 := Dp.mono x9 d7
    replace d8 := Dp.mono x9 d8
    have hT : DpAll K H9 [.ref p1, .ref p2, .ref p4, .ref p6, .ref p7, .ref p8] termsL := (.cons d1 (.cons d2 (.cons d4 (.cons d6 (.cons d7 (.cons d8 .nil))))))
    clear n9 x9 d1 d2 d4 d6 d7 d8
    have ohT := e9
    clear e9
    walk_at "6"
    walk_at "0"
    walk_at "1"
    walk_at "34"
    walk_at "9"
    walk_at "35"
    walk_at "9"
    walk_at "7"
    walk_at "9"
    walk_at "35"
    walk_at "9"
    walk_at "7"
    walk_at "9"
    walk_at "35"
    walk_at "9"
    walk_at "7"
    walk_at "10"
    walk_at "83"
    intro p10 H10 n10 x10 e10
    replace hS := xl x10 hS
    replace X := xtr X x10
    replace hT := DpAll.mono x10 hT
    replace ohT := x10 _ _ ohT
    have d10 : Dp K H10 (.ref p10) (.tuple [.str "a"]) := .of_tup e10 (.cons (.str _) .nil)
    clear n10 e10 x10
    walk_at "10"
    walk_at "83"
    intro p11 H11 n11 x11 e11
    replace hS := xl x11 hS
    replace X := xtr X x11
    replace hT := DpAll.mono x11 hT
    replace ohT := x11 _ _ ohT
    replace d10 := Dp.mono x11 d10
    have d11 : Dp K H11 (.ref p11) (.tuple [.str "p", .tuple [.str "a"]]) := .of_tup e11 (.cons (.str _) (.cons d10 .nil))
    clear n11 e11 x11 d10
    walk_at "9"
    walk_at "35"
    walk_at "9"
    walk_at "7"
    walk_at "10"
    walk_at "83"
    intro p12 H12 n12 x12 e12
    replace hS := xl x12 hS
    replace X := xtr X x12
    replace hT := DpAll.mono x12 hT
    replace ohT := x12 _ _ ohT
    replace d11 := Dp.mono x12 d11
    have d12 : Dp K H12 (.ref p12) (.tuple [.str "true"]) := .of_tup e12 (.cons (.str _) .nil)
    clear n12 e12 x12
    walk_at "10"
    walk_at "83"
    intro p13 H13 n13 x13 e13
    replace hS := xl x13 hS
    replace X := xtr X x13
    replace hT := DpAll.mono x13 hT
    replace ohT := x13 _ _ ohT
    replace d11 := Dp.mono x13 d11
    replace d12 := Dp.mono x13 d12
    have d13 : Dp K H13 (.ref p13) (.tuple [.bool true, .tuple [.str "p", .tuple [.str "a"]], .tuple [.str "true"]]) := .of_tup e13 (.cons (.bl _) (.cons d11 (.cons d12 .nil)))
    clear n13 e13 x13 d11 d12
    walk_at "9"
    walk_at "35"
    walk_at "9"
    walk_at "7"
    walk_at "9"
    walk_at "35"
    walk_at "9"
    walk_at "7"
    walk_at "10"
    walk_at "83"
    intro p14 H14 n14 x14 e14
    replace hS := xl x14 hS
    replace X := xtr X x14
    replace hT := DpAll.mono x14 hT
    replace ohT := x14 _ _ ohT
    replace d13 := Dp.mono x14 d13
    have d14 : Dp K H14 (.ref p14) (.tuple [.str "b"]) := .of_tup e14 (.cons (.str _) .nil)
    clear n14 e14 x14
    walk_at "9"
    walk_at "35"
    walk_at "9"
    walk_at "7"
    walk_at "10"
    walk_at "83"
    intro p15 H15 n15 x15 e15
    replace hS := xl x15 hS
    replace X := xtr X x15
    replace hT := DpAll.mono x15 hT
    replace ohT := x15 _ _ ohT
    replace d13 := Dp.mono x15 d13
    replace d14 := Dp.mono x15 d14
    have d15 : Dp K H15 (.ref p15) (.tuple [.str "a"]) := .of_tup e15 (.cons (.str _) .nil)
    clear n15 e15 x15
    walk_at "10"
    walk_at "83"
    intro p16 H16 n16 x16 e16
    replace hS := xl x16 hS
    replace X := xtr X x16
    replace hT := DpAll.mono x16 hT
    replace ohT := x16 _ _ ohT
    replace d13 := Dp.mono x16 d13
    replace d14 := Dp.mono x16 d14
    replace d15 := Dp.mono x16 d15
    have d16 : Dp K H16 (.ref p16) (.tuple [.bool false, .tuple [.str "b"], .tuple [.str "a"]]) := .of_tup e16 (.cons (.bl _) (.cons d14 (.cons d15 .nil)))
    clear n16 e16 x16 d14 d15
    walk_at "9"
    walk_at "35"
    walk_at "9"
    walk_at "7"
    walk_at "9"
    walk_at "35"
    walk_at "9"
    walk_at "7"
    walk_at "10"
    walk_at "83"
    intro p17 H17 n17 x17 e17
    replace hS := xl x17 hS
    replace X := xtr X x17
    replace hT := DpAll.mono x17 hT
    replace ohT := x17 _ _ ohT
    replace d13 := Dp.mono x17 d13
    replace d16 := Dp.mono x17 d16
    have d17 : Dp K H17 (.ref p17) (.tuple [.str "true"]) := .of_tup e17 (.cons (.str _) .nil)
    clear n17 e17 x17
    walk_at "9"
    walk_at "35"
    walk_at "9"
    walk_at "7"
    walk_at "10"
    walk_at "83"
    intro p18 H18 n18 x18 e18
    replace hS := xl x18 hS
    replace X := xtr X x18
    replace hT := DpAll.mono x18 hT
    replace ohT := x18 _ _ ohT
    replace d13 := Dp.mono x18 d13
    replace d16 := Dp.mono x18 d16
    replace d17 := Dp.mono x18 d17
    have d18 : Dp K H18 (.ref p18) (.tuple [.str "true"]) := .of_tup e18 (.cons (.str _) .nil)
    clear n18 e18 x18
    walk_at "10"
    walk_at "83"
    intro p19 H19 n19 x19 e19
    replace hS := xl x19 hS
    replace X := xtr X x19
    replace hT := DpAll.mono x19 hT
    replace ohT := x19 _ _ ohT
    replace d13 := Dp.mono x19 d13
    replace d16 := Dp.mono x19 d16
    replace d17 := Dp.mono x19 d17
    replace d18 := Dp.mono x19 d18
    have d19 : Dp K H19 (.ref p19) (.tuple [.bool false, .tuple [.str "true"], .tuple [.str "true"]]) := .of_tup e19 (.cons (.bl _) (.cons d17 (.cons d18 .nil)))
    clear n19 e19 x19 d17 d18
    walk_at "9"
    walk_at "35"
    walk_at "9"
    walk_at "7"
    walk_at "9"
    walk_at "35"
    walk_at "9"
    walk_at "7"
    walk_at "9"
    walk_at "35"
    walk_at "9"
    walk_at "7"
    walk_at "10"
    walk_at "83"
    intro p20 H20 n20 x20 e20
    replace hS := xl x20 hS
    replace X := xtr X x20
    replace hT := DpAll.mono x20 hT
    replace ohT := x20 _ _ ohT
    replace d13 := Dp.mono x20 d13
    replace d16 := Dp.mono x20 d16
    replace d19 := Dp.mono x20 d19
    have d20 : Dp K H20 (.ref p20) (.tuple [.str "a"]) := .of_tup e20 (.cons (.str _) .nil)
    clear n20 e20 x20
    walk_at "10"
    walk_at "83"
    intro p21 H21 n21 x21 e21
    replace hS := xl x21 hS
    replace X := xtr X x21
    replace hT := DpAll.mono x21 hT
    replace ohT := x21 _ _ ohT
    replace d13 := Dp.mono x21 d13
    replace d16 := Dp.mono x21 d16
    replace d19 := Dp.mono x21 d19
    replace d20 := Dp.mono x21 d20
    have d21 : Dp K H21 (.ref p21) (.tuple [.str "f", .tuple [.str "a"]]) := .of_tup e21 (.cons (.str _) (.cons d20 .nil))
    clear n21 e21 x21 d20
    walk_at "9"
    walk_at "35"
    walk_at "9"
    walk_at "7"
    walk_at "10"
    walk_at "83"
    intro p22 H22 n22 x22 e22
    replace hS := xl x22 hS
    replace X := xtr X x22
    replace hT := DpAll.mono x22 hT
    replace ohT := x22 _ _ ohT
    replace d13 := Dp.mono x22 d13
    replace d16 := Dp.mono x22 d16
    replace d19 := Dp.mono x22 d19
    replace d21 := Dp.mono x22 d21
    have d22 : Dp K H22 (.ref p22) (.tuple [.str "a"]) := .of_tup e22 (.cons (.str _) .nil)
    clear n22 e22 x22
    walk_at "10"
    walk_at "83"
    intro p23 H23 n23 x23 e23
    replace hS := xl x23 hS
    replace X := xtr X x23
    replace hT := DpAll.mono x23 hT
    replace ohT := x23 _ _ ohT
    replace d13 := Dp.mono x23 d13
    replace d16 := Dp.mono x23 d16
    replace d19 := Dp.mono x23 d19
    replace d21 := Dp.mono x23 d21
    replace d22 := Dp.mono x23 d22
    have d23 : Dp K H23 (.ref p23) (.tuple [.bool true, .tuple [.str "f", .tuple [.str "a"]], .tuple [.str "a"]]) := .of_tup e23 (.cons (.bl _) (.cons d21 (.cons d22 .nil)))
    clear n23 e23 x23 d21 d22
    walk_at "10"
    walk_at "82"
    intro p24 H24 n24 x24 e24
    replace hS := xl x24 hS
    replace X := xtr X x24
    replace hT := DpAll.mono x24 hT
    replace ohT := x24 _ _ ohT
    replace d13 := Dp.mono x24 d13
    replace d16 := Dp.mono x24 d16
    replace d19 := Dp.mono x24 d19
    replace d23 := Dp.mono x24 d23
    have hL : DpAll K H24 [.ref p13, .ref p16, .ref p19, .ref p23] litsL := (.cons d13 (.cons d16 (.cons d19 (.cons d23 .nil))))
    clear n24 x24 d13 d16 d19 d23
    have ohL := e24
    clear e24
    walk_at "6"
    walk_at "0"
    walk_at "1"
    walk_at "34"
    walk_at "9"
    walk_at "35"
    walk_at "10"
    walk_at "83"
    intro p25 H25 n25 x25 e25
    replace hS := xl x25 hS
    replace X := xtr X x25
    replace hT := DpAll.mono x25 hT
    replace ohT := x25 _ _ ohT
    replace hL := DpAll.mono x25 hL
    replace ohL := x25 _ _ ohL
    have d25 : Dp K H25 (.ref p25) (.tuple []) := .of_tup e25 .nil
    clear n25 e25 x25
    walk_at "9"
    walk_at "35"
    walk_at "9"
    walk_at "35"
    walk_at "9"
    walk_at "35"
    walk_at "9"
    walk_at "7"
    walk_at "9"
    walk_at "7"
    walk_at "10"
    walk_at "83"
    intro p26 H26 n26 x26 e26
    replace hS := xl x26 hS
    replace X := xtr X x26
    replace hT := DpAll.mono x26 hT
    replace ohT := x26 _ _ ohT
    replace hL := DpAll.mono x26 hL
    replace ohL := x26 _ _ ohL
    replace d25 := Dp.mono x26 d25
    have d26 : Dp K H26 (.ref p26) (.tuple [.str "X", .str "s"]) := .of_tup e26 (.cons (.str _) (.cons (.str _) .nil))
    clear n26 e26 x26
    walk_at "9"
    walk_at "35"
    walk_at "9"
    walk_at "7"
    walk_at "10"
    walk_at "83"
    intro p27 H27 n27 x27 e27
    replace hS := xl x27 hS
    replace X := xtr X x27
    replace hT := DpAll.mono x27 hT
    replace ohT := x27 _ _ ohT
    replace hL := DpAll.mono x27 hL
    replace ohL := x27 _ _ ohL
    replace d25 := Dp.mono x27 d25
    replace d26 := Dp.mono x27 d26
    have d27 : Dp K H27 (.ref p27) (.tuple [.str "a"]) := .of_tup e27 (.cons (.str _) .nil)
    clear n27 e27 x27
    walk_at "10"
    walk_at "83"
    intro p28 H28 n28 x28 e28
    replace hS := xl x28 hS
    replace X := xtr X x28
    replace hT := DpAll.mono x28 hT
    replace ohT := x28 _ _ ohT
    replace hL := DpAll.mono x28 hL
    replace ohL := x28 _ _ ohL
    replace d25 := Dp.mono x28 d25
    replace d26 := Dp.mono x28 d26
    replace d27 := Dp.mono x28 d27
    have d28 : Dp K H28 (.ref p28) (.tuple [.tuple [.str "X", .str "s"], .tuple [.str "a"]]) := .of_tup e28 (.cons d26 (.cons d27 .nil))
    clear n28 e28 x28 d26 d27
    walk_at "10"
    walk_at "83"
    intro p29 H29 n29 x29 e29
    replace hS := xl x29 hS
    replace X := xtr X x29
    replace hT := DpAll.mono x29 hT
    replace ohT := x29 _ _ ohT
    replace hL := DpAll.mono x29 hL
    replace ohL := x29 _ _ ohL
    replace d25 := Dp.mono x29 d25
    replace d28 := Dp.mono x29 d28
    have d29 : Dp K H29 (.ref p29) (.tuple [.tuple [.tuple [.str "X", .str "s"], .tuple [.str "a"]]]) := .of_tup e29 (.cons d28 .nil)
    clear n29 e29 x29 d28
    walk_at "9"
    walk_at "35"
    walk_at "9"
    walk_at "35"
    walk_at "9"
    walk_at "35"
    walk_at "9"
    walk_at "7"
    walk_at "9"
    walk_at "7"
    walk_at "10"
    walk_at "83"
    intro p30 H30 n30 x30 e30
    replace hS := xl x30 hS
    replace X := xtr X x30
    replace hT := DpAll.mono x30 hT
    replace ohT := x30 _ _ ohT
    replace hL := DpAll.mono x30 hL
    replace ohL := x30 _ _ ohL
    replace d25 := Dp.mono x30 d25
    replace d29 := Dp.mono x30 d29
    have d30 : Dp K H30 (.ref p30) (.tuple [.str "Y", .str "s"]) := .of_tup e30 (.cons (.str _) (.cons (.str _) .nil))
    clear n30 e30 x30
    walk_at "9"
    walk_at "35"
    walk_at "9"
    walk_at "7"
    walk_at "10"
    walk_at "83"
    intro p31 H31 n31 x31 e31
    replace hS := xl x31 hS
    replace X := xtr X x31
    replace hT := DpAll.mono x31 hT
    replace ohT := x31 _ _ ohT
    replace hL := DpAll.mono x31 hL
    replace ohL := x31 _ _ ohL
    replace d25 := Dp.mono x31 d25
    replace d29 := Dp.mono x31 d29
    replace d30 := Dp.mono x31 d30
    have d31 : Dp K H31 (.ref p31) (.tuple [.str "b"]) := .of_tup e31 (.cons (.str _) .nil)
    clear n31 e31 x31
    walk_at "10"
    walk_at "83"
    intro p32 H32 n32 x32 e32
    replace hS := xl x32 hS
    replace X := xtr X x32
    replace hT := DpAll.mono x32 hT
    replace ohT := x32 _ _ ohT
    replace hL := DpAll.mono x32 hL
    replace ohL := x32 _ _ ohL
    replace d25 := Dp.mono x32 d25
    replace d29 := Dp.mono x32 d29
    replace d30 := Dp.mono x32 d30
    replace d31 := Dp.mono x32 d31
    have d32 : Dp K H32 (.ref p32) (.tuple [.tuple [.str "Y", .str "s"], .tuple [.str "b"]]) := .of_tup e32 (.cons d30 (.cons d31 .nil))
    clear n32 e32 x32 d30 d31
    walk_at "9"
    walk_at "35"
    walk_at "9"
    walk_at "35"
    walk_at "9"
    walk_at "7"
    walk_at "9"
    walk_at "7"
    walk_at "10"
    walk_at "83"
    intro p33 H33 n33 x33 e33
    replace hS := xl x33 hS
    replace X := xtr X x33
    replace hT := DpAll.mono x33 hT
    replace ohT := x33 _ _ ohT
    replace hL := DpAll.mono x33 hL
    replace ohL := x33 _ _ ohL
    replace d25 := Dp.mono x33 d25
    replace d29 := Dp.mono x33 d29
    replace d32 := Dp.mono x33 d32
    have d33 : Dp K H33 (.ref p33) (.tuple [.str "X", .str "s"]) := .of_tup e33 (.cons (.str _) (.cons (.str _) .nil))
    clear n33 e33 x33
    walk_at "9"
    walk_at "35"
    walk_at "9"
    walk_at "7"
    walk_at "9"
    walk_at "7"
    walk_at "10"
    walk_at "83"
    intro p34 H34 n34 x34 e34
    replace hS := xl x34 hS
    replace X := xtr X x34
    replace hT := DpAll.mono x34 hT
    replace ohT := x34 _ _ ohT
    replace hL := DpAll.mono x34 hL
    replace ohL := x34 _ _ ohL
    replace d25 := Dp.mono x34 d25
    replace d29 := Dp.mono x34 d29
    replace d32 := Dp.mono x34 d32
    replace d33 := Dp.mono x34 d33
    have d34 : Dp K H34 (.ref p34) (.tuple [.str "Y", .str "s"]) := .of_tup e34 (.cons (.str _) (.cons (.str _) .nil))
    clear n34 e34 x34
    walk_at "10"
    walk_at "83"
    intro p35 H35 n35 x35 e35
    replace hS := xl x35 hS
    replace X := xtr X x35
    replace hT := DpAll.mono x35 hT
    replace ohT := x35 _ _ ohT
    replace hL := DpAll.mono x35 hL
    replace ohL := x35 _ _ ohL
    replace d25 := Dp.mono x35 d25
    replace d29 := Dp.mono x35 d29
    replace d32 := Dp.mono x35 d32
    replace d33 := Dp.mono x35 d33
    replace d34 := Dp.mono x35 d34
    have d35 : Dp K H35 (.ref p35) (.tuple [.tuple [.str "X", .str "s"], .tuple [.str "Y", .str "s"]]) := .of_tup e35 (.cons d33 (.cons d34 .nil))
    clear n35 e35 x35 d33 d34
    walk_at "10"
    walk_at "83"
    intro p36 H36 n36 x36 e36
    replace hS := xl x36 hS
    replace X := xtr X x36
    replace hT := DpAll.mono x36 hT
    replace ohT := x36 _ _ ohT
    replace hL := DpAll.mono x36 hL
    replace ohL := x36 _ _ ohL
    replace d25 := Dp.mono x36 d25
    replace d29 := Dp.mono x36 d29
    replace d32 := Dp.mono x36 d32
    replace d35 := Dp.mono x36 d35
    have d36 : Dp K H36 (.ref p36) (.tuple [.tuple [.tuple [.str "Y", .str "s"], .tuple [.str "b"]], .tuple [.tuple [.str "X", .str "s"], .tuple [.str "Y", .str "s"]]]) := .of_tup e36 (.cons d32 (.cons d35 .nil))
    clear n36 e36 x36 d32 d35
    walk_at "9"
    walk_at "35"
    walk_at "9"
    walk_at "35"
    walk_at "9"
    walk_at "35"
    walk_at "9"
    walk_at "7"
    walk_at "9"
    walk_at "7"
    walk_at "10"
    walk_at "83"
    intro p37 H37 n37 x37 e37
    replace hS := xl x37 hS
    replace X := xtr X x37
    replace hT := DpAll.mono x37 hT
    replace ohT := x37 _ _ ohT
    replace hL := DpAll.mono x37 hL
    replace ohL := x37 _ _ ohL
    replace d25 := Dp.mono x37 d25
    replace d29 := Dp.mono x37 d29
    replace d36 := Dp.mono x37 d36
    have d37 : Dp K H37 (.ref p37) (.tuple [.str "X", .str "s"]) := .of_tup e37 (.cons (.str _) (.cons (.str _) .nil))
    clear n37 e37 x37
    walk_at "9"
    walk_at "35"
    walk_at "9"
    walk_at "7"
    walk_at "9"
    walk_at "35"
    walk_at "9"
    walk_at "7"
    walk_at "9"
    walk_at "7"
    walk_at "10"
    walk_at "83"
    intro p38 H38 n38 x38 e38
    replace hS := xl x38 hS
    replace X := xtr X x38
    replace hT := DpAll.mono x38 hT
    replace ohT := x38 _ _ ohT
    replace hL := DpAll.mono x38 hL
    replace ohL := x38 _ _ ohL
    replace d25 := Dp.mono x38 d25
    replace d29 := Dp.mono x38 d29
    replace d36 := Dp.mono x38 d36
    replace d37 := Dp.mono x38 d37
    have d38 : Dp K H38 (.ref p38) (.tuple [.str "X", .str "s"]) := .of_tup e38 (.cons (.str _) (.cons (.str _) .nil))
    clear n38 e38 x38
    walk_at "10"
    walk_at "83"
    intro p39 H39 n39 x39 e39
    replace hS := xl x39 hS
    replace X := xtr X x39
    replace hT := DpAll.mono x39 hT
    replace ohT := x39 _ _ ohT
    replace hL := DpAll.mono x39 hL
    replace ohL := x39 _ _ ohL
    replace d25 := Dp.mono x39 d25
    replace d29 := Dp.mono x39 d29
    replace d36 := Dp.mono x39 d36
    replace d37 := Dp.mono x39 d37
    replace d38 := Dp.mono x39 d38
    have d39 : Dp K H39 (.ref p39) (.tuple [.str "f", .tuple [.str "X", .str "s"]]) := .of_tup e39 (.cons (.str _) (.cons d38 .nil))
    clear n39 e39 x39 d38
    walk_at "10"
    walk_at "83"
    intro p40 H40 n40 x40 e40
    replace hS := xl x40 hS
    replace X := xtr X x40
    replace hT := DpAll.mono x40 hT
    replace ohT := x40 _ _ ohT
    replace hL := DpAll.mono x40 hL
    replace ohL := x40 _ _ ohL
    replace d25 := Dp.mono x40 d25
    replace d29 := Dp.mono x40 d29
    replace d36 := Dp.mono x40 d36
    replace d37 := Dp.mono x40 d37
    replace d39 := Dp.mono x40 d39
    have d40 : Dp K H40 (.ref p40) (.tuple [.tuple [.str "X", .str "s"], .tuple [.str "f", .tuple [.str "X", .str "s"]]]) := .of_tup e40 (.cons d37 (.cons d39 .nil))
    clear n40 e40 x40 d37 d39
    walk_at "10"
    walk_at "83"
    intro p41 H41 n41 x41 e41
    replace hS := xl x41 hS
    replace X := xtr X x41
    replace hT := DpAll.mono x41 hT
    replace ohT := x41 _ _ ohT
    replace hL := DpAll.mono x41 hL
    replace ohL := x41 _ _ ohL
    replace d25 := Dp.mono x41 d25
    replace d29 := Dp.mono x41 d29
    replace d36 := Dp.mono x41 d36
    replace d40 := Dp.mono x41 d40
    have d41 : Dp K H41 (.ref p41) (.tuple [.tuple [.tuple [.str "X", .str "s"], .tuple [.str "f", .tuple [.str "X", .str "s"]]]]) := .of_tup e41 (.cons d40 .nil)
    clear n41 e41 x41 d40
    walk_at "10"
    walk_at "82"
    intro p42 H42 n42 x42 e42
    replace hS := xl x42 hS
    replace X := xtr X x42
    replace hT := DpAll.mono x42 hT
    replace ohT := x42 _ _ ohT
    replace hL := DpAll.mono x42 hL
    replace ohL := x42 _ _ ohL
    replace d25 := Dp.mono x42 d25
    replace d29 := Dp.mono x42 d29
    replace d36 := Dp.mono x42 d36
    replace d41 := Dp.mono x42 d41
    have hF1 : DpAll K H42 [.ref p25, .ref p29, .ref p36, .ref p41] (fillsL.take 4) := (.cons d25 (.cons d29 (.cons d36 (.cons d41 .nil))))
    clear n42 x42 d25 d29 d36 d41
    have ohF1 := e42
    clear e42
    walk_at "6"
    walk_at "0"
    walk_at "1"
    walk_at "8"
    walk_at "69"
    walk_at "34"
    walk_at "9"
    walk_at "35"
    walk_at "9"
    walk_at "35"
    walk_at "9"
    walk_at "35"
    walk_at "9"
    walk_at "7"
    walk_at "9"
    walk_at "7"
    walk_at "10"
    walk_at "83"
    intro p43 H43 n43 x43 e43
    replace hS := xl x43 hS
    replace X := xtr X x43
    replace hT := DpAll.mono x43 hT
    replace ohT := x43 _ _ ohT
    replace hL := DpAll.mono x43 hL
    replace ohL := x43 _ _ ohL
    replace hF1 := DpAll.mono x43 hF1
    replace ohF1 := x43 _ _ ohF1
    have d43 : Dp K H43 (.ref p43) (.tuple [.str "X", .str "s"]) := .of_tup e43 (.cons (.str _) (.cons (.str _) .nil))
    clear n43 e43 x43
    walk_at "9"
    walk_at "35"
    walk_at "9"
    walk_at "7"
    walk_at "9"
    walk_at "7"
    walk_at "10"
    walk_at "83"
    intro p44 H44 n44 x44 e44
    replace hS := xl x44 hS
    replace X := xtr X x44
    replace hT := DpAll.mono x44 hT
    replace ohT := x44 _ _ ohT
    replace hL := DpAll.mono x44 hL
    replace ohL := x44 _ _ ohL
    replace hF1 := DpAll.mono x44 hF1
    replace ohF1 := x44 _ _ ohF1
    replace d43 := Dp.mono x44 d43
    have d44 : Dp K H44 (.ref p44) (.tuple [.str "Y", .str "s"]) := .of_tup e44 (.cons (.str _) (.cons (.str _) .nil))
    clear n44 e44 x44
    walk_at "10"
    walk_at "83"
    intro p45 H45 n45 x45 e45
    replace hS := xl x45 hS
    replace X := xtr X x45
    replace hT := DpAll.mono x45 hT
    replace ohT := x45 _ _ ohT
    replace hL := DpAll.mono x45 hL
    replace ohL := x45 _ _ ohL
    replace hF1 := DpAll.mono x45 hF1
    replace ohF1 := x45 _ _ ohF1
    replace d43 := Dp.mono x45 d43
    replace d44 := Dp.mono x45 d44
    have d45 : Dp K H45 (.ref p45) (.tuple [.tuple [.str "X", .str "s"], .tuple [.str "Y", .str "s"]]) := .of_tup e45 (.cons d43 (.cons d44 .nil))
    clear n45 e45 x45 d43 d44
    walk_at "9"
    walk_at "35"
    walk_at "9"
    walk_at "35"
    walk_at "9"
    walk_at "7"
    walk_at "9"
    walk_at "7"
    walk_at "10"
    walk_at "83"
    intro p46 H46 n46 x46 e46
    replace hS := xl x46 hS
    replace X := xtr X x46
    replace hT := DpAll.mono x46 hT
    replace ohT := x46 _ _ ohT
    replace hL := DpAll.mono x46 hL
    replace ohL := x46 _ _ ohL
    replace hF1 := DpAll.mono x46 hF1
    replace ohF1 := x46 _ _ ohF1
    replace d45 := Dp.mono x46 d45
    have d46 : Dp K H46 (.ref p46) (.tuple [.str "Y", .str "s"]) := .of_tup e46 (.cons (.str _) (.cons (.str _) .nil))
    clear n46 e46 x46
    walk_at "9"
    walk_at "35"
    walk_at "9"
    walk_at "7"
    walk_at "10"
    walk_at "83"
    intro p47 H47 n47 x47 e47
    replace hS := xl x47 hS
    replace X := xtr X x47
    replace hT := DpAll.mono x47 hT
    replace ohT := x47 _ _ ohT
    replace hL := DpAll.mono x47 hL
    replace ohL := x47 _ _ ohL
    replace hF1 := DpAll.mono x47 hF1
    replace ohF1 := x47 _ _ ohF1
    replace d45 := Dp.mono x47 d45
    replace d46 := Dp.mono x47 d46
    have d47 : Dp K H47 (.ref p47) (.tuple [.str "b"]) := .of_tup e47 (.cons (.str _) .nil)
    clear n47 e47 x47
    walk_at "10"
    walk_at "83"
    intro p48 H48 n48 x48 e48
    replace hS := xl x48 hS
    replace X := xtr X x48
    replace hT := DpAll.mono x48 hT
    replace ohT := x48 _ _ ohT
    replace hL := DpAll.mono x48 hL
    replace ohL := x48 _ _ ohL
    replace hF1 := DpAll.mono x48 hF1
    replace ohF1 := x48 _ _ ohF1
    replace d45 := Dp.mono x48 d45
    replace d46 := Dp.mono x48 d46
    replace d47 := Dp.mono x48 d47
    have d48 : Dp K H48 (.ref p48) (.tuple [.tuple [.str "Y", .str "s"], .tuple [.str "b"]]) := .of_tup e48 (.cons d46 (.cons d47 .nil))
    clear n48 e48 x48 d46 d47
    walk_at "10"
    walk_at "83"
    intro p49 H49 n49 x49 e49
    replace hS := xl x49 hS
    replace X := xtr X x49
    replace hT := DpAll.mono x49 hT
    replace ohT := x49 _ _ ohT
    replace hL := DpAll.mono x49 hL
    replace ohL := x49 _ _ ohL
    replace hF1 := DpAll.mono x49 hF1
    replace ohF1 := x49 _ _ ohF1
    replace d45 := Dp.mono x49 d45
    replace d48 := Dp.mono x49 d48
    have d49 : Dp K H49 (.ref p49) (.tuple [.tuple [.tuple [.str "X", .str "s"], .tuple [.str "Y", .str "s"]], .tuple [.tuple [.str "Y", .str "s"], .tuple [.str "b"]]]) := .of_tup e49 (.cons d45 (.cons d48 .nil))
    clear n49 e49 x49 d45 d48
    walk_at "9"
    walk_at "35"
    walk_at "9"
    walk_at "35"
    walk_at "9"
    walk_at "35"
    walk_at "9"
    walk_at "7"
    walk_at "9"
    walk_at "7"
    walk_at "10"
    walk_at "83"
    intro p50 H50 n50 x50 e50
    replace hS := xl x50 hS
    replace X := xtr X x50
    replace hT := DpAll.mono x50 hT
    replace ohT := x50 _ _ ohT
    replace hL := DpAll.mono x50 hL
    replace ohL := x50 _ _ ohL
    replace hF1 := DpAll.mono x50 hF1
    replace ohF1 := x50 _ _ ohF1
    replace d49 := Dp.mono x50 d49
    have d50 : Dp K H50 (.ref p50) (.tuple [.str "X", .str "t"]) := .of_tup e50 (.cons (.str _) (.cons (.str _) .nil))
    clear n50 e50 x50
    walk_at "9"
    walk_at "35"
    walk_at "9"
    walk_at "7"
    walk_at "9"
    walk_at "7"
    walk_at "10"
    walk_at "83"
    intro p51 H51 n51 x51 e51
    replace hS := xl x51 hS
    replace X := xtr X x51
    replace hT := DpAll.mono x51 hT
    replace ohT := x51 _ _ ohT
    replace hL := DpAll.mono x51 hL
    replace ohL := x51 _ _ ohL
    replace hF1 := DpAll.mono x51 hF1
    replace ohF1 := x51 _ _ ohF1
    replace d49 := Dp.mono x51 d49
    replace d50 := Dp.mono x51 d50
    have d51 : Dp K H51 (.ref p51) (.tuple [.str "Y", .str "t"]) := .of_tup e51 (.cons (.str _) (.cons (.str _) .nil))
    clear n51 e51 x51
    walk_at "10"
    walk_at "83"
    intro p52 H52 n52 x52 e52
    replace hS := xl x52 hS
    replace X := xtr X x52
    replace hT := DpAll.mono x52 hT
    replace ohT := x52 _ _ ohT
    replace hL := DpAll.mono x52 hL
    replace ohL := x52 _ _ ohL
    replace hF1 := DpAll.mono x52 hF1
    replace ohF1 := x52 _ _ ohF1
    replace d49 := Dp.mono x52 d49
    replace d50 := Dp.mono x52 d50
    replace d51 := Dp.mono x52 d51
    have d52 : Dp K H52 (.ref p52) (.tuple [.tuple [.str "X", .str "t"], .tuple [.str "Y", .str "t"]]) := .of_tup e52 (.cons d50 (.cons d51 .nil))
    clear n52 e52 x52 d50 d51
    walk_at "10"
    walk_at "83"
    intro p53 H53 n53 x53 e53
    replace hS := xl x53 hS
    replace X := xtr X x53
    replace hT := DpAll.mono x53 hT
    replace ohT := x53 _ _ ohT
    replace hL := DpAll.mono x53 hL
    replace ohL := x53 _ _ ohL
    replace hF1 := DpAll.mono x53 hF1
    replace ohF1 := x53 _ _ ohF1
    replace d49 := Dp.mono x53 d49
    replace d52 := Dp.mono x53 d52
    have d53 : Dp K H53 (.ref p53) (.tuple [.tuple [.tuple [.str "X", .str "t"], .tuple [.str "Y", .str "t"]]]) := .of_tup e53 (.cons d52 .nil)
    clear n53 e53 x53 d52
    walk_at "10"
    walk_at "82"
    intro p54 H54 n54 x54 e54
    replace hS := xl x54 hS
    replace X := xtr X x54
    replace hT := DpAll.mono x54 hT
    replace ohT := x54 _ _ ohT
    replace hL := DpAll.mono x54 hL
    replace ohL := x54 _ _ ohL
    replace hF1 := DpAll.mono x54 hF1
    replace ohF1 := x54 _ _ ohF1
    replace d49 := Dp.mono x54 d49
    replace d53 := Dp.mono x54 d53
    have hF2 : DpAll K H54 [.ref p49, .ref p53] (fillsL.drop 4) := (.cons d49 (.cons d53 .nil))
    clear n54 x54 d49 d53
    have ohF2 := e54
    clear e54
    refine v_plus_lst ohF1 ohF2 (szL (by simp)) fun p55 H55 n55 x55 e55 => ?_
    replace hS := xl x55 hS
    replace X := xtr X x55
    replace hT := DpAll.mono x55 hT
    replace ohT := x55 _ _ ohT
    replace hL := DpAll.mono x55 hL
    replace ohL := x55 _ _ ohL
    replace hF1 := DpAll.mono x55 hF1
    replace ohF1 := x55 _ _ ohF1
    replace hF2 := DpAll.mono x55 hF2
    replace ohF2 := x55 _ _ ohF2
    have hF : DpAll K H55 _ fillsL := DpAll.app hF1 hF2
    have ohF := e55
    clear n55 e55 x55 hF1 hF2 ohF1 ohF2
    walk_at "6"
    walk_at "0"
    walk_at "1"
    walk_at "34"
    walk_at "9"
    walk_at "35"
    walk_at "9"
    walk_at "7"
    walk_at "10"
    walk_at "83"
    intro p56 H56 n56 x56 e56
    replace hS := xl x56 hS
    replace X := xtr X x56
    replace hT := DpAll.mono x56 hT
    replace ohT := x56 _ _ ohT
    replace hL := DpAll.mono x56 hL
    replace ohL := x56 _ _ ohL
    replace hF := DpAll.mono x56 hF
    replace ohF := x56 _ _ ohF
    have d56 : Dp K H56 (.ref p56) (.tuple [.int 0]) := .of_tup e56 (.cons (.int _) .nil)
    clear n56 e56 x56
    walk_at "9"
    walk_at "35"
    walk_at "9"
    walk_at "7"
    walk_at "10"
    walk_at "83"
    intro p57 H57 n57 x57 e57
    replace hS := xl x57 hS
    replace X := xtr X x57
    replace hT := DpAll.mono x57 hT
    replace ohT := x57 _ _ ohT
    replace hL := DpAll.mono x57 hL
    replace ohL := x57 _ _ ohL
    replace hF := DpAll.mono x57 hF
    replace ohF := x57 _ _ ohF
    replace d56 := Dp.mono x57 d56
    have d57 : Dp K H57 (.ref p57) (.tuple [.int 1]) := .of_tup e57 (.cons (.int _) .nil)
    clear n57 e57 x57
    walk_at "9"
    walk_at "35"
    walk_at "9"
    walk_at "7"
    walk_at "9"
    walk_at "7"
    walk_at "10"
    walk_at "83"
    intro p58 H58 n58 x58 e58
    replace hS := xl x58 hS
    replace X := xtr X x58
    replace hT := DpAll.mono x58 hT
    replace ohT := x58 _ _ ohT
    replace hL := DpAll.mono x58 hL
    replace ohL := x58 _ _ ohL
    replace hF := DpAll.mono x58 hF
    replace ohF := x58 _ _ ohF
    replace d56 := Dp.mono x58 d56
    replace d57 := Dp.mono x58 d57
    have d58 : Dp K H58 (.ref p58) (.tuple [.int 0, .int 0]) := .of_tup e58 (.cons (.int _) (.cons (.int _) .nil))
    clear n58 e58 x58
    walk_at "9"
    walk_at "35"
    walk_at "9"
    walk_at "7"
    walk_at "9"
    walk_at "7"
    walk_at "9"
    walk_at "7"
    walk_at "10"
    walk_at "83"
    intro p59 H59 n59 x59 e59
    replace hS := xl x59 hS
    replace X := xtr X x59
    replace hT := DpAll.mono x59 hT
    replace ohT := x59 _ _ ohT
    replace hL := DpAll.mono x59 hL
    replace ohL := x59 _ _ ohL
    replace hF := DpAll.mono x59 hF
    replace ohF := x59 _ _ ohF
    replace d56 := Dp.mono x59 d56
    replace d57 := Dp.mono x59 d57
    replace d58 := Dp.mono x59 d58
    have d59 : Dp K H59 (.ref p59) (.tuple [.int 1, .int 2, .int 0]) := .of_tup e59 (.cons (.int _) (.cons (.int _) (.cons (.int _) .nil)))
    clear n59 e59 x59
    walk_at "10"
    walk_at "82"
    intro p60 H60 n60 x60 e60
    replace hS := xl x60 hS
    replace X := xtr X x60
    replace hT := DpAll.mono x60 hT
    replace ohT := x60 _ _ ohT
    replace hL := DpAll.mono x60 hL
    replace ohL := x60 _ _ ohL
    replace hF := DpAll.mono x60 hF
    replace ohF := x60 _ _ ohF
    replace d56 := Dp.mono x60 d56
    replace d57 := Dp.mono x60 d57
    replace d58 := Dp.mono x60 d58
    replace d59 := Dp.mono x60 d59
    have hP : DpAll K H60 [.ref p56, .ref p57, .ref p58, .ref p59] placesL := (.cons d56 (.cons d57 (.cons d58 (.cons d59 .nil))))
    clear n60 x60 d56 d57 d58 d59
    have ohP := e60
    clear e60
    generalize H60 = G at *
    replace hT : Dp K G _ (.list termsL) := .of_lst ohT hT
    replace hL : Dp K G _ (.list litsL) := .of_lst ohL hL
    replace hF : Dp K G _ (.list fillsL) := .of_lst ohF hF
    replace hP : Dp K G _ (.list placesL) := .of_lst ohP hP
    have a0 : atI (([r0, r1, r2, r3, r4, r5, r6, r7, r8, r9, r10, r11] : List Int).map V.int) 0 = some (.int r0) := rfl
    have a1 : atI (([r0, r1, r2, r3, r4, r5, r6, r7, r8, r9, r10, r11] : List Int).map V.int) 1 = some (.int r1) := rfl
    have a2 : atI (([r0, r1, r2, r3, r4, r5, r6, r7, r8, r9, r10, r11] : List Int).map V.int) 2 = some (.int r2) := rfl
    have a3 : atI (([r0, r1, r2, r3, r4, r5, r6, r7, r8, r9, r10, r11] : List Int).map V.int) 3 = some (.int r3) := rfl
    have a4 : atI (([r0, r1, r2, r3, r4, r5, r6, r7, r8, r9, r10, r11] : List Int).map V.int) 4 = some (.int r4) := rfl
    have a5 : atI (([r0, r1, r2, r3, r4, r5, r6, r7, r8, r9, r10, r11] : List Int).map V.int) 5 = some (.int r5) := rfl
    have a6 : atI (([r0, r1, r2, r3, r4, r5, r6, r7, r8, r9, r10, r11] : List Int).map V.int) 6 = some (.int r6) := rfl
    have a7 : atI (([r0, r1, r2, r3, r4, r5, r6, r7, r8, r9, r10, r11] : List Int).map V.int) 7 = some (.int r7) := rfl
    have a8 : atI (([r0, r1, r2, r3, r4, r5, r6, r7, r8, r9, r10, r11] : List Int).map V.int) 8 = some (.int r8) := rfl
    generalize ([r0, r1, r2, r3, r4, r5, r6, r7, r8, r9, r10, r11] : List Int).map V.int = row at *
    walk_at "6"
    walk_at "0"
    walk_at "1"
    walk_at "8"
    walk_at "69"
    walk_at "7"
    walk_at "79"
    walk_at "6"
    show Evl.tCut _ _ _ _ _
    refine k_cut (fun σ' H' => ∃ kd : Int, σ' = [some (.ref a), some (.int (k : Int)), some (.ref p9), some (.ref p24), some (.ref p55), some (.ref p60), some (.int kd), none, none] ∧ G = H' ∧ (0 ≤ kd ∧ kd < 18) ∧ (k = 0 → kd < 4)) ?_ ?_
    · walk_at "4"
      walk_at "14"
      walk_at "8"
      walk_at "69"
      walk_at "7"
      walk_at "75"
      walk_at "88"
      refine k_if (fun h => ?_) (fun h => ?_)
      · walk_at "1"
        walk_at "8"
        walk_at "11"
        walk_at "9"
        walk_at "69"
        walk_at "10"
        walk_at "57"
        walk_at "7"
        walk_at "70"
        walk_at "6"
        walk_at "88"
        exact ⟨rfl, ⟨by omega, by omega⟩, fun _ => by omega⟩
      · have hk0 : k ≠ 0 := fun e => h (by rw [e]; rfl)
        walk_at "5"
        walk_at "88"
        exact ⟨rfl, ⟨l0, u0⟩, fun e => absurd e hk0⟩
    rintro σ1 G1 ⟨kd, rfl, rfl, ⟨m0, m1⟩, mk⟩
    show Evl.tCut _ _ _ _ _
    refine k_cut (fun σ' H' => ∃ kd : Int, σ' = [some (.ref a), some (.int (k : Int)), some (.ref p9), some (.ref p24), some (.ref p55), some (.ref p60), some (.int kd), none, none] ∧ G = H' ∧ (0 ≤ kd ∧ kd < 18) ∧ (k = 0 → kd < 4)) ?_ ?_
    · walk_at "4"
      walk_at "17"
      walk_at "14"
      walk_at "8"
      walk_at "69"
      walk_at "7"
      walk_at "55"
      walk_at "88"
      refine k_if (fun h => ?_) (fun h => ?_)
      · walk_at "14"
        walk_at "8"
        walk_at "69"
        walk_at "7"
        walk_at "55"
        walk_at "88"
        refine k_if (fun h2 => ?_) (fun h2 => ?_)
        · walk_at "1"
          walk_at "7"
          walk_at "6"
          walk_at "88"
          exact ⟨rfl, ⟨by decide, by decide⟩, fun e => by omega⟩
        · walk_at "5"
          walk_at "88"
          exact ⟨rfl, ⟨m0, m1⟩, mk⟩
      · walk_at "89"
        walk_at "5"
        walk_at "88"
        exact ⟨rfl, ⟨m0, m1⟩, mk⟩
    rintro σ1 G1 ⟨kd, rfl, rfl, ⟨m0, m1⟩, mk⟩
    obtain ⟨t3, ht3, hi3⟩ := pick_at (L := termsL) l3 u3
    obtain ⟨t4, ht4, hi4⟩ := pick_at (L := termsL) l4 (Int.lt_trans u4 (by decide))
    obtain ⟨f3, hf3, hj3⟩ := pick_at (L := fillsL) l3 u3
    obtain ⟨m4, hm4, hj4⟩ := pick_at (L := litsL) l4 u4
    obtain ⟨pl, hpl, hj5⟩ := pick_at (L := placesL) l5 u5
    try walk_at "6"
    try walk_at "5"
    walk_at "0"
    walk_at "4"
    walk_at "14"
    walk_at "8"
    walk_at "69"
    walk_at "7"
    walk_at "55"
    walk_at "88"
    refine k_if (fun h => ?_) (fun h => ?_)
    · walk_at "2"
      walk_at "35"
      walk_at "9"
      walk_at "7"
      walk_at "9"
      walk_at "8"
      walk_at "8"
      walk_at "69"
      walk_at "7"
      walk_at "79"
      walk_at "7"
      walk_at "70"
      walk_at "10"
      walk_at "83"
      intro p H1 n1 x1 e1
      exact q _ (.base (.tuple [.str "given", .int (r3 / 2)])) H1 (xtr X x1) (given_ok l3 u3) (fun i hi => by cases hi) (.of_tup e1 (.cons (.str _) (.cons (.int _) .nil)))
    try walk_at "6"
    try walk_at "5"
    walk_at "0"
    walk_at "4"
    walk_at "14"
    walk_at "8"
    walk_at "69"
    walk_at "7"
    walk_at "55"
    walk_at "88"
    refine k_if (fun h => ?_) (fun h => ?_)
    · walk_at "2"
      walk_at "35"
      walk_at "9"
      walk_at "7"
      walk_at "9"
      walk_at "8"
      walk_at "69"
      walk_at "8"
      walk_at "69"
      walk_at "7"
      walk_at "79"
      refine d_ixl hT hi3 fun w hw => ?_
      walk_at "10"
      walk_at "83"
      intro p H1 n1 x1 e1
      exact q _ (.base (.tuple [.str "same", t3])) H1 (xtr X x1) (same_ok ht3) (fun i hi => by cases hi) (.of_tup e1 (.cons (.str _) (.cons (Dp.mono x1 hw) .nil)))
    try walk_at "6"
    try walk_at "5"
    walk_at "0"
    walk_at "4"
    walk_at "14"
    walk_at "8"
    walk_at "69"
    walk_at "7"
    walk_at "55"
    walk_at "88"
    refine k_if (fun h => ?_) (fun h => ?_)
    · walk_at "2"
      walk_at "35"
      walk_at "9"
      walk_at "7"
      walk_at "9"
      walk_at "8"
      walk_at "69"
      walk_at "8"
      walk_at "69"
      walk_at "7"
      walk_at "79"
      refine d_ixl hT hi3 fun w hw => ?_
      walk_at "9"
      walk_at "8"
      walk_at "69"
      walk_at "8"
      walk_at "69"
      walk_at "7"
      walk_at "79"
      refine d_ixl hT hi4 fun w4 hw4 => ?_
      walk_at "10"
      walk_at "83"
      intro p H1 n1 x1 e1
      exact q _ (.base (.tuple [.str "either", t3, t4])) H1 (xtr X x1) (either_ok ht3 ht4) (fun i hi => by cases hi) (.of_tup e1 (.cons (.str _) (.cons (Dp.mono x1 hw) (.cons (Dp.mono x1 hw4) .nil))))
    have hk1 : 1 ≤ k := by
      rcases Nat.eq_zero_or_pos k with h0 | h0
      · have := mk h0; omega
      · exact h0
    walk_at "5"
    walk_at "0"
    walk_at "1"
    walk_at "12"
    walk_at "9"
    walk_at "69"
    walk_at "9"
    walk_at "8"
    walk_at "69"
    walk_at "7"
    walk_at "79"
    walk_at "10"
    refine ⟨k, r1, rfl, hk1, hk, l1, u1, fun i hi => ?_⟩
    walk_at "6"
    walk_at "0"
    walk_at "1"
    walk_at "12"
    walk_at "9"
    walk_at "69"
    walk_at "9"
    walk_at "8"
    walk_at "69"
    walk_at "7"
    walk_at "79"
    walk_at "10"
    refine ⟨k, r2, rfl, hk1, hk, l2, u2, fun j hj => ?_⟩
    have one_in : ∀ n : Nat, (∀ i' ∈ [i], i' < k) := fun _ i' hi' => by rw [List.mem_singleton.mp hi']; exact hi
    try walk_at "6"
    try walk_at "5"
    walk_at "0"
    walk_at "4"
    walk_at "14"
    walk_at "8"
    walk_at "69"
    walk_at "7"
    walk_at "55"
    walk_at "88"
    refine k_if (fun h => ?_) (fun h => ?_)
    · walk_at "2"
      walk_at "35"
      walk_at "9"
      walk_at "7"
      walk_at "9"
      walk_at "69"
      walk_at "9"
      walk_at "8"
      walk_at "69"
      walk_at "8"
      walk_at "69"
      walk_at "7"
      walk_at "79"
      refine d_ixl hF hj3 fun w hw => ?_
      walk_at "10"
      walk_at "83"
      intro p H1 n1 x1 e1
      exact q _ (.one "fill" i f3) H1 (xtr X x1) (fill_ok hf3) (one_in 0) (.of_tup e1 (.cons (.str _) (.cons (.int _) (.cons (Dp.mono x1 hw) .nil))))
    try walk_at "6"
    try walk_at "5"
    walk_at "0"
    walk_at "4"
    walk_at "14"
    walk_at "8"
    walk_at "69"
    walk_at "7"
    walk_at "55"
    walk_at "88"
    refine k_if (fun h => ?_) (fun h => ?_)
    · walk_at "2"
      walk_at "35"
      walk_at "9"
      walk_at "7"
      walk_at "9"
      walk_at "69"
      walk_at "9"
      walk_at "8"
      walk_at "69"
      walk_at "8"
      walk_at "69"
      walk_at "7"
      walk_at "79"
      refine d_ixl hL hj4 fun w hw => ?_
      walk_at "10"
      walk_at "83"
      intro p H1 n1 x1 e1
      exact q _ (.one "more" i m4) H1 (xtr X x1) (more_ok hm4) (one_in 0) (.of_tup e1 (.cons (.str _) (.cons (.int _) (.cons (Dp.mono x1 hw) .nil))))
    try walk_at "6"
    try walk_at "5"
    walk_at "0"
    walk_at "4"
    walk_at "14"
    walk_at "8"
    walk_at "69"
    walk_at "7"
    walk_at "55"
    walk_at "88"
    refine k_if (fun h => ?_) (fun h => ?_)
    · walk_at "2"
      walk_at "35"
      walk_at "9"
      walk_at "7"
      walk_at "9"
      walk_at "69"
      walk_at "9"
      walk_at "8"
      walk_at "8"
      walk_at "69"
      walk_at "7"
      walk_at "79"
      walk_at "7"
      walk_at "70"
      walk_at "10"
      walk_at "83"
      intro p H1 n1 x1 e1
      exact q _ (.one "drop" i (.int (r3 / 2))) H1 (xtr X x1) (drop_ok l3 u3) (one_in 0) (.of_tup e1 (.cons (.str _) (.cons (.int _) (.cons (.int _) .nil))))
    walk_at "5"
    walk_at "2"
    walk_at "35"
    walk_at "9"
    walk_at "7"
    walk_at "9"
    walk_at "69"
    walk_at "9"
    walk_at "8"
    walk_at "69"
    walk_at "7"
    walk_at "79"
    walk_at "9"
    walk_at "8"
    walk_at "8"
    walk_at "69"
    walk_at "7"
    walk_at "79"
    walk_at "7"
    walk_at "75"
    walk_at "9"
    walk_at "69"
    walk_at "9"
    walk_at "8"
    walk_at "69"
    walk_at "7"
    walk_at "79"
    walk_at "9"
    walk_at "8"
    walk_at "69"
    walk_at "8"
    walk_at "69"
    walk_at "7"
    walk_at "79"
    refine d_ixl hP hj5 fun w hw => ?_
    walk_at "10"
    walk_at "83"
    intro p H1 n1 x1 e1
    refine q _ (.rep i (.int r7) (.bool (decide (V.int r6 = V.int 0))) j (.int r8) pl) H1 (xtr X x1) ⟨int_ok l7 u7, bool_ok _, int_ok l8 u8, hpl⟩ (fun i' hi' => ?_) (.of_tup e1 (.cons (.str _) (.cons (.int _) (.cons (.int _) (.cons (.bl _) (.cons (.int _) (.cons (.int _) (.cons (Dp.mono x1 hw) .nil))))))))
    have hi' : i' ∈ [i, j] := hi'
    rw [List.mem_cons, List.mem_singleton] at hi'
    rcases hi' with rfl | rfl
    · exact hi
    · exact hj


theorem ok__law_trimmed (T : TopW w P K mg) : FnOk P w K mg base CX0 2 T.f__law_trimmed T.fd__law_trimmed ["steps"] (sp__law_trimmed T) := by
  refine T.F__law_trimmed.ok sc__law_trimmed (fun vs H Q E h => ?_) (fun cdv A outer s H vs Q E hr h => ?_)
  · obtain ⟨a, l, rfl, hv, ok, q⟩ := h
    rfl
  · obtain ⟨a, l, rfl, hv, ok, q⟩ := h
    refine ⟨_, (pss_cons (ps_if (pt_cmpR (r := rEqU K) (op_eqU hr) (pe_callB (r := rLenU K) call_lenU (by rfl) T.n_len PySem.boot_len (pa_cons (pv 0) pa_nil)) pe_int (nomark _)) (pss_one (ps_ret (pe_tup pa_nil))) pss_nil)
      (pss_cons (ps_set (i := 1) sc__law_trimmed.nd rfl (Or.inl rfl) (pe_lst pa_nil))
      (pss_cons (ps_set (i := 2) sc__law_trimmed.nd rfl (Or.inl rfl) (pe_lst pa_nil))
      (pss_cons (ps_for PassesOwn.never rfl (pi_list (pv 0)) (pg_name (i := 3) sc__law_trimmed.nd rfl (Or.inl rfl)) (pss_cons (ps_expr (pe_bm PySem.F.plainAttrs_list PySem.F.slot_list_append PySem.F.type_list_append mt_append (pv 2) (pa_cons (pe_call (ok__law_moved T) (hr.mono (by first | decide | exact Nat.le_refl _ | omega | (show _ ≤ _ + n; omega))) (by rfl) T.g__law_moved T.F__law_moved.kp T.b__law_moved .nil pass0 (pa_cons (pv 3) (pa_cons (pv 1) pa_nil))) pa_nil)))
      (pss_one (ps_expr (pe_bm PySem.F.plainAttrs_list PySem.F.slot_list_append PySem.F.type_list_append mt_append (pv 1) (pa_cons (pe_bm (r := rIndexD K) PySem.F.plainAttrs_list PySem.F.slot_list_index PySem.F.type_list_index (mt_indexD (hu65 hr)) (pv 2) (pa_cons (pe_ix (r := rIx K) ix_seq (pv 2) (pe_op op_sub (pe_callB (r := rLenU K) call_lenU (by rfl) T.n_len PySem.boot_len (pa_cons (pv 2) pa_nil)) pe_int) (fun _ _ => rfl)) pa_nil)) pa_nil))))))
      (pss_cons (ps_set (i := 4) sc__law_trimmed.nd rfl (Or.inl rfl) (pe_ix (r := rIx K) ix_seq (pv 1) (pe_op op_sub (pe_callB (r := rLenU K) call_lenU (by rfl) T.n_len PySem.boot_len (pa_cons (pv 1) pa_nil)) pe_int) (fun _ _ => rfl)))
      (pss_cons (ps_set (i := 5) sc__law_trimmed.nd rfl (Or.inl rfl) (pe_lst (pa_cons (pv 4) pa_nil)))
      (pss_cons (ps_for PassesOwn.never rfl (pi_range1 (by rfl) T.n_range (pa_cons (pe_op (r := rPlus K) op_plus (pv 4) pe_int) pa_nil)) (pg_name (i := 6) sc__law_trimmed.nd rfl (Or.inl rfl)) (pss_one (ps_if (pt_cmpR (r := rInV K) (op_inV hr) (pe_op op_sub (pv 4) (pv 6)) (pv 5) (by with_unfolding_all rfl)) (pss_one (ps_set (i := 5) sc__law_trimmed.nd rfl (Or.inl rfl) (pe_op (r := rPlus K) op_plus (pv 5) (pe_call (ok__law_used T) (hr.mono (by first | decide | exact Nat.le_refl _ | omega | (show _ ≤ _ + n; omega))) (by rfl) T.g__law_used T.F__law_used.kp T.b__law_used .nil pass0 (pa_cons (pe_ix (r := rIx K) ix_seq (pv 2) (pe_op op_sub (pv 4) (pv 6)) (fun _ _ => rfl)) pa_nil))))) pss_nil)))
      (pss_cons (ps_set (i := 7) sc__law_trimmed.nd rfl (Or.inl rfl) (pe_lst pa_nil))
      (pss_cons (ps_set (i := 8) sc__law_trimmed.nd rfl (Or.inl rfl) (pe_lst pa_nil))
      (pss_cons (ps_for PassesOwn.never rfl (pi_range1 (by rfl) T.n_range (pa_cons (pe_op (r := rPlus K) op_plus (pv 4) pe_int) pa_nil)) (pg_name (i := 6) sc__law_trimmed.nd rfl (Or.inl rfl)) (pss_cons (ps_expr (pe_bm PySem.F.plainAttrs_list PySem.F.slot_list_append PySem.F.type_list_append mt_append (pv 7) (pa_cons (pe_callB (r := rLenU K) call_lenU (by rfl) T.n_len PySem.boot_len (pa_cons (pv 8) pa_nil)) pa_nil)))
      (pss_one (ps_if (pt_cmpR (r := rInV K) (op_inV hr) (pv 6) (pv 5) (by with_unfolding_all rfl)) (pss_one (ps_expr (pe_bm PySem.F.plainAttrs_list PySem.F.slot_list_append PySem.F.type_list_append mt_append (pv 8) (pa_cons (pe_call (ok__law_moved T) (hr.mono (by first | decide | exact Nat.le_refl _ | omega | (show _ ≤ _ + n; omega))) (by rfl) T.g__law_moved T.F__law_moved.kp T.b__law_moved .nil pass0 (pa_cons (pe_ix (r := rIx K) ix_seq (pv 2) (pv 6) (fun _ _ => rfl)) (pa_cons (pv 7) pa_nil))) pa_nil)))) pss_nil))))
      (pss_one (ps_ret (pe_callTy (r := rTup K) call_tupU (by rfl) T.n_tuple (by decide +kernel) (pa_cons (pv 8) pa_nil)))))))))))))), ?_⟩
    obtain ⟨a', ws, ea, hS, hws⟩ := Dp.lst_inv hv
    cases ea
    have hwl := hws.len
    rw [List.length_map] at hwl
    have hlen := ok.len
    walk_at "0"
    walk_at "4"
    walk_at "14"
    walk_at "8"
    walk_at "11"
    walk_at "9"
    walk_at "69"
    walk_at "10"
    walk_at "77"
    walk_at "7"
    walk_at "75"
    walk_at "88"
    refine k_if (fun h => ?_) (fun h => ?_)
    · have h0 : ws.length = 0 := Int.ofNat.inj (V.int.inj h)
      have hl0 : l = [] := List.length_eq_zero_iff.mp (by omega)
      subst hl0
      walk_at "2"
      walk_at "35"
      walk_at "10"
      walk_at "83"
      intro p H1 n1 x1 e1
      exact q p H1 x1 (.of_tup e1 .nil)
    have hpos : 0 < l.length := by
      rcases Nat.eq_zero_or_pos l.length with h0 | h0
      · exact absurd (by rw [hwl, h0]; rfl) h
      · exact h0
    walk_at "5"
    walk_at "0"
    walk_at "1"
    walk_at "34"
    walk_at "10"
    walk_at "82"
    intro f H1 n1 x1 e1
    walk_at "6"
    walk_at "0"
    walk_at "1"
    walk_at "34"
    walk_at "10"
    walk_at "82"
    intro m H2 n2 x2 e2
    walk_at "6"
    walk_at "0"
    walk_at "37"
    walk_at "38"
    walk_at "69"
    walk_at "88"
    have hfm : f ≠ m := fun h => by rw [h, n2] at e1; cases e1
    have nm : H m = none := xfree x1 n2
    have x12 := xtr x1 x2
    refine ⟨⟨_, xl x12 hS⟩, for_list (xs := ws) (fun i σ' H' => ∃ y3 ms, σ' = [some (.ref a), some (.ref f), some (.ref m), y3, none, none, none, none, none] ∧ Xt H H' ∧ H' f = some (.lst (linesV (mrun (l.take i)).2)) ∧ H' m = some (.lst ms) ∧ DpAll K H' ms ((mrun (l.take i)).1.map toD)) ⟨none, [], rfl, x12, x2 _ _ e1, e2, .nil⟩ ?_ ?_ ?_⟩
    · rintro i σ' H' hi ⟨y3, ms, rfl, xx, _⟩
      exact xl xx hS
    · rintro i u σ' H' hu ⟨y3, ms, rfl, xx, ef, em, hms⟩
      obtain ⟨c, hc, huc⟩ := DpAll.getV (DpAll.mono xx hws) hu
      rw [List.getElem?_map] at hc
      cases hs : l[i]? with
      | none => rw [hs] at hc; cases hc
      | some s =>
      rw [hs] at hc
      cases hc
      have hil := (List.getElem?_eq_some_iff.mp hs).1
      have hwf := ok.wf s (List.mem_of_getElem? hs)
      have hrl := mrun_len (l.take i)
      rw [List.length_take] at hrl
      have wfm := (mem_mv (P := Wf) (fun s f h => Wf.mv h) (l := l.take i) fun s h => ok.wf s (List.mem_of_mem_take h)).1
      have hst : mrun (l.take (i + 1)) = mstep (mrun (l.take i)) s := by rw [take_snoc hs, mrun_snoc]
      rw [hst]
      unfold mstep
      generalize mrun (l.take i) = st at *
      obtain ⟨M, F⟩ := st
      dsimp only at ef hms hrl wfm ⊢
      have hmsl := hms.len
      rw [List.length_map] at hmsl
      have imM := imAll_steps wfm
      walk_at "6"
      walk_at "0"
      walk_at "3"
      walk_at "36"
      walk_at "69"
      refine ⟨ty_l em, ?_⟩
      walk_at "9"
      walk_at "12"
      walk_at "9"
      walk_at "69"
      walk_at "9"
      walk_at "69"
      walk_at "10"
      refine ⟨u, f, s, gd F, _, rfl, huc, hwf, sql ef, fun r hr => linesV_at (some_gd ?_), fun v' H3 x3 hv3 => ?_⟩
      · have := ok.down i s hs r hr; omega
      have hwc : Wf (s.mv (gd F)) := hwf.mv
      generalize s.mv (gd F) = c at *
      have em3 := x3 _ _ em
      walk_at "10"
      refine v_app em3 (by omega) ?_
      have x4 : Xt H (upd H3 m (.lst (ms ++ [v']))) := xmut (xtr xx x3) nm
      have ef4 : (upd H3 m (.lst (ms ++ [v']))) f = some (.lst (linesV F)) := by rw [upd_ne hfm]; exact x3 _ _ ef
      have em4 : (upd H3 m (.lst (ms ++ [v']))) m = some (.lst (ms ++ [v'])) := upd_same
      have hms4 : DpAll K (upd H3 m (.lst (ms ++ [v']))) (ms ++ [v']) ((M ++ [c]).map toD) := by
        rw [List.map_append]
        exact DpAll.app (DpAll.im (fun _ _ h => SqT.upd em3 h) imM (DpAll.mono x3 hms)) (.cons (Dp.im (fun _ _ h => SqT.upd em3 h) (wf_im hwc) hv3) .nil)
      generalize upd H3 m (.lst (ms ++ [v'])) = H4 at x4 ef4 em4 hms4
      have hlast : atI (ms ++ [v']) (((ms ++ [v']).length : Int) - 1) = some v' := by
        rw [show (((ms ++ [v']).length : Int) - 1) = (ms.length : Int) by rw [List.length_append, List.length_singleton]; omega]
        exact atI_nat (by rw [List.getElem?_append_right (Nat.le_refl _), Nat.sub_self]; rfl)
      obtain ⟨cd, hcd, hvc⟩ := DpAll.getV hms4 (show (ms ++ [v'])[ms.length]? = some v' by rw [List.getElem?_append_right (Nat.le_refl _), Nat.sub_self]; rfl)
      have hcd2 : cd = toD c := by
        rw [List.map_append, List.getElem?_append_right (by rw [List.length_map]; omega), List.length_map, hmsl, Nat.sub_self] at hcd
        cases hcd; rfl
      subst hcd2
      have wfc : ∀ s ∈ M ++ [c], Wf s := fun s hs => (List.mem_append.mp hs).elim (wfm s) fun h => by rw [List.mem_singleton.mp h]; exact hwc
      walk_at "3"
      walk_at "36"
      walk_at "69"
      refine ⟨ty_l ef4, ?_⟩
      walk_at "9"
      walk_at "36"
      walk_at "69"
      refine ⟨ty_l em4, ?_⟩
      walk_at "9"
      walk_at "8"
      walk_at "69"
      walk_at "8"
      walk_at "11"
      walk_at "9"
      walk_at "69"
      walk_at "10"
      walk_at "77"
      walk_at "7"
      walk_at "55"
      walk_at "79"
      walk_at "10"
      refine index_steps (.of_lst em4 hms4) wfc hwc (by rw [List.length_append, List.length_singleton]; omega) hvc ?_
      walk_at "10"
      refine v_app ef4 (by rw [linesV_len]; omega) ?_
      skip
      refine ⟨_, _, rfl, xmut x4 n1, ?_, by rw [upd_ne hfm.symm]; exact em4, DpAll.im (fun _ _ h => SqT.upd ef4 h) (imAll_steps wfc) hms4⟩
      rw [upd_same, linesV_app]
      rfl
    · rintro σ' H' ⟨y3, ms, rfl, xx, ef, em, hms⟩
      rw [hwl, List.take_length] at ef hms
      have o := mok l ok.down
      have hrl := mrun_len l
      have wfm := (mem_mv (P := Wf) (fun s f h => Wf.mv h) ok.wf).1
      rw [trimF_of hpos] at q
      generalize mrun l = st at *
      obtain ⟨M, F⟩ := st
      dsimp only at ef hms hrl wfm o q
      have hmsl := hms.len
      rw [List.length_map] at hmsl
      have imM := imAll_steps wfm
      have hfi := o.fi (l.length - 1) (by omega)
      have hn : gd F (l.length - 1) < 60 := by omega
      have hlast : atI (linesV F) (((linesV F).length : Int) - 1) = some (.int (gd F (l.length - 1) : Int)) := by
        rw [show (((linesV F).length : Int) - 1) = ((l.length - 1 : Nat) : Int) by rw [linesV_len]; omega]
        exact atI_nat (linesV_at (some_gd (by omega)))
      have hnM : gd F (l.length - 1) < M.length := by omega
      have hdown := rf_down o hnM
      generalize gd F (l.length - 1) = n at *
      walk_at "0"
      walk_at "1"
      walk_at "8"
      walk_at "69"
      walk_at "8"
      walk_at "11"
      walk_at "9"
      walk_at "69"
      walk_at "10"
      walk_at "77"
      walk_at "7"
      walk_at "55"
      walk_at "79"
      walk_at "6"
      walk_at "0"
      walk_at "1"
      walk_at "34"
      walk_at "9"
      walk_at "69"
      walk_at "10"
      walk_at "82"
      intro p0 H5 n5 x5 e5
      have hms5 := DpAll.mono x5 hms
      have em5 := x5 _ _ em
      have xx5 := xtr xx x5
      walk_at "6"
      walk_at "0"
      walk_at "37"
      walk_at "42"
      walk_at "9"
      walk_at "8"
      walk_at "69"
      walk_at "7"
      walk_at "56"
      walk_at "10"
      walk_at "88"
      refine ⟨by omega, by omega, ?_⟩
      rw [show ((n : Int) + 1).toNat = n + 1 by omega]
      refine for_range (lo := 0) (n := n + 1) (fun t σ' H' => ∃ y6 pn, σ' = [some (.ref a), some (.ref f), some (.ref m), y3, some (.int (n : Int)), some (.ref pn), y6, none, none] ∧ Xt H5 H' ∧ H' pn = some (.lst (linesV (nd M n t))) ∧ (nd M n t).length ≤ 1 + 2 * t) ⟨_, p0, rfl, xrefl _, e5, Nat.le_refl _⟩ ?_ ?_
      · rintro t σ' H' ht ⟨y6, pn, rfl, xt', en, hln⟩
        have hin := nd_inv hdown t (by omega)
        rw [show (0 : Int) + (t : Int) = (t : Int) by omega]
        have en2 : (n : Int) - (t : Int) = ((n - t : Nat) : Int) := by omega
        walk_at "6"
        walk_at "4"
        walk_at "14"
        walk_at "8"
        walk_at "8"
        walk_at "69"
        walk_at "69"
        walk_at "55"
        walk_at "69"
        rw [en2]
        refine w_in_q (.inl (sql en)) rfl (lines_flat _) ?_
        rw [inV_lines]
        walk_at "88"
        refine k_if (fun hm => ?_) (fun hm => ?_)
        · walk_at "1"
          walk_at "8"
          walk_at "69"
          walk_at "12"
          walk_at "9"
          walk_at "8"
          walk_at "69"
          walk_at "8"
          walk_at "69"
          walk_at "69"
          walk_at "55"
          rw [en2]
          refine d_ixl (.of_lst (xt' _ _ em5) (DpAll.mono xt' hms5)) (atI_nat (steps_at (by omega))) fun wv hwv => ?_
          walk_at "10"
          refine ⟨wv, _, rfl, hwv, wfm _ (gs_mem (by omega)), fun p6 H6 x6 e6 => ?_⟩
          have hr2 : (gs M (n - t)).refs.length ≤ 2 := by cases gs M (n - t) <;> simp [Stp.refs]
          refine v_plus_lst (x6 _ _ en) e6 (szL (by rw [linesV_len, linesV_len]; omega)) fun p7 H7 n7 x7 e7 => ?_
          walk_at "6"
          refine ⟨_, p7, rfl, xtr xt' (xtr x6 x7), ?_, ?_⟩
          · rw [nd, if_pos hm, linesV_app]; exact e7
          · rw [nd, if_pos hm, List.length_append]; show _ + (gs M (n - t)).refs.length ≤ _; omega
        · walk_at "5"
          refine ⟨_, pn, rfl, xt', ?_, ?_⟩
          · rw [nd, if_neg hm]; exact en
          · rw [nd, if_neg hm]; omega
      · rintro σ' H' ⟨y6, pn, rfl, xt', en, hln⟩
        have hN := nd_nd hdown
        have hq : ∀ b H', Xt H H' → Dp K H' (.ref b) (.tuple ((ps (nd M n (n + 1)) (n + 1)).map fun p => toD ((gs M p).mv (cnt (nd M n (n + 1)))))) → Q (.ref b) H' := fun b H' x h => q b H' x (by unfold trim; rw [List.map_map]; exact h)
        clear q
        generalize nd M n (n + 1) = N at *
        have em6 := xt' _ _ em5
        have hms6 := DpAll.mono xt' hms5
        have xx6 := xtr xx5 xt'
        walk_at "0"
        walk_at "1"
        walk_at "34"
        walk_at "10"
        walk_at "82"
        intro pp H7 n7 x7 e7
        walk_at "6"
        walk_at "0"
        walk_at "1"
        walk_at "34"
        walk_at "10"
        walk_at "82"
        intro pl H8 n8 x8 e8
        have hpl : pp ≠ pl := fun h => by rw [h, n8] at e7; cases e7
        have np : H pp = none := xfree xx6 n7
        have nl : H pl = none := xfree (xtr xx6 x7) n8
        have x68 := xtr x7 x8
        have em8 := x68 _ _ em6
        have en8 := x68 _ _ en
        have hms8 := DpAll.mono x68 hms6
        have hmp : m ≠ pp := fun h => by rw [h, n7] at em6; cases em6
        have hml : m ≠ pl := fun h => by rw [h] at em6; rw [xfree x7 n8] at em6; cases em6
        have hnp : pn ≠ pp := fun h => by rw [h, n7] at en; cases en
        have hnl : pn ≠ pl := fun h => by rw [h] at en; rw [xfree x7 n8] at en; cases en
        walk_at "6"
        walk_at "0"
        walk_at "37"
        walk_at "42"
        walk_at "9"
        walk_at "8"
        walk_at "69"
        walk_at "7"
        walk_at "56"
        walk_at "10"
        walk_at "88"
        refine ⟨by omega, by omega, ?_⟩
        rw [show ((n : Int) + 1).toNat = n + 1 by omega]
        refine for_range (lo := 0) (n := n + 1) (fun t σ' H' => ∃ y6 ls, σ' = [some (.ref a), some (.ref f), some (.ref m), y3, some (.int (n : Int)), some (.ref pn), y6, some (.ref pp), some (.ref pl)] ∧ Xt H H' ∧ H' m = some (.lst ms) ∧ DpAll K H' ms (M.map toD) ∧ H' pn = some (.lst (linesV N)) ∧ H' pp = some (.lst (linesV ((List.range t).map (cnt N)))) ∧ H' pl = some (.lst ls) ∧ DpAll K H' ls ((ps N t).map fun p => toD ((gs M p).mv (cnt N)))) ⟨_, [], rfl, xtr xx6 x68, em8, hms8, en8, x8 _ _ e7, e8, .nil⟩ ?_ ?_
        · rintro t σ' H' ht ⟨y6, ls, rfl, xx', em', hms', en', ep', el', hls'⟩
          rw [show (0 : Int) + (t : Int) = (t : Int) by omega]
          have hlsl := hls'.len
          have hps := ps_len N t
          rw [List.length_map] at hlsl
          have imL : ImAll ((ps N t).map fun p => toD ((gs M p).mv (cnt N))) = true := imAll_iff.mpr fun e he => by
            obtain ⟨c, hc, rfl⟩ := List.mem_map.mp he
            have := (mem_ps.mp hc).1
            exact wf_im (wfm _ (gs_mem (by omega))).mv
          have hcl : ls.length = cnt N t := by rw [hlsl]; rfl
          walk_at "6"
          walk_at "0"
          walk_at "3"
          walk_at "36"
          walk_at "69"
          refine ⟨ty_l ep', ?_⟩
          walk_at "9"
          walk_at "11"
          walk_at "9"
          walk_at "69"
          walk_at "10"
          walk_at "77"
          walk_at "10"
          refine v_app ep' (by rw [linesV_len, List.length_map, List.length_range]; omega) ?_
          rw [hcl]
          have hpp : linesV ((List.range t).map (cnt N)) ++ [V.int (cnt N t : Int)] = linesV ((List.range (t + 1)).map (cnt N)) := by rw [List.range_succ, List.map_append, linesV_app]; rfl
          rw [hpp]
          have x9 : Xt H (upd H' pp (.lst (linesV ((List.range (t + 1)).map (cnt N))))) := xmut xx' np
          have em9 : (upd H' pp (.lst (linesV ((List.range (t + 1)).map (cnt N))))) m = some (.lst ms) := by rw [upd_ne hmp]; exact em'
          have en9 : (upd H' pp (.lst (linesV ((List.range (t + 1)).map (cnt N))))) pn = some (.lst (linesV N)) := by rw [upd_ne hnp]; exact en'
          have ep9 : (upd H' pp (.lst (linesV ((List.range (t + 1)).map (cnt N))))) pp = some (.lst (linesV ((List.range (t + 1)).map (cnt N)))) := upd_same
          have el9 : (upd H' pp (.lst (linesV ((List.range (t + 1)).map (cnt N))))) pl = some (.lst ls) := by rw [upd_ne hpl.symm]; exact el'
          have hms9 : DpAll K (upd H' pp (.lst (linesV ((List.range (t + 1)).map (cnt N))))) ms (M.map toD) := DpAll.im (fun _ _ h => SqT.upd ep' h) imM hms'
          have hls9 : DpAll K (upd H' pp (.lst (linesV ((List.range (t + 1)).map (cnt N))))) ls ((ps N t).map fun p => toD ((gs M p).mv (cnt N))) := DpAll.im (fun _ _ h => SqT.upd ep' h) imL hls'
          generalize upd H' pp (.lst (linesV ((List.range (t + 1)).map (cnt N)))) = H9 at x9 em9 en9 ep9 el9 hms9 hls9
          have hpsn : ps N (t + 1) = ps N t ++ if t ∈ N then [t] else [] := by
            unfold ps
            rw [List.range_succ, List.filter_append, List.filter_cons]
            by_cases ht2 : t ∈ N
            · rw [if_pos (decide_eq_true ht2), if_pos ht2]; rfl
            · rw [if_neg (by rw [decide_eq_true_eq]; exact ht2), if_neg ht2]; rfl
          walk_at "4"
          walk_at "14"
          walk_at "8"
          walk_at "69"
          walk_at "69"
          refine w_in_q (.inl (sql en9)) rfl (lines_flat _) ?_
          rw [inV_lines]
          walk_at "88"
          refine k_if (fun hm => ?_) (fun hm => ?_)
          · walk_at "3"
            walk_at "36"
            walk_at "69"
            refine ⟨ty_l el9, ?_⟩
            walk_at "9"
            walk_at "12"
            walk_at "9"
            walk_at "8"
            walk_at "69"
            walk_at "69"
            refine d_ixl (.of_lst em9 hms9) (atI_nat (steps_at (by omega))) fun wv hwv => ?_
            walk_at "9"
            walk_at "69"
            walk_at "10"
            have hwt := wfm _ (gs_mem (l := M) (i := t) (by omega))
            refine ⟨wv, pp, gs M t, cnt N, _, rfl, hwv, hwt, sql ep9, fun r hr => linesV_at ?_, fun v' H10 x10 hv10 => ?_⟩
            · have := hdown t (by omega) r hr
              rw [List.getElem?_map, List.getElem?_range (by omega)]; rfl
            have el10 := x10 _ _ el9
            walk_at "10"
            refine v_app el10 (by omega) ?_
            skip
            refine ⟨_, _, rfl, xmut (xtr x9 x10) nl, by rw [upd_ne hml]; exact x10 _ _ em9, DpAll.im (fun _ _ h => SqT.upd el10 h) imM (DpAll.mono x10 hms9), by rw [upd_ne hnl]; exact x10 _ _ en9, by rw [upd_ne hpl]; exact x10 _ _ ep9, upd_same, ?_⟩
            rw [hpsn, if_pos hm, List.map_append]
            exact DpAll.app (DpAll.im (fun _ _ h => SqT.upd el10 h) imL (DpAll.mono x10 hls9)) (.cons (Dp.im (fun _ _ h => SqT.upd el10 h) (wf_im hwt.mv) hv10) .nil)
          · walk_at "5"
            refine ⟨_, _, rfl, x9, em9, hms9, en9, ep9, el9, ?_⟩
            rw [hpsn, if_neg hm, List.append_nil]
            exact hls9
        · rintro σ' H' ⟨y6, ls, rfl, xx', em', hms', en', ep', el', hls'⟩
          walk_at "2"
          walk_at "11"
          walk_at "9"
          walk_at "69"
          walk_at "10"
          refine d_tupl (.of_lst el' hls') fun w11 H11 x11 hw11 => ?_
          obtain ⟨b, xs, rfl, _, _⟩ := Dp.tup_inv hw11
          exact hq b H11 (xtr xx' x11) hw11


theorem ok_lines_used (T : TopW w P K mg) : FnOk P w K mg base CX0 3 T.f_lines_used T.fd_lines_used ["step"] (sp_lines_used T) := by
  refine T.F_lines_used.ok sc_lines_used (fun vs H Q E h => ?_) (fun cdv A outer s H vs Q E hr h => ?_)
  · obtain ⟨v, s, rfl, hv, hw, q⟩ := h
    rfl
  · obtain ⟨v, s, rfl, hv, hw, q⟩ := h
    refine ⟨_, (pss_one (ps_ret (pe_callTy (r := rTup K) call_tupU (by rfl) T.n_tuple (by decide +kernel) (pa_cons (pe_lc (own := [("item", 1)]) (g := gName 1) rfl sc_lines_used.nd (pi_list (pe_call (ok__line_items T) (hr.mono (by first | decide | exact Nat.le_refl _ | omega | (show _ ≤ _ + n; omega))) (by rfl) T.g__line_items T.F__line_items.kp T.b__line_items .nil pass0 (pa_cons (pv 0) pa_nil))) (blkOk_by (N := N_lines_used) (sc := defScope s_lines_used) (by decide +kernel)) (fun _ _ _ _ _ => (pg_name (i := 1) sc_lines_used.nd rfl (Or.inl rfl))) (fun _ _ _ _ _ => pts_nil) (fun _ _ _ _ _ => (pe_ix (r := rIx K) ix_seq (pv 0) (pv 1) (fun _ _ => rfl)))) pa_nil)))), ?_⟩
    obtain ⟨ds, e, hix⟩ := wf_shape hw
    walk_at "2"
    walk_at "11"
    walk_at "9"
    walk_at "51"
    walk_at "38"
    walk_at "12"
    walk_at "9"
    walk_at "69"
    walk_at "10"
    refine ⟨v, s, rfl, hv, hw, fun p H1 x1 n1 e1 => ?_⟩
    rw [e] at hv
    refine ⟨p, rfl, ⟨_, sql e1⟩, b_dat walk_list (fun H' x' => xl x' (sql e1)) (DpAll.ints (K := K) _) (pickD s) (fun d hd => ?_) ?_ ?_ ?_ gm_name⟩
    · obtain ⟨j, hj, rfl⟩ := List.mem_map.mp hd
      obtain ⟨n, i, rfl, hi, hp⟩ := hix j hj
      rw [hp]; rfl
    · rw [List.length_map]; have := itemsOf_le s; omega
    · intro v' d H' hv' hd xx R hR
      obtain ⟨j, hj, rfl⟩ := List.mem_map.mp hd
      cases Dp.int_inv hv'
      obtain ⟨n, i, rfl, hi, hp⟩ := hix j hj
      rw [hp] at hR
      have hv2 := Dp.mono (xtr x1 xx) hv
      walk_at "6"
      refine ⟨rfl, ?_⟩
      walk_at "8"
      walk_at "69"
      walk_at "69"
      refine d_ix hv2 (atI_nat hi) fun wi hwi => ?_
      exact hR _ H' (xrefl H') hwi
    · intro Dl ys H2 hD x2 e2 hy
      rw [pick_lines] at hy
      walk_at "10"
      refine d_tupl (.of_lst e2 hy) fun w' H3 x3 hw' => ?_
      exact q w' H3 (xtr x1 (xtr x2 x3)) hw'


theorem ok_with_lines (T : TopW w P K mg) : FnOk P w K mg base CX0 3 T.f_with_lines T.fd_with_lines ["step", "numbers"] (sp_with_lines T) := by
  refine T.F_with_lines.ok sc_with_lines (fun vs H Q E h => ?_) (fun cdv A outer s H vs Q E hr h => ?_)
  · obtain ⟨v, n, s, f, rfl, hv, hw, hn, q⟩ := h
    rfl
  · obtain ⟨v, n, s, f, rfl, hv, hw, hn, q⟩ := h
    refine ⟨_, (pss_cons (ps_set (i := 2) sc_with_lines.nd rfl (Or.inl rfl) (pe_callTy (r := rLst K) call_lstU (by rfl) T.n_list (by decide +kernel) (pa_cons (pv 0) pa_nil)))
      (pss_cons (ps_for PassesOwn.never rfl (pi_list (pe_call (ok__line_items T) (hr.mono (by first | decide | exact Nat.le_refl _ | omega | (show _ ≤ _ + n; omega))) (by rfl) T.g__line_items T.F__line_items.kp T.b__line_items .nil pass0 (pa_cons (pv 0) pa_nil))) (pg_name (i := 3) sc_with_lines.nd rfl (Or.inl rfl)) (pss_one (ps_asg (pe_either (pe_ix (r := rIx K) ix_seq (pv 1) (pe_ix (r := rIx K) ix_seq (pv 0) (pv 3) (fun _ _ => rfl)) (fun _ _ => rfl)) (pe_dget (hu_of hr) (pv 1) (pe_ix (r := rIx K) ix_seq (pv 0) (pv 3) (fun _ _ => rfl)) (fun _ _ => rfl))) (pg_sub (t := rSetL) (pv 2) (pv 3) set_list))))
      (pss_one (ps_ret (pe_callTy (r := rTup K) call_tupU (by rfl) T.n_tuple (by decide +kernel) (pa_cons (pv 2) pa_nil)))))), ?_⟩
    walk_at "0"
    walk_at "1"
    walk_at "11"
    walk_at "9"
    walk_at "69"
    walk_at "10"
    have hz := stg_zero (f := f) hw
    have hv0 := hv
    rw [hz] at hv0
    refine d_lstl (.inr hv0) fun p xs H1 n1 x1 e1 hd1 => ?_
    walk_at "6"
    walk_at "0"
    walk_at "37"
    walk_at "38"
    walk_at "12"
    walk_at "9"
    walk_at "69"
    walk_at "10"
    refine ⟨v, s, rfl, Dp.mono x1 hv, hw, fun p2 H2 x2 n2 e2 => ?_⟩
    have x12 := xtr x1 x2
    have np : p ≠ p2 := fun h => by rw [h, n2] at e1; cases e1
    refine ⟨p2, rfl, ⟨_, sql e2⟩, for_list (xs := (itemsOf s).map V.int) (fun t σ' H' => ∃ y3 ws, σ' = [some v, some n, some (.ref p), y3] ∧ Xt H H' ∧ H' p2 = some (.lst ((itemsOf s).map V.int)) ∧ H' p = some (.lst ws) ∧ DpAll K H' ws (stg f s t)) ⟨none, xs, rfl, x12, e2, x2 _ _ e1, DpAll.mono x2 hd1⟩ ?_ ?_ ?_⟩
    · rintro t σ' H' ht ⟨y3, ws, rfl, xx, e2', ep, hws⟩
      exact sql e2'
    · rintro t u σ' H' hu ⟨y3, ws, rfl, xx, e2', ep, hws⟩
      rw [List.getElem?_map] at hu
      cases hj : (itemsOf s)[t]? with
      | none => rw [hj] at hu; cases hu
      | some j =>
      rw [hj] at hu
      cases hu
      obtain ⟨m, r, rfl, hm, hr, ⟨ds, hds, hdm⟩, hnx⟩ := stg_next (f := f) hw hj
      have hv2 := Dp.mono xx hv
      rw [hds] at hv2
      have hwl := hws.len
      have fin : DpAll K (upd H' p (.lst (ws.set m (.int (f r : Int))))) (ws.set m (.int (f r : Int))) (stg f s (t + 1)) := by
        rw [hnx]
        exact DpAll.set m (DpAll.im (fun _ _ h => SqT.upd ep h) (stg_im hw t) hws) (.int _)
      have fin2 : ixN ws.length (m : Int) = some m := Evl.ixN_nat (by omega)
      rcases hn.mono xx with ⟨a, ys, rfl, hS, hfn⟩ | ⟨a, kvs, rfl, hS, hfn⟩
      · walk_at "6"
        walk_at "1"
        refine .inl ?_
        walk_at "8"
        walk_at "69"
        walk_at "8"
        walk_at "69"
        walk_at "69"
        refine d_ix hv2 (atI_nat hdm) fun wr hwr => ?_
        cases Dp.int_inv hwr
        refine v_ix_l hS (atI_nat (hfn r hr)) ?_
        show tVar 2 _ _ _
        walk_at "69"
        walk_at "69"
        refine ⟨p, ws, (m : Int), m, rfl, rfl, ep, fin2, ?_⟩
        exact ⟨_, _, rfl, xmut xx n1, by rw [upd_ne np.symm]; exact e2', upd_same, fin⟩
      · walk_at "6"
        walk_at "1"
        refine .inr ?_
        show tVar 1 _ _ _
        walk_at "69"
        walk_at "8"
        walk_at "69"
        walk_at "69"
        refine d_ix hv2 (atI_nat hdm) fun wr hwr => ?_
        cases Dp.int_inv hwr
        refine ⟨a, _, rfl, .inl ⟨kvs, Sum.inl (r : Int), .inl hS, rfl, (hfn r hr).symm⟩, ?_⟩
        show tVar 2 _ _ _
        walk_at "69"
        walk_at "69"
        refine ⟨p, ws, (m : Int), m, rfl, rfl, ep, fin2, ?_⟩
        exact ⟨_, _, rfl, xmut xx n1, by rw [upd_ne np.symm]; exact e2', upd_same, fin⟩
    · rintro σ' H' ⟨y3, ws, rfl, xx, e2', ep, hws⟩
      walk_at "2"
      walk_at "11"
      walk_at "9"
      walk_at "69"
      walk_at "10"
      refine d_tupl (.of_lst ep hws) fun w H3 x3 hw3 => ?_
      rw [List.length_map, ← stg_end hw] at hw3
      exact q w H3 (xtr xx x3) hw3


theorem ok__law_drawn_steps (T : TopW w P K mg) : FnOk P w K mg base CX0 3 T.f__law_drawn_steps T.fd__law_drawn_steps ["script", "count"] (sp__law_drawn_steps T) := by
  refine T.F__law_drawn_steps.ok sc__law_drawn_steps (fun vs H Q E h => ?_) (fun cdv A outer s H vs Q E hr h => ?_)
  · obtain ⟨la, ns, c, rfl, hS, hns, hc, q⟩ := h
    rfl
  · obtain ⟨la, ns, c, rfl, hS, hns, hc, q⟩ := h
    refine ⟨_, (pss_cons (ps_set (i := 2) sc__law_drawn_steps.nd rfl (Or.inl rfl) (pe_lst pa_nil))
      (pss_cons (ps_set (i := 3) sc__law_drawn_steps.nd rfl (Or.inl rfl) (pe_lst pa_nil))
      (pss_cons (ps_set (i := 4) sc__law_drawn_steps.nd rfl (Or.inr rfl) (pe_lst pa_nil))
      (pss_cons (ps_for PassesOwn.never rfl (pi_range1 (by rfl) T.n_range (pa_cons (pv 1) pa_nil)) (pg_name (i := 5) sc__law_drawn_steps.nd rfl (Or.inl rfl)) (pss_cons (ps_set (i := 6) sc__law_drawn_steps.nd rfl (Or.inl rfl) (pe_call (ok__law_digits T) (hr.mono (by first | decide | exact Nat.le_refl _ | omega | (show _ ≤ _ + n; omega))) (by rfl) T.g__law_digits T.F__law_digits.kp T.b__law_digits .nil pass0 (pa_cons (pe_call (ok__law_cell T) (hr.mono (by first | decide | exact Nat.le_refl _ | omega | (show _ ≤ _ + n; omega))) (by rfl) T.g__law_cell T.F__law_cell.kp T.b__law_cell .nil pass0 (pa_cons (pv 0) (pa_cons (pe_op (r := rPlus K) op_plus pe_int (pv 5)) pa_nil))) (pa_cons (pe_lst (pa_cons pe_int (pa_cons pe_int (pa_cons pe_int (pa_cons pe_int (pa_cons pe_int (pa_cons pe_int (pa_cons pe_int (pa_cons pe_int (pa_cons pe_int (pa_cons pe_int (pa_cons pe_int (pa_cons pe_int pa_nil))))))))))))) pa_nil))))
      (pss_cons (ps_set (i := 7) sc__law_drawn_steps.nd rfl (Or.inr rfl) (pe_call (ok__law_drawn_step T) (hr.mono (by first | decide | exact Nat.le_refl _ | omega | (show _ ≤ _ + n; omega))) (by rfl) T.g__law_drawn_step T.F__law_drawn_step.kp T.b__law_drawn_step .nil pass0 (pa_cons (pv 6) (pa_cons (pv 5) pa_nil))))
      (Evl.pss_cut (ps_if (PW.pt (pw_and (pt_cmpR op_gt (pv 5) pe_int (nomark _)) (pw_and1 (pt_cmpR (r := rEqU K) (op_eqU hr) (pe_ix (r := rIx K) ix_seq (pv 6) pe_int (fun _ _ => rfl)) pe_int (nomark _))))) (pss_cons (ps_set (i := 8) sc__law_drawn_steps.nd rfl (Or.inl rfl) (pe_lst pa_nil))
      (pss_cons (ps_for PassesOwn.never rfl (pi_range1 (by rfl) T.n_range (pa_cons (pv 5) pa_nil)) (pg_name (i := 9) sc__law_drawn_steps.nd rfl (Or.inr rfl)) (pss_cons (ps_setLc (i := 10) (own := [("m", 11)]) (g := gName 11) rfl sc__law_drawn_steps.nd rfl rfl (sw_true rfl rfl rfl (by decide +kernel)) (pi_range1 (by rfl) T.n_range (pa_cons (pv 5) pa_nil)) (blkOk_by (N := N__law_drawn_steps) (sc := defScope s__law_drawn_steps) (by decide +kernel)) (fun _ _ _ _ _ => (pg_name (i := 11) sc__law_drawn_steps.nd rfl (Or.inl rfl))) (fun _ _ _ _ _ => pts_one (pt_cmpR (r := rEqU K) (op_eqU hr) (pe_ix (r := rIx K) ix_seq (pv 4) (pv 11) (fun _ _ => rfl)) (pe_ix (r := rIx K) ix_seq (pv 4) (pv 9) (fun _ _ => rfl)) (nomark _))) (fun _ _ _ _ _ => (pv 11)))
      (pss_one (ps_expr (pe_bm PySem.F.plainAttrs_list PySem.F.slot_list_append PySem.F.type_list_append mt_append (pv 8) (pa_cons (pe_ix (r := rIx K) ix_seq (pv 10) (pe_op op_mod (pe_ix (r := rIx K) ix_seq (pv 6) pe_int (fun _ _ => rfl)) (pe_callB (r := rLenU K) call_lenU (by rfl) T.n_len PySem.boot_len (pa_cons (pv 10) pa_nil))) (fun _ _ => rfl)) pa_nil))))))
      (pss_cons (ps_set (i := 7) sc__law_drawn_steps.nd rfl (Or.inr rfl) (pe_call (ok__law_moved T) (hr.mono (by first | decide | exact Nat.le_refl _ | omega | (show _ ≤ _ + n; omega))) (by rfl) T.g__law_moved T.F__law_moved.kp T.b__law_moved .nil pass0 (pa_cons (pe_ix (r := rIx K) ix_seq (pv 2) (pe_op op_mod (pe_ix (r := rIx K) ix_seq (pv 6) pe_int (fun _ _ => rfl)) (pv 5)) (fun _ _ => rfl)) (pa_cons (pv 8) pa_nil))))
      (pss_one (ps_if (PW.pt (pw_and (pt_cmpR (r := rEqU K) (op_eqU hr) (pe_ix (r := rIx K) ix_seq (pv 7) pe_int (fun _ _ => rfl)) pe_str (nomark _)) (pw_and1 (pt_cmpR op_lt (pe_ix (r := rIx K) ix_seq (pv 6) pe_int (fun _ _ => rfl)) pe_int (nomark _))))) (pss_one (ps_set (i := 7) sc__law_drawn_steps.nd rfl (Or.inr rfl) (pe_tup (pa_cons (pe_ix (r := rIx K) ix_seq (pv 7) pe_int (fun _ _ => rfl)) (pa_cons (pe_ix (r := rIx K) ix_seq (pv 7) pe_int (fun _ _ => rfl)) (pa_cons (pe_callTy (r := rTup K) call_tupU (by rfl) T.n_tuple (by decide +kernel) (pa_cons (pe_lc (own := [("at", 12)]) (g := gName 12) rfl sc__law_drawn_steps.nd (pi_range1 (by rfl) T.n_range (pa_cons (pe_callB (r := rLenU K) call_lenU (by rfl) T.n_len PySem.boot_len (pa_cons (pe_ix (r := rIx K) ix_seq (pv 7) pe_int (fun _ _ => rfl)) pa_nil)) pa_nil)) (blkOk_by (N := N__law_drawn_steps) (sc := defScope s__law_drawn_steps) (by decide +kernel)) (fun _ _ _ _ _ => (pg_name (i := 12) sc__law_drawn_steps.nd rfl (Or.inl rfl))) (fun _ _ _ _ _ => pts_nil) (fun _ _ _ _ _ => (pe_ix (r := rIx K) ix_seq (pe_ix (r := rIx K) ix_seq (pv 7) pe_int (fun _ _ => rfl)) (pe_op op_sub (pe_op op_sub (pe_callB (r := rLenU K) call_lenU (by rfl) T.n_len PySem.boot_len (pa_cons (pe_ix (r := rIx K) ix_seq (pv 7) pe_int (fun _ _ => rfl)) pa_nil)) pe_int) (pv 12)) (fun _ _ => rfl)))) pa_nil)) pa_nil)))))) pss_nil))))) pss_nil)
      (pss_cons (ps_expr (pe_bm PySem.F.plainAttrs_list PySem.F.slot_list_append PySem.F.type_list_append mt_append (pv 2) (pa_cons (pv 7) pa_nil)))
      (pss_cons (ps_expr (pe_bm PySem.F.plainAttrs_list PySem.F.slot_list_append PySem.F.type_list_append mt_append (pv 3) (pa_cons (pe_call (ok__law_moved T) (hr.mono (by first | decide | exact Nat.le_refl _ | omega | (show _ ≤ _ + n; omega))) (by rfl) T.g__law_moved T.F__law_moved.kp T.b__law_moved .nil pass0 (pa_cons (pv 7) (pa_cons (pv 4) pa_nil))) pa_nil)))
      (pss_one (ps_expr (pe_bm PySem.F.plainAttrs_list PySem.F.slot_list_append PySem.F.type_list_append mt_append (pv 4) (pa_cons (pe_bm (r := rIndexD K) PySem.F.plainAttrs_list PySem.F.slot_list_index PySem.F.type_list_index (mt_indexD (hu65 hr)) (pv 3) (pa_cons (pe_ix (r := rIx K) ix_seq (pv 3) (pv 5) (fun _ _ => rfl)) pa_nil)) pa_nil))))))))))
      (pss_one (ps_ret (pv 2))))))), ?_⟩
    walk_at "0"
    walk_at "1"
    walk_at "34"
    walk_at "10"
    walk_at "82"
    intro st H1 n1 x1 e1
    walk_at "6"
    walk_at "0"
    walk_at "1"
    walk_at "34"
    walk_at "10"
    walk_at "82"
    intro mg_ H2 n2 x2 e2
    walk_at "6"
    walk_at "0"
    walk_at "1"
    walk_at "34"
    walk_at "10"
    walk_at "82"
    intro fi H3 n3 x3 e3
    have hsm : st ≠ mg_ := fun h => by rw [h, n2] at e1; cases e1
    have hsf : st ≠ fi := fun h => by have := x2 _ _ e1; rw [h, n3] at this; cases this
    have hmf : mg_ ≠ fi := fun h => by rw [h, n3] at e2; cases e2
    have nst : H st = none := n1
    have nmg : H mg_ = none := xfree x1 n2
    have nfi : H fi = none := xfree (xtr x1 x2) n3
    have x13 := xtr x1 (xtr x2 x3)
    walk_at "6"
    walk_at "0"
    walk_at "37"
    walk_at "42"
    walk_at "9"
    walk_at "69"
    walk_at "10"
    walk_at "88"
    refine ⟨by omega, by omega, ?_⟩
    rw [show ((c : Int)).toNat = c by omega]
    refine for_range (lo := 0) (n := c) (fun i σ' H' => ∃ y5 y6 y7 y8 y9 y10 ss ms, ∃ l : List Stp, σ' = [some (.ref la), some (.int (c : Int)), some (.ref st), some (.ref mg_), some (.ref fi), y5, y6, y7, y8, y9, y10, none, none] ∧ Xt H H' ∧ l.length = i ∧ Down l ∧ (∀ s ∈ l, Wf s) ∧ H' st = some (.lst ss) ∧ DpAll K H' ss (l.map toD) ∧ H' mg_ = some (.lst ms) ∧ DpAll K H' ms ((mrun l).1.map toD) ∧ H' fi = some (.lst (linesV (mrun l).2))) ⟨none, none, none, none, none, none, [], [], [], rfl, x13, rfl, (fun k s h => by cases h), (fun s h => by cases h), x3 _ _ (x2 _ _ e1), .nil, x3 _ _ e2, .nil, e3⟩ ?_ ?_
    · rintro i σ' H' hi ⟨y5, y6, y7, y8, y9, y10, ss, ms, l, rfl, xx, hli, hdn, hwf, es, hss, em, hms, ef⟩
      rw [show (0 : Int) + (i : Int) = (i : Int) by omega]
      have hml := mrun_len l
      have wfm := (mem_mv (P := Wf) (fun s f h => Wf.mv h) hwf).1
      have imS := imAll_steps hwf
      have imM := imAll_steps wfm
      have hssl := hss.len
      have hmsl := hms.len
      rw [List.length_map] at hssl hmsl
      walk_at "6"
      walk_at "0"
      walk_at "1"
      walk_at "12"
      walk_at "9"
      walk_at "12"
      walk_at "9"
      walk_at "69"
      walk_at "9"
      walk_at "8"
      walk_at "7"
      walk_at "69"
      walk_at "56"
      walk_at "10"
      refine ⟨la, ns, 1 + (i : Int), rfl, xl xx hS, hns, ⟨by omega, by omega⟩, fun cell => ?_⟩
      walk_at "9"
      walk_at "34"
      walk_at "9"
      walk_at "7"
      walk_at "9"
      walk_at "7"
      walk_at "9"
      walk_at "7"
      walk_at "9"
      walk_at "7"
      walk_at "9"
      walk_at "7"
      walk_at "9"
      walk_at "7"
      walk_at "9"
      walk_at "7"
      walk_at "9"
      walk_at "7"
      walk_at "9"
      walk_at "7"
      walk_at "9"
      walk_at "7"
      walk_at "9"
      walk_at "7"
      walk_at "9"
      walk_at "7"
      walk_at "10"
      walk_at "82"
      intro p4 H4 n4 x4 e4
      walk_at "10"
      refine ⟨cell, p4, wayL, rfl, sql e4, by decide, by decide, fun rp H5 ds x5 e5 hd => ?_⟩
      walk_at "6"
      walk_at "0"
      walk_at "1"
      walk_at "12"
      walk_at "9"
      walk_at "69"
      walk_at "9"
      walk_at "69"
      walk_at "10"
      refine ⟨rp, i, ds, rfl, sql e5, hd, by omega, fun v s H6 x6 hws hrs hv => ?_⟩
      have x46 := xtr x4 (xtr x5 x6)
      have xx6 := xtr xx x46
      have es6 := x46 _ _ es
      have em6 := x46 _ _ em
      have ef6 := x46 _ _ ef
      have hss6 := DpAll.mono x46 hss
      have hms6 := DpAll.mono x46 hms
      have e56 := x6 _ _ e5
      obtain ⟨r0, r1, r2, r3, r4, r5, r6, r7, r8, r9, r10, r11, rfl, _, _, _, _, ⟨l4, u4⟩, _, _, _, _, ⟨l9, u9⟩, ⟨l10, u10⟩, ⟨l11, u11⟩⟩ := way_inv hd
      clear hd e5 e4 n4 x4 x5 x6 x46 es em ef hss hms
      walk_at "6"
      show Evl.tCut _ _ _ _ _
      refine k_cut (fun σ' H' => ∃ y8 y9 y10, ∃ (v : V) (s : Stp), σ' = [some (.ref la), some (.int (c : Int)), some (.ref st), some (.ref mg_), some (.ref fi), some (.int (i : Int)), some (.ref rp), some v, y8, y9, y10, none, none] ∧ Xt H H' ∧ H' st = some (.lst ss) ∧ DpAll K H' ss (l.map toD) ∧ H' mg_ = some (.lst ms) ∧ DpAll K H' ms ((mrun l).1.map toD) ∧ H' fi = some (.lst (linesV (mrun l).2)) ∧ Dp K H' v (toD s) ∧ Wf s ∧ ∀ r ∈ s.refs, r < i) ?_ ?_
      · have fin : ∀ H' (v : V) (s : Stp), Xt H6 H' → Dp K H' v (toD s) → Wf s → (∀ r ∈ s.refs, r < i) → Xt H H' ∧ H' st = some (.lst ss) ∧ DpAll K H' ss (l.map toD) ∧ H' mg_ = some (.lst ms) ∧ DpAll K H' ms ((mrun l).1.map toD) ∧ H' fi = some (.lst (linesV (mrun l).2)) ∧ Dp K H' v (toD s) ∧ Wf s ∧ ∀ r ∈ s.refs, r < i := fun H' v s x hv hw hr => ⟨xtr xx6 x, x _ _ es6, DpAll.mono x hss6, x _ _ em6, DpAll.mono x hms6, x _ _ ef6, hv, hw, hr⟩
        have a4 : atI (([r0, r1, r2, r3, r4, r5, r6, r7, r8, r9, r10, r11] : List Int).map V.int) 4 = some (.int r4) := rfl
        have a9 : atI (([r0, r1, r2, r3, r4, r5, r6, r7, r8, r9, r10, r11] : List Int).map V.int) 9 = some (.int r9) := rfl
        have a10 : atI (([r0, r1, r2, r3, r4, r5, r6, r7, r8, r9, r10, r11] : List Int).map V.int) 10 = some (.int r10) := rfl
        have a11 : atI (([r0, r1, r2, r3, r4, r5, r6, r7, r8, r9, r10, r11] : List Int).map V.int) 11 = some (.int r11) := rfl
        generalize ([r0, r1, r2, r3, r4, r5, r6, r7, r8, r9, r10, r11] : List Int).map V.int = row at *
        walk_at "4"
        walk_at "17"
        walk_at "14"
        walk_at "8"
        walk_at "69"
        walk_at "7"
        walk_at "55"
        walk_at "88"
        refine k_if (fun hk0 => ?_) (fun _ => ?_)
        · have kp : (0 : Int) < (i : Int) := hk0
          walk_at "14"
          walk_at "8"
          walk_at "8"
          walk_at "69"
          walk_at "7"
          walk_at "79"
          walk_at "7"
          walk_at "75"
          walk_at "88"
          refine k_if (fun _ => ?_) (fun _ => ?_)
          · walk_at "0"
            walk_at "1"
            walk_at "34"
            walk_at "10"
            walk_at "82"
            intro ot H7 n7 x7 e7
            walk_at "6"
            walk_at "0"
            walk_at "37"
            walk_at "42"
            walk_at "9"
            walk_at "69"
            walk_at "10"
            walk_at "88"
            refine ⟨by omega, by omega, ?_⟩
            rw [show ((i : Int)).toNat = i by omega]
            refine for_range (lo := 0) (n := i) (fun j σ' H' => ∃ y9 y10 os, σ' = [some (.ref la), some (.int (c : Int)), some (.ref st), some (.ref mg_), some (.ref fi), some (.int (i : Int)), some (.ref rp), some v, some (.ref ot), y9, y10, none, none] ∧ Xt H6 H' ∧ H' ot = some (.lst (linesV os)) ∧ os.length = j ∧ ∀ o ∈ os, o < i) ⟨_, _, [], rfl, x7, e7, rfl, (fun o h => by cases h)⟩ ?_ ?_
            · rintro j σ' H' hj ⟨y9, y10, os, rfl, xj, eo, hol, hos⟩
              rw [show (0 : Int) + (j : Int) = (j : Int) by omega]
              have efj := xj _ _ ef6
              have aj : atI (linesV (mrun l).2) (j : Int) = some (.int (gd (mrun l).2 j : Int)) := atI_nat (linesV_at (some_gd (by omega)))
              walk_at "6"
              walk_at "0"
              walk_at "1"
              walk_at "51"
              walk_at "42"
              walk_at "9"
              walk_at "69"
              walk_at "10"
              walk_at "88"
              refine ⟨by omega, by omega, ?_⟩
              rw [show ((i : Int)).toNat = i by omega]
              refine b_rngF (fun m => decide (gd (mrun l).2 m = gd (mrun l).2 j)) (by omega) (fun _ => rfl) (fun m H8 hm x8 R hR => ?_) (fun m H8 hm x8 R hR => ?_) (fun De H8 nD x8 eD => ?_)
              · rw [show (0 : Int) + (m : Int) = (m : Int) by omega]
                have ef8 := x8 _ _ efj
                have am : atI (linesV (mrun l).2) (m : Int) = some (.int (gd (mrun l).2 m : Int)) := atI_nat (linesV_at (some_gd (by omega)))
                walk_at "14"
                walk_at "8"
                walk_at "8"
                walk_at "69"
                walk_at "69"
                walk_at "79"
                walk_at "8"
                walk_at "69"
                walk_at "69"
                walk_at "79"
                walk_at "75"
                walk_at "88"
                rw [dec_int]; exact hR
              · walk_at "69"
                exact hR
              · have hje : j ∈ (List.range i).filter fun m => decide (gd (mrun l).2 m = gd (mrun l).2 j) := List.mem_filter.mpr ⟨List.mem_range.mpr hj, decide_eq_true rfl⟩
                have hlt : ∀ o ∈ (List.range i).filter (fun m => decide (gd (mrun l).2 m = gd (mrun l).2 j)), o < i := fun o ho => List.mem_range.mp (List.mem_filter.mp ho).1
                generalize (List.range i).filter (fun m => decide (gd (mrun l).2 m = gd (mrun l).2 j)) = eqs at *
                have hel : 0 < eqs.length := List.length_pos_of_mem hje
                have hel2 : (0 : Int) < ((linesV eqs).length : Int) := by rw [linesV_len]; omega
                obtain ⟨o, ho, hao⟩ := mod_at l11 hel
                have eo8 := x8 _ _ eo
                have e58 := x8 _ _ (xj _ _ e56)
                walk_at "6"
                walk_at "3"
                walk_at "36"
                walk_at "69"
                refine ⟨ty_l eo8, ?_⟩
                walk_at "9"
                walk_at "8"
                walk_at "69"
                walk_at "8"
                walk_at "8"
                walk_at "69"
                walk_at "7"
                walk_at "79"
                walk_at "11"
                walk_at "9"
                walk_at "69"
                walk_at "10"
                walk_at "77"
                walk_at "70"
                walk_at "79"
                walk_at "10"
                refine v_app eo8 (by rw [linesV_len]; omega) ?_
                skip
                refine ⟨_, _, os ++ [o], rfl, xmut (xtr xj x8) n7, ?_, by rw [List.length_append, List.length_singleton]; omega, fun o' ho' => ?_⟩
                · rw [upd_same, linesV_app]; rfl
                · rcases List.mem_append.mp ho' with h | h
                  · exact hos o' h
                  · rw [List.mem_singleton.mp h]; exact hlt o ho
            · rintro σ' H' ⟨y9, y10, os, rfl, xj, eo, hol, hos⟩
              have hk10 : (r10 % (i : Int)) = ((r10.toNat % i : Nat) : Int) := by
                obtain ⟨m, rfl⟩ := Int.eq_ofNat_of_zero_le l10
                rfl
              have hlt10 : r10.toNat % i < i := Nat.mod_lt _ (by omega)
              generalize r10.toNat % i = k10 at *
              have e5j := xj _ _ e56
              have esj := xj _ _ es6
              have hssj := DpAll.mono xj hss6
              walk_at "0"
              walk_at "1"
              walk_at "12"
              walk_at "9"
              walk_at "8"
              walk_at "69"
              walk_at "8"
              walk_at "8"
              walk_at "69"
              walk_at "7"
              walk_at "79"
              walk_at "69"
              walk_at "70"
              rw [hk10]
              refine d_ixl (.of_lst esj hssj) (atI_nat (steps_at (by omega))) fun wv hwv => ?_
              walk_at "9"
              walk_at "69"
              walk_at "10"
              have hw0 := hwf _ (gs_mem (l := l) (i := k10) (by omega))
              have hr0 : ∀ r ∈ (gs l k10).refs, r < i := fun r hr => by have := hdn k10 _ (some_gs (by omega)) r hr; omega
              refine ⟨wv, ot, gs l k10, gd os, _, rfl, hwv, hw0, sql eo, fun r hr => linesV_at (some_gd (by have := hr0 r hr; omega)), fun v9 H9 x9 hv9 => ?_⟩
              have hwc : Wf ((gs l k10).mv (gd os)) := hw0.mv
              have hrc : ∀ r ∈ ((gs l k10).mv (gd os)).refs, r < i := fun r hr => by
                rw [Stp.refs_mv] at hr
                obtain ⟨m, hm, rfl⟩ := List.mem_map.mp hr
                exact hos _ (List.mem_of_getElem? (some_gd (by have := hr0 m hm; omega)))
              generalize (gs l k10).mv (gd os) = cs at *
              have x69 := xtr xj x9
              have e59 := x9 _ _ e5j
              obtain ⟨dsc, ec, _⟩ := wf_shape hwc
              have hv9c := hv9
              rw [ec] at hv9c
              walk_at "6"
              walk_at "4"
              walk_at "17"
              walk_at "14"
              walk_at "8"
              walk_at "8"
              walk_at "69"
              walk_at "7"
              refine d_ix hv9c (atI_nat (j := 0) rfl) fun w0 hw0 => ?_
              cases Dp.str_inv hw0
              walk_at "7"
              walk_at "75"
              walk_at "88"
              by_cases hkf : kindOf cs = "fill"
              · refine k_sy hkf ?_
                walk_at "14"
                walk_at "8"
                walk_at "8"
                walk_at "69"
                walk_at "7"
                walk_at "79"
                walk_at "7"
                walk_at "55"
                walk_at "88"
                refine k_if (fun _ => ?_) (fun _ => ?_)
                · obtain ⟨i9, fs, rfl, hfs⟩ := fill_inv hwc hkf
                  have hfl := fill_len hfs
                  obtain ⟨a9_, xs9, rfl, hS9, hd9⟩ := Dp.tup_inv (show Dp K H9 v9 (.tuple [.str "fill", .int (i9 : Int), .tuple fs]) from hv9)
                  obtain ⟨u0, t0, rfl, hu0, hd9⟩ := DpAll.cons_inv hd9
                  obtain ⟨u1, t1, rfl, hu1, hd9⟩ := DpAll.cons_inv hd9
                  obtain ⟨u2, t2, rfl, hu2, hd9⟩ := DpAll.cons_inv hd9
                  cases DpAll.nil_inv hd9
                  cases Dp.str_inv hu0
                  cases Dp.int_inv hu1
                  obtain ⟨a2, xs2, rfl, hS2, hd2⟩ := Dp.tup_inv hu2
                  have hxl := hd2.len
                  have b0 : atI ([.str "fill", .int (i9 : Int), .ref a2] : List V) 0 = some (.str "fill") := rfl
                  have b1 : atI ([.str "fill", .int (i9 : Int), .ref a2] : List V) 1 = some (.int (i9 : Int)) := rfl
                  have b2 : atI ([.str "fill", .int (i9 : Int), .ref a2] : List V) 2 = some (.ref a2) := rfl
                  generalize hgx : ([.str "fill", .int (i9 : Int), .ref a2] : List V) = xs9 at *
                  walk_at "1"
                  walk_at "35"
                  walk_at "9"
                  walk_at "8"
                  walk_at "69"
                  walk_at "7"
                  walk_at "91"
                  walk_at "9"
                  walk_at "8"
                  walk_at "69"
                  walk_at "7"
                  walk_at "91"
                  walk_at "9"
                  walk_at "11"
                  walk_at "9"
                  walk_at "51"
                  walk_at "42"
                  walk_at "9"
                  walk_at "11"
                  walk_at "9"
                  walk_at "8"
                  walk_at "69"
                  walk_at "7"
                  walk_at "91"
                  walk_at "10"
                  refine v_len_t hS2 ?_
                  walk_at "10"
                  walk_at "88"
                  refine ⟨by omega, by omega, ?_⟩
                  rw [show ((xs2.length : Int)).toNat = xs2.length by omega]
                  refine b_rng (fun t y => xs2[xs2.length - 1 - t]? = some y) (by omega) (fun _ => rfl) (fun t H10 ht x10 R hR => ?_) (fun Dl ys H10 nD hyl hys x10 eD => ?_)
                  · have hS9' := xt x10 hS9
                    have hS2' := xt x10 hS2
                    obtain ⟨yv, hyv⟩ : ∃ yv, xs2[xs2.length - 1 - t]? = some yv := ⟨_, List.getElem?_eq_getElem (by omega)⟩
                    walk_at "8"
                    walk_at "8"
                    walk_at "69"
                    walk_at "7"
                    walk_at "91"
                    walk_at "8"
                    walk_at "8"
                    walk_at "11"
                    walk_at "9"
                    walk_at "8"
                    walk_at "69"
                    walk_at "7"
                    walk_at "91"
                    walk_at "10"
                    refine v_len_t hS2' ?_
                    walk_at "7"
                    walk_at "55"
                    walk_at "69"
                    walk_at "55"
                    rw [show ((xs2.length : Int) - 1 - (0 + (t : Int))) = ((xs2.length - 1 - t : Nat) : Int) by omega]
                    refine v_ix_t hS2' (atI_nat hyv) ?_
                    exact hR _ H10 (xrefl H10) hyv
                  · have hrev : ys = xs2.reverse := by
                      refine List.ext_getElem? fun t => ?_
                      rcases Nat.lt_or_ge t xs2.length with h | h
                      · rw [List.getElem?_reverse h, hys t ys[t] (List.getElem?_eq_getElem (by omega)), List.getElem?_eq_getElem (by omega)]
                      · rw [List.getElem?_eq_none (by omega), List.getElem?_eq_none (by rw [List.length_reverse]; exact h)]
                    subst hrev
                    walk_at "10"
                    refine v_tupl (sql eD) fun pt H11 n11 x11 e11 => ?_
                    walk_at "10"
                    walk_at "83"
                    intro p12 H12 n12 x12 e12
                    walk_at "6"
                    exact ⟨_, _, _, .ref p12, .one "fill" i9 (.tuple fs.reverse), rfl, fin H12 _ _ (xtr x69 (xtr x10 (xtr x11 x12))) (.of_tup e12 (.cons (.str _) (.cons (.int _) (.cons (.of_tup (x12 _ _ e11) (DpAll.mono (xtr x10 (xtr x11 x12)) (DpAll.rev hd2))) .nil)))) (fill_ok (fill_rev hfs)) hrc⟩
                · walk_at "5"
                  exact ⟨_, _, _, v9, cs, rfl, fin H9 v9 cs x69 hv9 hwc hrc⟩
              · refine k_sn hkf ?_
                walk_at "89"
                walk_at "5"
                exact ⟨_, _, _, v9, cs, rfl, fin H9 v9 cs x69 hv9 hwc hrc⟩
          · walk_at "5"
            exact ⟨_, _, _, v, s, rfl, fin H6 v s (xrefl H6) hv hws hrs⟩
        · walk_at "89"
          walk_at "5"
          exact ⟨_, _, _, v, s, rfl, fin H6 v s (xrefl H6) hv hws hrs⟩
      rintro σ' H7 ⟨y8', y9', y10', v7, s7, rfl, x7, es7, hss7, em7, hms7, ef7, hv7, hws7, hrs7⟩
      clear hss6 hms6 es6 em6 ef6 xx6
      have hst : mrun (l ++ [s7]) = mstep (mrun l) s7 := mrun_snoc l s7
      have hdn7 : Down (l ++ [s7]) := hdn.snoc fun r hr => by have := hrs7 r hr; omega
      have hwf7 : ∀ s ∈ l ++ [s7], Wf s := fun s hs => (List.mem_append.mp hs).elim (hwf s) fun h => by rw [List.mem_singleton.mp h]; exact hws7
      unfold mstep at hst
      generalize mrun l = stt at *
      obtain ⟨M, F⟩ := stt
      dsimp only at hms7 ef7 hml wfm imM hmsl hst
      walk_at "0"
      walk_at "3"
      walk_at "36"
      walk_at "69"
      refine ⟨ty_l es7, ?_⟩
      walk_at "9"
      walk_at "69"
      walk_at "10"
      refine v_app es7 (by omega) ?_
      have x8 : Xt H (upd H7 st (.lst (ss ++ [v7]))) := xmut x7 nst
      have es8 : (upd H7 st (.lst (ss ++ [v7]))) st = some (.lst (ss ++ [v7])) := upd_same
      have em8 : (upd H7 st (.lst (ss ++ [v7]))) mg_ = some (.lst ms) := by rw [upd_ne hsm.symm]; exact em7
      have ef8 : (upd H7 st (.lst (ss ++ [v7]))) fi = some (.lst (linesV F)) := by rw [upd_ne hsf.symm]; exact ef7
      have hss8 : DpAll K (upd H7 st (.lst (ss ++ [v7]))) (ss ++ [v7]) ((l ++ [s7]).map toD) := by
        rw [List.map_append]
        exact DpAll.app (DpAll.im (fun _ _ h => SqT.upd es7 h) imS hss7) (.cons (Dp.im (fun _ _ h => SqT.upd es7 h) (wf_im hws7) hv7) .nil)
      have hms8 : DpAll K (upd H7 st (.lst (ss ++ [v7]))) ms (M.map toD) := DpAll.im (fun _ _ h => SqT.upd es7 h) imM hms7
      have hv8 : Dp K (upd H7 st (.lst (ss ++ [v7]))) v7 (toD s7) := Dp.im (fun _ _ h => SqT.upd es7 h) (wf_im hws7) hv7
      generalize upd H7 st (.lst (ss ++ [v7])) = H8 at x8 es8 em8 ef8 hss8 hms8 hv8
      walk_at "0"
      walk_at "3"
      walk_at "36"
      walk_at "69"
      refine ⟨ty_l em8, ?_⟩
      walk_at "9"
      walk_at "12"
      walk_at "9"
      walk_at "69"
      walk_at "9"
      walk_at "69"
      walk_at "10"
      refine ⟨v7, fi, s7, gd F, _, rfl, hv8, hws7, sql ef8, fun r hr => linesV_at (some_gd (by have := hrs7 r hr; omega)), fun v' H9 x9 hv9 => ?_⟩
      have hwc : Wf (s7.mv (gd F)) := hws7.mv
      generalize s7.mv (gd F) = cs at *
      have em9 := x9 _ _ em8
      walk_at "10"
      refine v_app em9 (by omega) ?_
      have x10 : Xt H (upd H9 mg_ (.lst (ms ++ [v']))) := xmut (xtr x8 x9) nmg
      have es10 : (upd H9 mg_ (.lst (ms ++ [v']))) st = some (.lst (ss ++ [v7])) := by rw [upd_ne hsm]; exact x9 _ _ es8
      have em10 : (upd H9 mg_ (.lst (ms ++ [v']))) mg_ = some (.lst (ms ++ [v'])) := upd_same
      have ef10 : (upd H9 mg_ (.lst (ms ++ [v']))) fi = some (.lst (linesV F)) := by rw [upd_ne hmf.symm]; exact x9 _ _ ef8
      have hss10 : DpAll K (upd H9 mg_ (.lst (ms ++ [v']))) (ss ++ [v7]) ((l ++ [s7]).map toD) := DpAll.im (fun _ _ h => SqT.upd em9 h) (imAll_steps hwf7) (DpAll.mono x9 hss8)
      have hms10 : DpAll K (upd H9 mg_ (.lst (ms ++ [v']))) (ms ++ [v']) ((M ++ [cs]).map toD) := by
        rw [List.map_append]
        exact DpAll.app (DpAll.im (fun _ _ h => SqT.upd em9 h) imM (DpAll.mono x9 hms8)) (.cons (Dp.im (fun _ _ h => SqT.upd em9 h) (wf_im hwc) hv9) .nil)
      generalize upd H9 mg_ (.lst (ms ++ [v'])) = H10 at x10 es10 em10 ef10 hss10 hms10
      have hmi : ms.length = i := by omega
      have hlast : atI (ms ++ [v']) (i : Int) = some v' := atI_nat (by rw [List.getElem?_append_right (by omega), hmi, Nat.sub_self]; rfl)
      obtain ⟨cd, hcd, hvc⟩ := DpAll.getV hms10 (show (ms ++ [v'])[ms.length]? = some v' by rw [List.getElem?_append_right (Nat.le_refl _), Nat.sub_self]; rfl)
      have hcd2 : cd = toD cs := by
        rw [List.map_append, List.getElem?_append_right (by rw [List.length_map]; omega), List.length_map, hmsl, Nat.sub_self] at hcd
        cases hcd; rfl
      subst hcd2
      have wfc : ∀ s ∈ M ++ [cs], Wf s := fun s hs => (List.mem_append.mp hs).elim (wfm s) fun h => by rw [List.mem_singleton.mp h]; exact hwc
      walk_at "3"
      walk_at "36"
      walk_at "69"
      refine ⟨ty_l ef10, ?_⟩
      walk_at "9"
      walk_at "36"
      walk_at "69"
      refine ⟨ty_l em10, ?_⟩
      walk_at "9"
      walk_at "8"
      walk_at "69"
      walk_at "69"
      walk_at "79"
      walk_at "10"
      refine index_steps (.of_lst em10 hms10) wfc hwc (by rw [List.length_append, List.length_singleton]; omega) hvc ?_
      walk_at "10"
      refine v_app ef10 (by rw [linesV_len]; omega) ?_
      skip
      refine ⟨_, _, _, _, _, _, _, _, l ++ [s7], rfl, xmut x10 nfi, by rw [List.length_append, List.length_singleton]; omega, hdn7, hwf7, by rw [upd_ne hsf]; exact es10, DpAll.im (fun _ _ h => SqT.upd ef10 h) (imAll_steps hwf7) hss10, by rw [upd_ne hmf]; exact em10, ?_, ?_⟩
      · rw [hst]
        exact DpAll.im (fun _ _ h => SqT.upd ef10 h) (imAll_steps wfc) hms10
      · rw [hst, upd_same, linesV_app]; rfl
    · rintro σ' H' ⟨y5, y6, y7, y8, y9, y10, ss, ms, l, rfl, xx, hli, hdn, hwf, es, hss, em, hms, ef⟩
      walk_at "2"
      walk_at "69"
      exact q st H' l xx ⟨hwf, hdn, by omega⟩ hli (.of_lst es hss)


theorem ok_needed_lines (T : TopW w P K mg) : FnOk P w K mg base CX0 4 T.f_needed_lines T.fd_needed_lines ["steps"] (sp_needed_lines T) := by
  refine T.F_needed_lines.ok sc_needed_lines (fun vs H Q E h => ?_) (fun cdv A outer s H vs Q E hr h => ?_)
  · obtain ⟨a, M, n, rfl, hv, hM, hn, hw, hd, q⟩ := h
    rfl
  · obtain ⟨a, M, n, rfl, hv, hM, hn, hw, hd, q⟩ := h
    refine ⟨_, (pss_cons (ps_set (i := 1) sc_needed_lines.nd rfl (Or.inl rfl) (pe_ifExp (pt_truth (pv 0) (by intro _; rfl)) (pe_disp (pps_cons (pe_op op_sub (pe_callB (r := rLenU K) call_lenU (by rfl) T.n_len PySem.boot_len (pa_cons (pv 0) pa_nil)) pe_int) pe_bl pps_nil) rfl rfl (by simp) (by decide)) pe_dnewK))
      (pss_cons (ps_for PassesOwn.never rfl (pi_revR (by rfl) T.n_reversed (prg_1 (by rfl) T.n_range (pe_callB (r := rLenU K) call_lenU (by rfl) T.n_len PySem.boot_len (pa_cons (pv 0) pa_nil)))) (pg_name (i := 2) sc_needed_lines.nd rfl (Or.inl rfl)) (pss_one (ps_if (pt_cmp (pc_din (hu_of hr) (pv 2) (pv 1))) (pss_one (ps_for PassesOwn.never rfl (pi_tup (pe_call (ok_lines_used T) (hr.mono (by first | decide | exact Nat.le_refl _ | omega | (show _ ≤ _ + n; omega))) (by rfl) T.g_lines_used T.F_lines_used.kp T.b_lines_used .nil pass0 (pa_cons (pe_ix (r := rIx K) ix_seq (pv 0) (pv 2) (fun _ _ => rfl)) pa_nil))) (pg_name (i := 3) sc_needed_lines.nd rfl (Or.inl rfl)) (pss_one (ps_dput (hu_of hr) (pv 1) (pv 3) pe_bl rfl)))) pss_nil)))
      (pss_one (ps_ret (pe_callB (call_sortedDI rfl) (by rfl) T.n_sorted PyProof.Rows.boot_sorted (pa_cons (pv 1) pa_nil)))))), ?_⟩
    obtain ⟨a', xs, ea, hS, hxs⟩ := Dp.lst_inv hv
    cases ea
    have hxl := hxs.len
    rw [List.length_map, hM] at hxl
    walk_at "0"
    walk_at "1"
    walk_at "22"
    walk_at "69"
    refine ⟨!xs.isEmpty, .inl ⟨xs, hS, rfl⟩, ?_⟩
    rw [show (!xs.isEmpty) = true by cases xs with
      | nil => cases hxl
      | cons => rfl]
    walk_at "90"
    intro d nd0
    show tOp _ _ _ _ _ _
    have x1 : Xt H (upd H d (.dK [])) := xnew nd0
    have hv1 : SqL K (upd H d (.dK [])) a xs := xl x1 hS
    walk_at "8"
    walk_at "11"
    walk_at "9"
    walk_at "69"
    walk_at "10"
    walk_at "77"
    walk_at "7"
    walk_at "55"
    walk_at "7"
    show _ ∧ _
    refine ⟨upd_same, [(Sum.inl (n : Int), .bl true)], ?_, by simp, ?_⟩
    · rw [hxl]
      show [(V.int (((n + 1 : Nat) : Int) - 1), V.bl true)] = [(V.int (n : Int), V.bl true)]
      rw [show (((n + 1 : Nat) : Int) - 1) = (n : Int) by omega]
    have x2 : Xt H (upd (upd H d (.dK [])) d (.dK (mergeK [] [(Sum.inl (n : Int), .bl true)]))) := xmut x1 nd0
    have hd2 : (upd (upd H d (.dK [])) d (.dK (mergeK [] [(Sum.inl (n : Int), .bl true)]))) d = some (.dK [(Sum.inl (n : Int), .bl true)]) := upd_same
    generalize upd (upd H d (.dK [])) d (.dK (mergeK [] [(Sum.inl (n : Int), .bl true)])) = H2 at x2 hd2
    walk_at "6"
    walk_at "0"
    walk_at "37"
    show tCB _ _ _ _ _
    walk_at "11"
    walk_at "9"
    walk_at "69"
    walk_at "10"
    refine v_len_l (xl x2 hS) ?_
    rw [hxl]
    refine ⟨_, rfl, by decide, by decide, by omega, by omega, ?_⟩
    rw [show (((n + 1 : Nat) : Int) - 0).toNat = n + 1 by omega]
    refine for_rangeC (fun i σ' H' => ∃ y2 y3 kvs ks, σ' = [some (.ref a), some (.ref d), y2, y3] ∧ Xt H H' ∧ H' d = some (.dK kvs) ∧ kvs.map (·.1) = keysV ks ∧ ks.Nodup ∧ ∀ m, m ∈ ks ↔ m ∈ nd M n i) ⟨none, none, _, [n], rfl, x2, hd2, rfl, by simp, fun m => Iff.rfl⟩ ?_ ?_
    · rintro i σ' H' hi ⟨y2, y3, kvs, ks, rfl, xx, hk, hkk, hnd, hmk⟩
      have hin := nd_inv hd i (by omega)
      rw [show (0 + ((n + 1 : Nat) : Int) - 1) + (i : Int) * (-1) = ((n - i : Nat) : Int) by omega]
      walk_at "6"
      walk_at "4"
      walk_at "15"
      walk_at "28"
      walk_at "69"
      walk_at "69"
      refine ⟨d, _, rfl, .inl ⟨kvs, Sum.inl ((n - i : Nat) : Int), .inl hk, rfl, rfl⟩, ?_⟩
      rw [valV_keys hkk]
      walk_at "88"
      refine k_if (fun hm => ?_) (fun hm => ?_)
      · have hmn := (hmk _).mp hm
        walk_at "37"
        walk_at "39"
        walk_at "12"
        walk_at "9"
        walk_at "8"
        walk_at "69"
        walk_at "69"
        refine d_ixl (Dp.mono xx hv) (atI_nat (steps_at (by omega))) fun wv hwv => ?_
        walk_at "10"
        refine ⟨wv, _, rfl, hwv, hw _ (gs_mem (by omega)), fun v' H3 x3 hv' => ?_⟩
        obtain ⟨a3, xs3, rfl, hS3, hd3⟩ := Dp.tup_inv hv'
        have e3 := lines_inv hd3
        subst e3
        have hk3 := x3 _ _ hk
        refine ⟨a3, rfl, ⟨_, hS3⟩, for_tup (xs := linesV (rf M (n - i))) (fun j σ' H' => ∃ y3 kvs ks, σ' = [some (.ref a), some (.ref d), some (.int ((n - i : Nat) : Int)), y3] ∧ Xt H H' ∧ SqT K H' a3 (linesV (rf M (n - i))) ∧ H' d = some (.dK kvs) ∧ kvs.map (·.1) = keysV ks ∧ ks.Nodup ∧ ∀ m, m ∈ ks ↔ m ∈ nd M n i ∨ m ∈ (rf M (n - i)).take j) ⟨_, kvs, ks, rfl, xtr xx x3, hS3, hk3, hkk, hnd, fun m => by rw [hmk, List.take_zero]; exact ⟨.inl, fun h => h.resolve_right (by simp)⟩⟩ ?_ ?_ ?_⟩
        · rintro j σ' H' hj ⟨y3, kvs, ks, rfl, xx', hS', _⟩
          exact hS'
        · rintro j u σ' H' hu ⟨y3, kvs, ks, rfl, xx', hS', hk', hkk', hnd', hmk'⟩
          unfold linesV at hu
          rw [List.getElem?_map] at hu
          cases hr : (rf M (n - i))[j]? with
          | none => rw [hr] at hu; cases hu
          | some r =>
          rw [hr] at hu
          cases hu
          have hle : ∀ m ∈ ks, m < n + 1 := fun m hm => by
            rcases (hmk' m).mp hm with h | h
            · have := hin.2.1 m h; omega
            · have := hd (n - i) (by omega) m (List.mem_of_mem_take h); omega
          have hkl := keys_len hnd' hle
          have hkvl : kvs.length = ks.length := by
            have := congrArg List.length hkk'
            rw [List.length_map] at this
            rw [this]; exact List.length_map _
          walk_at "6"
          walk_at "29"
          walk_at "7"
          walk_at "69"
          walk_at "69"
          refine v_dputI hk' (by omega) ?_
          skip
          refine ⟨_, _, addK ks r, rfl, xmut xx' nd0, SqT.updD hk' hS', upd_same, putK_keys hkk' r _, addK_nodup hnd' r, fun m => ?_⟩
          rw [mem_addK, hmk', take_snoc hr, List.mem_append, List.mem_singleton]
          exact or_assoc
        · rintro σ' H' ⟨y3, kvs, ks, rfl, xx', hS', hk', hkk', hnd', hmk'⟩
          rw [linesV_len, List.take_length] at hmk'
          skip
          refine ⟨_, _, kvs, ks, rfl, xx', hk', hkk', hnd', fun m => ?_⟩
          rw [hmk', nd, if_pos hmn, List.mem_append]
      · walk_at "5"
        refine ⟨_, _, kvs, ks, rfl, xx, hk, hkk, hnd, fun m => ?_⟩
        rw [nd, if_neg (fun h => hm ((hmk _).mpr h))]; exact hmk m
    · rintro σ' H' ⟨y2, y3, kvs, ks, rfl, xx, hk, hkk, hnd, hmk⟩
      have hin := nd_inv hd (n + 1) (Nat.le_refl _)
      have hle : ∀ m ∈ nd M n (n + 1), m < n + 1 := fun m hm => by have := hin.2.1 m hm; omega
      have hkl := keys_len hnd (n := n + 1) fun m hm => hle m ((hmk m).mp hm)
      walk_at "2"
      walk_at "11"
      walk_at "9"
      walk_at "69"
      walk_at "10"
      refine ⟨d, kvs, ks.map fun (k : Nat) => (k : Int), rfl, .inl hk, ?_, by rw [List.length_map]; omega, fun ys p hp hs np => ?_⟩
      · rw [hkk, List.map_map]; rfl
      · rw [sorted_keys hnd hmk hle hp hs]
        exact q p _ (xtr xx (xnew np)) upd_same


theorem ok_needed_steps (T : TopW w P K mg) : FnOk P w K mg base CX0 5 T.f_needed_steps T.fd_needed_steps ["steps"] (sp_needed_steps T) := by
  refine T.F_needed_steps.ok sc_needed_steps (fun vs H Q E h => ?_) (fun cdv A outer s H vs Q E hr h => ?_)
  · obtain ⟨a, M, n, rfl, hv, hM, hn, hw, hd, q⟩ := h
    rfl
  · obtain ⟨a, M, n, rfl, hv, hM, hn, hw, hd, q⟩ := h
    refine ⟨_, (pss_cons (ps_set (i := 1) sc_needed_steps.nd rfl (Or.inl rfl) (pe_lst pa_nil))
      (pss_cons (ps_set (i := 2) sc_needed_steps.nd rfl (Or.inl rfl) pe_dnewK)
      (pss_cons (ps_for PassesOwn.never rfl (pi_list (pe_call (ok_needed_lines T) (hr.mono (by first | decide | exact Nat.le_refl _ | omega | (show _ ≤ _ + n; omega))) (by rfl) T.g_needed_lines T.F_needed_lines.kp T.b_needed_lines .nil pass0 (pa_cons (pv 0) pa_nil))) (pg_name (i := 3) sc_needed_steps.nd rfl (Or.inl rfl)) (pss_cons (ps_dput (hu_of hr) (pv 2) (pv 3) (pe_callB (r := rLenU K) call_lenU (by rfl) T.n_len PySem.boot_len (pa_cons (pv 1) pa_nil)) rfl)
      (pss_one (ps_expr (pe_bm PySem.F.plainAttrs_list PySem.F.slot_list_append PySem.F.type_list_append mt_append (pv 1) (pa_cons (pe_call (ok_with_lines T) (hr.mono (by first | decide | exact Nat.le_refl _ | omega | (show _ ≤ _ + n; omega))) (by rfl) T.g_with_lines T.F_with_lines.kp T.b_with_lines .nil pass0 (pa_cons (pe_ix (r := rIx K) ix_seq (pv 0) (pv 3) (fun _ _ => rfl)) (pa_cons (pv 2) pa_nil))) pa_nil))))))
      (pss_one (ps_ret (pv 1)))))), ?_⟩
    walk_at "0"
    walk_at "1"
    walk_at "34"
    walk_at "10"
    walk_at "82"
    intro f H1 n1 x1 e1
    walk_at "6"
    walk_at "0"
    walk_at "1"
    refine k_dnew fun d H2 n2 x2 e2 => ?_
    walk_at "6"
    walk_at "0"
    walk_at "37"
    walk_at "38"
    walk_at "12"
    walk_at "9"
    walk_at "69"
    walk_at "10"
    have hfd : f ≠ d := fun h => by rw [h, n2] at e1; cases e1
    have nd0 : H d = none := xfree x1 n2
    have x12 := xtr x1 x2
    refine ⟨a, M, n, rfl, Dp.mono x12 hv, hM, hn, hw, hd, fun p H3 x3 e3 => ?_⟩
    have x13 := xtr x12 x3
    have hN := nd_nd hd
    have hPn : n ∈ ps (nd M n (n + 1)) (n + 1) := mem_ps.mpr ⟨by omega, hN.last⟩
    have hPl := ps_len (nd M n (n + 1)) (n + 1)
    have hq : ∀ p H', Xt H H' → Dp K H' (.ref p) (.list ((ps (nd M n (n + 1)) (n + 1)).map fun p => toD ((gs M p).mv (cnt (nd M n (n + 1)))))) → Q (.ref p) H' := fun p H' x h => q p H' x (by unfold trim; rw [List.map_map]; exact h)
    clear q
    generalize hNe : nd M n (n + 1) = N at *
    generalize hPe : ps N (n + 1) = PS at *
    have hpf : p ≠ f := fun h => by
      have h2 := x3 _ _ (x2 _ _ e1)
      rw [← h, e3] at h2
      cases PS with
      | nil => cases hPn
      | cons _ _ => cases h2
    have hpd : p ≠ d := fun h => by
      have h2 := x3 _ _ e2
      rw [← h, e3] at h2; cases h2
    refine ⟨p, rfl, ⟨_, sql e3⟩, for_list (xs := linesV PS) (fun i σ' H' => ∃ y3 fs kvs, σ' = [some (.ref a), some (.ref f), some (.ref d), y3] ∧ Xt H H' ∧ H' p = some (.lst (linesV PS)) ∧ H' f = some (.lst fs) ∧ DpAll K H' fs ((PS.take i).map fun p => toD ((gs M p).mv (cnt N))) ∧ H' d = some (.dK kvs) ∧ kvs.length ≤ i ∧ ∀ r ∈ N, cnt N r < i → valV kvs (Sum.inl (r : Int)) = some (.int (cnt N r : Int))) ⟨none, [], [], rfl, x13, e3, x3 _ _ (x2 _ _ e1), by rw [List.take_zero]; exact .nil, x3 _ _ e2, Nat.le_refl _, fun r _ h => absurd h (Nat.not_lt_zero _)⟩ ?_ ?_ ?_⟩
    · rintro i σ' H' hi ⟨y3, fs, kvs, rfl, xx, ep, _⟩
      exact sql ep
    · rintro i u σ' H' hu ⟨y3, fs, kvs, rfl, xx, ep, ef, hfs, ed, hkl, hval⟩
      unfold linesV at hu
      rw [List.getElem?_map] at hu
      cases hr : PS[i]? with
      | none => rw [hr] at hu; cases hu
      | some r =>
      rw [hr] at hu
      cases hu
      have hil := (List.getElem?_eq_some_iff.mp hr).1
      have hr2 := hr
      rw [← hPe] at hr2
      obtain ⟨hrn, hrN, hci⟩ := cnt_at hr2
      have hfl := hfs.len
      rw [List.length_map, List.length_take] at hfl
      have hfi : fs.length = i := by omega
      have imF : ImAll ((PS.take i).map fun p => toD ((gs M p).mv (cnt N))) = true := imAll_iff.mpr fun e he => by
        obtain ⟨c, hc, rfl⟩ := List.mem_map.mp he
        have hc2 := List.mem_of_mem_take hc
        rw [← hPe] at hc2
        have := (mem_ps.mp hc2).1
        exact wf_im (hw _ (gs_mem (by omega))).mv
      walk_at "6"
      walk_at "0"
      walk_at "29"
      walk_at "11"
      walk_at "9"
      walk_at "69"
      walk_at "10"
      walk_at "77"
      walk_at "69"
      walk_at "69"
      rw [show (fs.length : Int) = (cnt N r : Int) by rw [hfi, hci]]
      refine v_dputI ed (by omega) ?_
      have x4 : Xt H (upd H' d (.dK (putK kvs (Sum.inl (r : Int)) (.int (cnt N r : Int))))) := xmut xx nd0
      have ep4 : (upd H' d (.dK (putK kvs (Sum.inl (r : Int)) (.int (cnt N r : Int))))) p = some (.lst (linesV PS)) := by rw [upd_ne hpd]; exact ep
      have ef4 : (upd H' d (.dK (putK kvs (Sum.inl (r : Int)) (.int (cnt N r : Int))))) f = some (.lst fs) := by rw [upd_ne hfd]; exact ef
      have hf4 : DpAll K (upd H' d (.dK (putK kvs (Sum.inl (r : Int)) (.int (cnt N r : Int))))) fs ((PS.take i).map fun p => toD ((gs M p).mv (cnt N))) := DpAll.im (fun _ _ h => SqT.updD ed h) imF hfs
      have ed4 : (upd H' d (.dK (putK kvs (Sum.inl (r : Int)) (.int (cnt N r : Int))))) d = some (.dK (putK kvs (Sum.inl (r : Int)) (.int (cnt N r : Int)))) := upd_same
      have hval4 : ∀ m ∈ N, cnt N m < i + 1 → valV (putK kvs (Sum.inl (r : Int)) (.int (cnt N r : Int))) (Sum.inl (m : Int)) = some (.int (cnt N m : Int)) := fun m hm hmi => by
        rw [valV_put]
        by_cases e : m = r
        · rw [e, if_pos rfl]
        · rw [if_neg (key_ne e)]
          refine hval m hm ?_
          have : cnt N m ≠ i := fun h => e (cnt_inj hm hrN (by rw [h, hci]))
          omega
      have hkl4 : (putK kvs (Sum.inl (r : Int)) (.int (cnt N r : Int))).length ≤ i + 1 := by have := length_putK kvs (Sum.inl (r : Int)) (.int (cnt N r : Int)); omega
      generalize putK kvs (Sum.inl (r : Int)) (.int (cnt N r : Int)) = kvs4 at *
      generalize upd H' d (.dK kvs4) = H4 at x4 ep4 ef4 hf4 ed4
      walk_at "3"
      walk_at "36"
      walk_at "69"
      refine ⟨ty_l ef4, ?_⟩
      walk_at "9"
      walk_at "12"
      walk_at "9"
      walk_at "8"
      walk_at "69"
      walk_at "69"
      refine d_ixl (Dp.mono x4 hv) (atI_nat (steps_at (by omega))) fun wv hwv => ?_
      walk_at "9"
      walk_at "69"
      walk_at "10"
      have hwr := hw _ (gs_mem (l := M) (i := r) (by omega))
      refine ⟨wv, .ref d, gs M r, cnt N, rfl, hwv, hwr, .inr ⟨d, kvs4, rfl, ed4, fun m hm => ?_⟩, fun v' H5 x5 hv5 => ?_⟩
      · have h1 := hN.cl r hrN m hm
        have h2 := hd r (by omega) m hm
        have := cnt_lt h2 h1
        exact hval4 m h1 (by omega)
      · have ef5 := x5 _ _ ef4
        walk_at "10"
        refine v_app ef5 (by omega) ?_
        skip
        refine ⟨_, _, kvs4, rfl, xmut (xtr x4 x5) n1, by rw [upd_ne hpf]; exact x5 _ _ ep4, upd_same, ?_, by rw [upd_ne hfd.symm]; exact x5 _ _ ed4, hkl4, hval4⟩
        rw [take_snoc hr, List.map_append]
        exact DpAll.app (DpAll.im (fun _ _ h => SqT.upd ef5 h) imF (DpAll.mono x5 hf4)) (.cons (Dp.im (fun _ _ h => SqT.upd ef5 h) (wf_im hwr.mv) hv5) .nil)
    · rintro σ' H' ⟨y3, fs, kvs, rfl, xx, ep, ef, hfs, ed, hkl, hval⟩
      rw [linesV_len, List.take_length] at hfs
      walk_at "2"
      walk_at "69"
      exact hq f H' xx (.of_lst ef hfs)


theorem ok_trimmed_paper (T : TopW w P K mg) : FnOk P w K mg base CX0 6 T.f_trimmed_paper T.fd_trimmed_paper ["paper"] (sp_trimmed_paper T) := by
  refine T.F_trimmed_paper.ok sc_trimmed_paper (fun vs H Q E h => ?_) (fun cdv A outer s H vs Q E hr h => ?_)
  · obtain ⟨a, l, rfl, hP, ok, q⟩ := h
    rfl
  · obtain ⟨a, l, rfl, hP, ok, q⟩ := h
    refine ⟨_, (pss_cons (ps_set (i := 1) sc_trimmed_paper.nd rfl (Or.inl rfl) (pe_lst pa_nil))
      (pss_cons (ps_set (i := 2) sc_trimmed_paper.nd rfl (Or.inl rfl) (show PE _ _ (tNNew P w K) from pe_nnew))
      (pss_cons (ps_set (i := 3) sc_trimmed_paper.nd rfl (Or.inl rfl) (pe_lst pa_nil))
      (pss_cons (ps_for PassesOwn.never rfl (pi_tup (show PE _ _ (tFld K _ _) from pe_fld (pv 0) rfl)) (pg_name (i := 4) sc_trimmed_paper.nd rfl (Or.inl rfl)) (pss_cons (ps_set (i := 5) sc_trimmed_paper.nd rfl (Or.inl rfl) (pe_call (ok_with_lines T) (hr.mono (by first | decide | exact Nat.le_refl _ | omega | (show _ ≤ _ + n; omega))) (by rfl) T.g_with_lines T.F_with_lines.kp T.b_with_lines .nil pass0 (pa_cons (pv 4) (pa_cons (pv 3) pa_nil))))
      (pss_cons (ps_set (i := 6) sc_trimmed_paper.nd rfl (Or.inl rfl) (pe_call (ok__step_key T) (hr.mono (by first | decide | exact Nat.le_refl _ | omega | (show _ ≤ _ + n; omega))) (by rfl) T.g__step_key T.F__step_key.kp T.b__step_key .nil pass0 (pa_cons (pv 5) pa_nil)))
      (Evl.pss_cut (ps_if (pt_cmpR (r := rInN P w K true) (op_notInN (hu10 hr)) (pv 6) (pv 2) (by with_unfolding_all rfl)) (pss_cons (ps_asg (pe_callB (r := rLenU K) call_lenU (by rfl) T.n_len PySem.boot_len (pa_cons (pv 1) pa_nil)) (pg_sub (t := rSetN P w K) (pv 2) (pv 6) (set_N (hu10 hr))))
      (pss_one (ps_expr (pe_bm PySem.F.plainAttrs_list PySem.F.slot_list_append PySem.F.type_list_append mt_append (pv 1) (pa_cons (pv 5) pa_nil))))) pss_nil)
      (pss_one (ps_expr (pe_bm PySem.F.plainAttrs_list PySem.F.slot_list_append PySem.F.type_list_append mt_append (pv 3) (pa_cons (pe_nget (hu10 hr) (pv 2) (pv 6) (fun _ _ => rfl)) pa_nil))))))))
      (pss_cons (ps_if (pt_not (pt_truth (pv 1) (by intro _; rfl))) (pss_one (ps_ret (pe_make T.mk_Paper (ok_Paper___init__ T) (hr.mono (by first | decide | exact Nat.le_refl _ | omega | (show _ ≤ _ + n; omega))) (by rfl) T.g_Paper T.b_Paper___init__ .nil pass0 (pa_cons (pe_tup pa_nil) pa_nil)))) pss_nil)
      (pss_one (ps_ret (pe_make T.mk_Paper (ok_Paper___init__ T) (hr.mono (by first | decide | exact Nat.le_refl _ | omega | (show _ ≤ _ + n; omega))) (by rfl) T.g_Paper T.b_Paper___init__ .nil pass0 (pa_cons (pe_call (ok_needed_steps T) (hr.mono (by first | decide | exact Nat.le_refl _ | omega | (show _ ≤ _ + n; omega))) (by rfl) T.g_needed_steps T.F_needed_steps.kp T.b_needed_steps .nil pass0 (pa_cons (pe_slice (r := rSlU K) sl_any (pv 1) po_none (po_some (pe_op (r := rPlus K) op_plus (pe_ix (r := rIx K) ix_seq (pv 3) (pe_un un_neg pe_int) (fun _ _ => rfl)) pe_int))) pa_nil)) pa_nil))))))))), ?_⟩
    obtain ⟨dx, sv, hA, hsv⟩ := hP
    obtain ⟨sa, ws, rfl, hS, hws⟩ := Dp.tup_inv hsv
    have hwl := hws.len
    rw [List.length_map] at hwl
    have hlen := ok.len
    walk_at "0"
    walk_at "1"
    walk_at "34"
    walk_at "10"
    walk_at "82"
    intro kp H1 n1 x1 e1
    walk_at "6"
    walk_at "0"
    walk_at "1"
    intro fd n2 nsy
    have x2 : Xt H1 (L2.upd H1 fd (ndO P w fd [])) := xnew n2
    have nd0 : ND P w K (L2.upd H1 fd (ndO P w fd [])) fd [] := ND.new nsy
    generalize L2.upd H1 fd (ndO P w fd []) = H2 at x2 nd0
    walk_at "6"
    walk_at "0"
    walk_at "1"
    walk_at "34"
    walk_at "10"
    walk_at "82"
    intro nm H3 n3 x3 e3
    walk_at "6"
    walk_at "0"
    walk_at "37"
    walk_at "39"
    walk_at "25"
    walk_at "69"
    have x13 := xtr x1 (xtr x2 x3)
    have nf : H fd = none := xfree x1 n2
    have nn : H nm = none := xfree (xtr x1 x2) n3
    have hkn : kp ≠ nm := fun h => by have := x2 _ _ e1; rw [h, n3] at this; cases this
    have e13 := x3 _ _ (x2 _ _ e1)
    have nd3 := nd0.mono x3
    refine v_fld (x13 _ _ hA) T.cl_Paper T.na_Paper_steps rfl ?_
    have hKD : ∀ s : Stp, Wf s → (findN [] (nkey (keyD s))).map (·.2.2) = if ixOf [] s < 0 then some (V.int (ixOf [] s : Int)) else none := fun s _ => by rw [if_neg (Nat.not_lt_zero _)]; rfl
    refine ⟨sa, rfl, ⟨_, xt x13 hS⟩, for_tup (xs := ws) (fun i σ' H' => ∃ y4 y5 y6 ks kvs, σ' = [some (.ref a), some (.ref kp), some (.ref fd), some (.ref nm), y4, y5, y6] ∧ Xt H H' ∧ H' kp = some (.lst ks) ∧ DpAll K H' ks ((prun (l.take i)).1.map toD) ∧ H' nm = some (.lst (linesV (prun (l.take i)).2)) ∧ ND P w K H' fd kvs ∧ kvs.length ≤ i ∧ ∀ s : Stp, Wf s → (findN kvs (nkey (keyD s))).map (·.2.2) = if ixOf (prun (l.take i)).1 s < (prun (l.take i)).1.length then some (V.int (ixOf (prun (l.take i)).1 s : Int)) else none) ⟨none, none, none, [], [], rfl, x13, e13, .nil, e3, nd3, Nat.le_refl _, hKD⟩ ?_ ?_ ?_⟩
    · rintro i σ' H' hi ⟨y4, y5, y6, ks, kvs, rfl, xx, _⟩
      exact xt xx hS
    · rintro i u σ' H' hu ⟨y4, y5, y6, ks, kvs, rfl, xx, ek, hks, en, ndi, hkl, hval⟩
      obtain ⟨cd, hcd, huc⟩ := DpAll.getV (DpAll.mono xx hws) hu
      rw [List.getElem?_map] at hcd
      cases hs : l[i]? with
      | none => rw [hs] at hcd; cases hcd
      | some s =>
      rw [hs] at hcd
      cases hcd
      have hil := (List.getElem?_eq_some_iff.mp hs).1
      have hwf := ok.wf s (List.mem_of_getElem? hs)
      have hpl := prun_len (l.take i)
      rw [List.length_take] at hpl
      have wfk := (mem_mv (P := Wf) (fun s f h => Wf.mv h) (l := l.take i) fun s h => ok.wf s (List.mem_of_mem_take h)).2
      have hkn2 := prun_kl (l.take i)
      rw [List.length_take] at hkn2
      have hst : prun (l.take (i + 1)) = pstep (prun (l.take i)) s := by rw [take_snoc hs, prun_snoc]
      rw [hst]
      unfold pstep
      generalize prun (l.take i) = st at *
      obtain ⟨Kp, Nm⟩ := st
      dsimp only at ek hks en hpl wfk hkn2 hval ⊢
      have hksl := hks.len
      rw [List.length_map] at hksl
      have imK := imAll_steps wfk
      walk_at "6"
      walk_at "0"
      walk_at "1"
      walk_at "12"
      walk_at "9"
      walk_at "69"
      walk_at "9"
      walk_at "69"
      walk_at "10"
      refine ⟨u, .ref nm, s, gd Nm, rfl, huc, hwf, .inl ⟨nm, _, rfl, sql en, fun r hr => linesV_at (some_gd ?_)⟩, fun v' H4 x4 hv4 => ?_⟩
      · have := ok.down i s hs r hr; omega
      have hwc : Wf (s.mv (gd Nm)) := hwf.mv
      generalize s.mv (gd Nm) = c at *
      walk_at "6"
      walk_at "0"
      walk_at "1"
      walk_at "12"
      walk_at "9"
      walk_at "69"
      walk_at "10"
      refine ⟨v', c, rfl, hv4, hwc, fun b H5 x5 hb => ?_⟩
      have x45 := xtr x4 x5
      have ek5 := x45 _ _ ek
      have en5 := x45 _ _ en
      have nd5 := ndi.mono x45
      have hks5 := DpAll.mono x45 hks
      have hv5 := Dp.mono x5 hv4
      have xx5 := xtr xx x45
      have nk : NKey K H5 (.ref b) (keyD c) := ⟨hb, key_im hwc, key_dp hwc⟩
      have hfc := hval c hwc
      have hsome : (findN kvs (nkey (keyD c))).isSome = decide (ixOf Kp c < Kp.length) := by
        have h := congrArg Option.isSome hfc
        rw [Option.isSome_map] at h
        rw [h]
        by_cases hlt : ixOf Kp c < Kp.length
        · rw [if_pos hlt, decide_eq_true hlt]; rfl
        · rw [if_neg hlt, decide_eq_false hlt]; rfl
      have hfk : fd ≠ kp := fun h => by rw [← h, nd5.here] at ek5; cases ek5
      have hfn : fd ≠ nm := fun h => by rw [← h, nd5.here] at en5; cases en5
      walk_at "6"
      show Evl.tCut _ _ _ _ _
      refine k_cut (fun σ' H' => ∃ ks' kvs' Kp', σ' = [some (.ref a), some (.ref kp), some (.ref fd), some (.ref nm), some u, some v', some (.ref b)] ∧ Xt H H' ∧ H' kp = some (.lst ks') ∧ DpAll K H' ks' (Kp'.map toD) ∧ H' nm = some (.lst (linesV Nm)) ∧ ND P w K H' fd kvs' ∧ kvs'.length ≤ i + 1 ∧ NKey K H' (.ref b) (keyD c) ∧ (∀ s ∈ Kp', Wf s) ∧ Kp' = (if ixOf Kp c < Kp.length then Kp else Kp ++ [c]) ∧ ixOf Kp' c = ixOf Kp c ∧ ixOf Kp' c < Kp'.length ∧ ∀ s : Stp, Wf s → (findN kvs' (nkey (keyD s))).map (·.2.2) = if ixOf Kp' s < Kp'.length then some (V.int (ixOf Kp' s : Int)) else none) ?_ ?_
      · walk_at "4"
        walk_at "14"
        walk_at "8"
        walk_at "69"
        walk_at "69"
        refine ⟨fd, b, keyD c, kvs, rfl, rfl, nd5, nk, ?_⟩
        show ∃ k, V.bl (!(findN kvs (nkey (keyD c))).isSome) = .bl k ∧ _
        rw [hsome]
        walk_at "88"
        refine k_ifn (fun hlt => ?_) (fun hlt => ?_)
        · have hix : ixOf Kp c = Kp.length := Nat.le_antisymm ixOf_le (Nat.not_lt.mp hlt)
          have hbl : ks.length = Kp.length := hksl
          walk_at "0"
          walk_at "1"
          walk_at "11"
          walk_at "9"
          walk_at "69"
          walk_at "10"
          walk_at "77"
          show tVar 2 _ _ _
          walk_at "69"
          walk_at "69"
          refine ⟨fd, b, keyD c, kvs, rfl, rfl, nd5, nk, szL2 (by omega), ?_⟩
          have nd7 := nd5.put (v := .int (ks.length : Int)) nk (szL2 (by omega))
          have x7 : Xt H (L2.upd H5 fd (ndO P w fd (putN kvs (keyD c) b (.int (ks.length : Int))))) := xmut xx5 nf
          have ek7 : (L2.upd H5 fd (ndO P w fd (putN kvs (keyD c) b (.int (ks.length : Int))))) kp = some (.lst ks) := by rw [upd_ne hfk.symm]; exact ek5
          have en7 : (L2.upd H5 fd (ndO P w fd (putN kvs (keyD c) b (.int (ks.length : Int))))) nm = some (.lst (linesV Nm)) := by rw [upd_ne hfn.symm]; exact en5
          have hks7 : DpAll K (L2.upd H5 fd (ndO P w fd (putN kvs (keyD c) b (.int (ks.length : Int))))) ks (Kp.map toD) := DpAll.im (fun _ _ h => SqT.updN nd5.here h) imK hks5
          have hv7 : Dp K (L2.upd H5 fd (ndO P w fd (putN kvs (keyD c) b (.int (ks.length : Int))))) v' (toD c) := Dp.im (fun _ _ h => SqT.updN nd5.here h) (wf_im hwc) hv5
          have nk7 := nk.updN (o := ndO P w fd (putN kvs (keyD c) b (.int (ks.length : Int)))) nd5.here
          have hkl7 := putN_len kvs (keyD c) b (.int (ks.length : Int))
          have hval7 : ∀ s : Stp, Wf s → (findN (putN kvs (keyD c) b (.int (ks.length : Int))) (nkey (keyD s))).map (·.2.2) = if ixOf (Kp ++ [c]) s < (Kp ++ [c]).length then some (V.int (ixOf (Kp ++ [c]) s : Int)) else none := fun s hs => by
            rw [find_putN]
            by_cases e : s = c
            · rw [e, if_pos rfl, ixOf_app_self hix, hbl, if_pos (by rw [List.length_append, List.length_singleton]; omega)]
            · rw [if_neg (fun h => e ((key_inj hs hwc).mp h)), hval s hs]
              obtain ⟨g1, g2⟩ := ixOf_app_ne (l := Kp) e
              by_cases hl2 : ixOf Kp s < Kp.length
              · rw [if_pos hl2, if_pos (g1.mpr hl2), g2 hl2]
              · rw [if_neg hl2, if_neg (fun h => hl2 (g1.mp h))]
          generalize putN kvs (keyD c) b (.int (ks.length : Int)) = kvs7 at *
          generalize L2.upd H5 fd (ndO P w fd kvs7) = H7 at *
          walk_at "3"
          walk_at "36"
          walk_at "69"
          refine ⟨ty_l ek7, ?_⟩
          walk_at "9"
          walk_at "69"
          walk_at "10"
          refine v_app ek7 (by omega) ?_
          skip
          refine ⟨ks ++ [v'], kvs7, Kp ++ [c], rfl, xmut x7 n1, upd_same, ?_, by rw [upd_ne hkn.symm]; exact en7, ND.updL nd7 hfk ek7, by omega, NKey.updL nk7 ek7, ?_, (if_neg hlt).symm, ?_, ?_, hval7⟩
          · rw [List.map_append]
            exact DpAll.app (DpAll.im (fun _ _ h => SqT.upd ek7 h) imK hks7) (.cons (Dp.im (fun _ _ h => SqT.upd ek7 h) (wf_im hwc) hv7) .nil)
          · intro s hs
            rcases List.mem_append.mp hs with hs | hs
            · exact wfk s hs
            · rw [List.mem_singleton.mp hs]; exact hwc
          · exact ixOf_snoc
          · rw [ixOf_snoc, List.length_append, List.length_singleton]; omega
        · walk_at "5"
          exact ⟨ks, kvs, Kp, rfl, xx5, ek5, hks5, en5, nd5, by omega, nk, wfk, (if_pos hlt).symm, rfl, hlt, hval⟩
      rintro σ' H6 ⟨ks', kvs', Kp', rfl, x6, ek6, hks6, en6, nd6, hkl6, nk6, wf6, hKp, hix6, hlt6, hval6⟩
      have hfc6 := hval6 c hwc
      rw [if_pos hlt6, hix6] at hfc6
      obtain ⟨pe, hpe, hpv⟩ := Option.map_eq_some_iff.mp hfc6
      rw [← hKp]
      have hnk6 : nm ≠ kp := hkn.symm
      have hfn6 : fd ≠ nm := hfn
      walk_at "3"
      walk_at "36"
      walk_at "69"
      refine ⟨ty_l en6, ?_⟩
      walk_at "9"
      show tVar 2 _ _ _
      walk_at "69"
      walk_at "69"
      refine ⟨fd, b, keyD c, kvs', pe, rfl, rfl, nd6, nk6, hpe, ?_⟩
      rw [hpv]
      walk_at "10"
      refine v_app en6 (by rw [linesV_len]; omega) ?_
      skip
      refine ⟨_, _, _, ks', kvs', rfl, xmut x6 nn, by rw [upd_ne hkn]; exact ek6, DpAll.im (fun _ _ h => SqT.upd en6 h) (imAll_steps wf6) hks6, ?_, ND.updL nd6 hfn6 en6, hkl6, hval6⟩
      rw [upd_same, linesV_app]; rfl
    · rintro σ' H' ⟨y4, y5, y6, ks, kvs, rfl, xx, ek, hks, en, ndi, hkl, hval⟩
      rw [hwl, List.take_length] at hks en
      have hksl := hks.len
      rw [List.length_map] at hksl
      have hkl2 := prun_kl l
      walk_at "0"
      walk_at "4"
      walk_at "16"
      walk_at "69"
      refine ⟨!ks.isEmpty, .inl ⟨ks, sql ek, rfl⟩, ?_⟩
      rcases Nat.eq_zero_or_pos l.length with h0 | hpos
      · have hl0 : l = [] := List.length_eq_zero_iff.mp h0
        subst hl0
        have hk0 : ks = [] := List.length_eq_zero_iff.mp hksl
        subst hk0
        walk_at "90"
        walk_at "2"
        walk_at "31"
        walk_at "9"
        walk_at "35"
        walk_at "10"
        walk_at "83"
        intro p0 H4 n4 x4 e4
        walk_at "10"
        intro xo dx2 hx hdx hne
        have xn : Xt H4 (upd (upd H4 dx2 (.own xo)) xo (.ins T.C_Paper dx2 [])) := fun b o e => by
          rw [upd_ne (ne_of_none e hx), upd_ne (ne_of_none e hdx)]
          exact e
        refine ⟨xo, dx2, .ref p0, [], rfl, upd_same, .inr (.of_tup (xn _ _ e4) .nil), by decide, fun H7 pres hP7 => ⟨rfl, ?_⟩⟩
        exact q xo H7 (xtr xx (xtr x4 fun b o e => pres b o (ne_of_none e hx) (xn b o e))) hP7
      · have hlt := prun_lt ok.down (k := l.length - 1) (by omega)
        have hpl := prun_len l
        have htr := trim_prun ok.down hpos
        have hdn := prun_down ok.down
        have wfk := (mem_mv (P := Wf) (fun s f h => Wf.mv h) ok.wf).2
        generalize prun l = st at *
        obtain ⟨Kp, Nm⟩ := st
        dsimp only at hks en hksl hkl2 hlt hpl htr hdn wfk
        have hne : (!ks.isEmpty) = true := by
          cases ks with
          | nil => rw [List.length_nil] at hksl; omega
          | cons => rfl
        have hlast : atI (linesV Nm) (-1) = some (.int (gd Nm (l.length - 1) : Int)) := by
          have h2 : ixN (linesV Nm).length (-1) = some (l.length - 1) := by
            unfold ixN
            rw [if_neg (by decide), if_pos (by rw [linesV_len]; omega), linesV_len]
            congr 1
            omega
          unfold atI
          rw [h2]
          exact linesV_at (some_gd (by omega))
        rw [hne]
        generalize gd Nm (l.length - 1) = n at *
        walk_at "89"
        walk_at "5"
        walk_at "2"
        walk_at "31"
        walk_at "9"
        walk_at "12"
        walk_at "9"
        walk_at "48"
        walk_at "69"
        walk_at "49"
        walk_at "50"
        walk_at "8"
        walk_at "8"
        walk_at "69"
        walk_at "13"
        walk_at "7"
        walk_at "58"
        walk_at "79"
        walk_at "7"
        walk_at "56"
        walk_at "88"
        refine d_cutl (.of_lst ek hks) fun p4 H4 n4 x4 hd4 => ?_
        rw [show ((n : Int) + 1) = ((n + 1 : Nat) : Int) by omega, cut_take, ← List.map_take] at hd4
        walk_at "10"
        have htl : (Kp.take (n + 1)).length = n + 1 := by rw [List.length_take]; omega
        refine ⟨p4, Kp.take (n + 1), n, rfl, hd4, htl, by omega, fun s hs => wfk s (List.mem_of_mem_take hs), down_to (hdn.take _) (by omega), fun p5 H5 x5 hd5 => ?_⟩
        rw [htr] at hd5
        have htf := trimF_stays ok.down
        walk_at "10"
        intro xo dx2 hx hdx hne2
        have xn : Xt H5 (upd (upd H5 dx2 (.own xo)) xo (.ins T.C_Paper dx2 [])) := fun b o e => by
          rw [upd_ne (ne_of_none e hx), upd_ne (ne_of_none e hdx)]
          exact e
        refine ⟨xo, dx2, .ref p5, _, rfl, upd_same, .inl (Dp.mono xn hd5), by rw [List.length_map]; omega, fun H7 pres hP7 => ⟨rfl, ?_⟩⟩
        exact q xo H7 (xtr xx (xtr x4 (xtr x5 fun b o e => pres b o (ne_of_none e hx) (xn b o e)))) hP7


theorem ok__law_right (T : TopW w P K mg) : FnOkG P w K mg base CX0 7 T.f__law_right T.fd__law_right ["steps"] (sp__law_right T) := by
  refine okG_of T.F__law_right sc__law_right (fun vs H Q E h => ?_) (fun cdv A outer s H vs Q E hg hr h => ?_)
  · obtain ⟨a, l, rfl, hv, ok, q⟩ := h
    rfl
  · obtain ⟨a, l, rfl, hv, ok, q⟩ := h
    refine ⟨_, (pss_cons (ps_set (i := 1) sc__law_right.nd rfl (Or.inl rfl) (pe_callB (r := rRepr K) (call_repr hg hr) (by rfl) T.n_repr PyProof.Rows.boot_repr (pa_cons (pe_call (ok__law_trimmed T) (hr.mono (by first | decide | exact Nat.le_refl _ | omega | (show _ ≤ _ + n; omega))) (by rfl) T.g__law_trimmed T.F__law_trimmed.kp T.b__law_trimmed .nil pass0 (pa_cons (pv 0) pa_nil)) pa_nil)))
      (pss_cons (ps_set (i := 2) sc__law_right.nd rfl (Or.inl rfl) (pe_make T.mk_Paper (ok_Paper___init__ T) (hr.mono (by first | decide | exact Nat.le_refl _ | omega | (show _ ≤ _ + n; omega))) (by rfl) T.g_Paper T.b_Paper___init__ .nil pass0 (pa_cons (pe_callTy (r := rLst K) call_lstU (by rfl) T.n_list (by decide +kernel) (pa_cons (pv 0) pa_nil)) pa_nil)))
      (pss_cons (ps_set (i := 3) sc__law_right.nd rfl (Or.inl rfl) (pe_call (ok_trimmed_paper T) (hr.mono (by first | decide | exact Nat.le_refl _ | omega | (show _ ≤ _ + n; omega))) (by rfl) T.g_trimmed_paper T.F_trimmed_paper.kp T.b_trimmed_paper .nil pass0 (pa_cons (pv 2) pa_nil)))
      (pss_cons (ps_if (PW.pt (pw_or (pt_not (pt_val (pe_callB (r := rIsi K) call_isi (by rfl) T.n_isinstance PyProof.Rows.boot_isinstance (pa_cons (pv 3) (pa_cons (pe_glob (v := .ref T.C_Paper) (by rfl) T.g_Paper rfl) pa_nil))))) (pw_or (pt_not (pt_val (pe_callB (r := rIsi K) call_isi (by rfl) T.n_isinstance PyProof.Rows.boot_isinstance (pa_cons (show PE _ _ (tFld K _ _) from pe_fld (pv 3) rfl) (pa_cons (pe_bltn (v := .ty "tuple") (by rfl) T.n_tuple (by decide +kernel) rfl) pa_nil))))) (pw_or1 (pt_cmpR (r := rNeU K) (op_neU hr) (pe_callB (r := rRepr K) (call_repr hg hr) (by rfl) T.n_repr PyProof.Rows.boot_repr (pa_cons (show PE _ _ (tFld K _ _) from pe_fld (pv 3) rfl) pa_nil)) (pv 1) (nomark _)))))) (pss_one (ps_ret pe_bl)) pss_nil)
      (pss_cons (ps_set (i := 4) sc__law_right.nd rfl (Or.inl rfl) (pe_call (ok_trimmed_paper T) (hr.mono (by first | decide | exact Nat.le_refl _ | omega | (show _ ≤ _ + n; omega))) (by rfl) T.g_trimmed_paper T.F_trimmed_paper.kp T.b_trimmed_paper .nil pass0 (pa_cons (pv 3) pa_nil)))
      (pss_cons (ps_if (PW.pt (pw_or (pt_not (pt_val (pe_callB (r := rIsi K) call_isi (by rfl) T.n_isinstance PyProof.Rows.boot_isinstance (pa_cons (show PE _ _ (tFld K _ _) from pe_fld (pv 4) rfl) (pa_cons (pe_bltn (v := .ty "tuple") (by rfl) T.n_tuple (by decide +kernel) rfl) pa_nil))))) (pw_or (pt_cmpR (r := rNeU K) (op_neU hr) (pe_callB (r := rRepr K) (call_repr hg hr) (by rfl) T.n_repr PyProof.Rows.boot_repr (pa_cons (show PE _ _ (tFld K _ _) from pe_fld (pv 4) rfl) pa_nil)) (pv 1) (nomark _)) (pw_or1 (pt_cmpR (r := rNeU K) (op_neU hr) (pe_callB (r := rRepr K) (call_repr hg hr) (by rfl) T.n_repr PyProof.Rows.boot_repr (pa_cons (show PE _ _ (tFld K _ _) from pe_fld (pv 3) rfl) pa_nil)) (pv 1) (nomark _)))))) (pss_one (ps_ret pe_bl)) pss_nil)
      (pss_cons (ps_if (pt_cmpR (r := rNeU K) (op_neU hr) (pe_callB (r := rRepr K) (call_repr hg hr) (by rfl) T.n_repr PyProof.Rows.boot_repr (pa_cons (show PE _ _ (tFld K _ _) from pe_fld (pv 2) rfl) pa_nil)) (pe_callB (r := rRepr K) (call_repr hg hr) (by rfl) T.n_repr PyProof.Rows.boot_repr (pa_cons (pe_callTy (r := rTup K) call_tupU (by rfl) T.n_tuple (by decide +kernel) (pa_cons (pv 0) pa_nil)) pa_nil)) (nomark _)) (pss_one (ps_ret pe_bl)) pss_nil)
      (pss_one (ps_ret (pe_cmpR (r := rEqU K) (op_eqU hr) (pe_callB (r := rRepr K) (call_repr hg hr) (by rfl) T.n_repr PyProof.Rows.boot_repr (pa_cons (show PE _ _ (tFld K _ _) from pe_fld (pe_call (ok_trimmed_paper T) (hr.mono (by first | decide | exact Nat.le_refl _ | omega | (show _ ≤ _ + n; omega))) (by rfl) T.g_trimmed_paper T.F_trimmed_paper.kp T.b_trimmed_paper .nil pass0 (pa_cons (pv 2) pa_nil)) rfl) pa_nil)) (pv 1) (nomark _))))))))))), ?_⟩
    have tf := trimF_stays ok.down
    have okT : StepsOk (trimF l) := ⟨trimF_mem (fun s f h => Wf.mv h) ok.down ok.wf, tf.1, Nat.le_trans tf.2.1 ok.len⟩
    have hlen := ok.len
    have ic := T_ins T
    walk_at "0"
    walk_at "1"
    walk_at "11"
    walk_at "9"
    walk_at "12"
    walk_at "9"
    walk_at "69"
    walk_at "10"
    refine ⟨a, l, rfl, hv, ok, fun b H1 x1 hb => ?_⟩
    walk_at "10"
    refine rep_steps hb okT ?_
    walk_at "6"
    walk_at "0"
    walk_at "1"
    walk_at "31"
    walk_at "9"
    walk_at "11"
    walk_at "9"
    walk_at "69"
    walk_at "10"
    refine d_lstl (.inl (Dp.mono x1 hv)) fun p xs H2 n2 x2 e2 hxs => ?_
    walk_at "10"
    intro xo dx2 hx hdx hne
    have xn : Xt H2 (upd (upd H2 dx2 (.own xo)) xo (.ins T.C_Paper dx2 [])) := fun b o e => by
      rw [upd_ne (ne_of_none e hx), upd_ne (ne_of_none e hdx)]
      exact e
    refine ⟨xo, dx2, .ref p, l.map toD, rfl, upd_same, .inl (.of_lst (xn _ _ e2) (DpAll.mono xn hxs)), by rw [List.length_map]; omega, fun H3 pres hP3 => ⟨rfl, ?_⟩⟩
    have x23 : Xt H2 H3 := fun b o e => pres b o (ne_of_none e hx) (xn b o e)
    have x3 : Xt H H3 := xtr x1 (xtr x2 x23)
    clear xn pres
    walk_at "6"
    walk_at "0"
    walk_at "1"
    walk_at "12"
    walk_at "9"
    walk_at "69"
    walk_at "10"
    refine ⟨xo, l, rfl, hP3, ok, fun b2 H4 x4 hP4 => ?_⟩
    have xx4 := xtr x3 x4
    obtain ⟨dx4, s4, h4, hs4⟩ := id hP4
    obtain ⟨a4, xs4, rfl, hS4, hd4⟩ := Dp.tup_inv hs4
    walk_at "6"
    walk_at "0"
    walk_at "4"
    walk_at "18"
    walk_at "16"
    walk_at "15"
    walk_at "11"
    walk_at "9"
    walk_at "69"
    walk_at "9"
    walk_at "7"
    walk_at "10"
    refine ⟨.ref b2, .ref T.C_Paper, _, _, true, rfl, .own _, .base (TyOf.ins h4 ic.cl ic.ha ic.hn ic.htk ic.hm), ic.me, ?_⟩
    walk_at "88"
    walk_at "89"
    walk_at "18"
    walk_at "16"
    walk_at "15"
    walk_at "11"
    walk_at "9"
    walk_at "25"
    walk_at "69"
    refine v_fld h4 T.cl_Paper T.na_Paper_steps rfl ?_
    walk_at "9"
    walk_at "7"
    walk_at "10"
    refine d_isTup hs4 (show Im (.tuple _) = true by rw [Im]; exact imAll_steps okT.wf) ?_
    rw [show isTupD (.tuple ((trimF l).map toD)) = true from rfl]
    walk_at "88"
    walk_at "89"
    walk_at "14"
    walk_at "8"
    walk_at "11"
    walk_at "9"
    walk_at "25"
    walk_at "69"
    refine v_fld h4 T.cl_Paper T.na_Paper_steps rfl ?_
    walk_at "10"
    refine rep_steps hs4 okT ?_
    walk_at "69"
    walk_at "76"
    walk_at "88"
    refine k_nes ?_
    walk_at "5"
    walk_at "0"
    walk_at "1"
    walk_at "12"
    walk_at "9"
    walk_at "69"
    walk_at "10"
    refine ⟨b2, trimF l, rfl, hP4, okT, fun b5 H5 x5 hP5 => ?_⟩
    rw [tf.2.2] at hP5
    obtain ⟨dx5, s5, h5, hs5⟩ := id hP5
    obtain ⟨a5, xs5, rfl, hS5, hd5⟩ := Dp.tup_inv hs5
    have h45 := x5 _ _ h4
    have hs45 := Dp.mono x5 hs4
    walk_at "6"
    walk_at "0"
    walk_at "4"
    walk_at "18"
    walk_at "16"
    walk_at "15"
    walk_at "11"
    walk_at "9"
    walk_at "25"
    walk_at "69"
    refine v_fld h5 T.cl_Paper T.na_Paper_steps rfl ?_
    walk_at "9"
    walk_at "7"
    walk_at "10"
    refine d_isTup hs5 (show Im (.tuple _) = true by rw [Im]; exact imAll_steps okT.wf) ?_
    rw [show isTupD (.tuple ((trimF l).map toD)) = true from rfl]
    walk_at "88"
    walk_at "89"
    walk_at "18"
    walk_at "14"
    walk_at "8"
    walk_at "11"
    walk_at "9"
    walk_at "25"
    walk_at "69"
    refine v_fld h5 T.cl_Paper T.na_Paper_steps rfl ?_
    walk_at "10"
    refine rep_steps hs5 okT ?_
    walk_at "69"
    walk_at "76"
    walk_at "88"
    refine k_nes ?_
    walk_at "14"
    walk_at "8"
    walk_at "11"
    walk_at "9"
    walk_at "25"
    walk_at "69"
    refine v_fld h45 T.cl_Paper T.na_Paper_steps rfl ?_
    walk_at "10"
    refine rep_steps hs45 okT ?_
    walk_at "69"
    walk_at "76"
    walk_at "88"
    refine k_nes ?_
    have xx5 := xtr xx4 x5
    have hP35 := hP3.mono (xtr x4 x5)
    obtain ⟨dx3, s3, h3, hs3⟩ := id hP35
    obtain ⟨a3, xs3, rfl, hS3, hd3⟩ := Dp.tup_inv hs3
    walk_at "5"
    walk_at "0"
    walk_at "4"
    walk_at "14"
    walk_at "8"
    walk_at "11"
    walk_at "9"
    walk_at "25"
    walk_at "69"
    refine v_fld h3 T.cl_Paper T.na_Paper_steps rfl ?_
    walk_at "10"
    refine rep_steps hs3 ok ?_
    walk_at "11"
    walk_at "9"
    walk_at "11"
    walk_at "9"
    walk_at "69"
    walk_at "10"
    refine d_tupl (Dp.mono xx5 hv) fun w6 H6 x6 hw6 => ?_
    obtain ⟨a6, xs6, rfl, hS6, hd6⟩ := Dp.tup_inv hw6
    walk_at "10"
    refine rep_steps hw6 ok ?_
    walk_at "76"
    walk_at "88"
    refine k_nes ?_
    walk_at "5"
    walk_at "2"
    walk_at "8"
    walk_at "11"
    walk_at "9"
    walk_at "25"
    walk_at "12"
    walk_at "9"
    walk_at "69"
    walk_at "10"
    refine ⟨xo, l, rfl, hP35.mono x6, ok, fun b7 H7 x7 hP7 => ?_⟩
    obtain ⟨dx7, s7, h7, hs7⟩ := id hP7
    obtain ⟨a7, xs7, rfl, hS7, hd7⟩ := Dp.tup_inv hs7
    skip
    refine v_fld h7 T.cl_Paper T.na_Paper_steps rfl ?_
    walk_at "10"
    refine rep_steps hs7 okT ?_
    walk_at "69"
    walk_at "75"
    rw [decide_eq_true rfl]
    exact q H7 (xtr xx5 (xtr x6 x7))


theorem ok_law (T : TopW w P K mg) : FnOkG P w K mg base CX0 8 T.f_law T.fd_law ["script"] (sp_lawK K) := by
  refine okG_of T.F_law sc_law (fun vs H Q E h => ?_) (fun cdv A outer s H vs Q E hg hr h => ?_)
  · obtain ⟨la, ns, rfl, hS, hn, q⟩ := h
    rfl
  · obtain ⟨la, ns, rfl, hS, hn, q⟩ := h
    refine ⟨_, (pss_cons (ps_set (i := 1) sc_law.nd rfl (Or.inl rfl) (pe_call (ok__law_digits T) (hr.mono (by first | decide | exact Nat.le_refl _ | omega | (show _ ≤ _ + n; omega))) (by rfl) T.g__law_digits T.F__law_digits.kp T.b__law_digits .nil pass0 (pa_cons (pe_call (ok__law_cell T) (hr.mono (by first | decide | exact Nat.le_refl _ | omega | (show _ ≤ _ + n; omega))) (by rfl) T.g__law_cell T.F__law_cell.kp T.b__law_cell .nil pass0 (pa_cons (pv 0) (pa_cons pe_int pa_nil))) (pa_cons (pe_lst (pa_cons pe_int (pa_cons pe_int pa_nil))) pa_nil))))
      (pss_cons (ps_set (i := 2) sc_law.nd rfl (Or.inl rfl) (pe_ix (r := rIx K) ix_seq (pe_lst (pa_cons pe_int (pa_cons pe_int (pa_cons pe_int (pa_cons pe_int (pa_cons pe_int (pa_cons pe_int (pa_cons pe_int (pa_cons pe_int (pa_cons pe_int (pa_cons pe_int pa_nil))))))))))) (pe_ix (r := rIx K) ix_seq (pv 1) pe_int (fun _ _ => rfl)) (fun _ _ => rfl)))
      (pss_cons (ps_set (i := 3) sc_law.nd rfl (Or.inl rfl) (pe_call (ok__law_drawn_steps T) (hr.mono (by first | decide | exact Nat.le_refl _ | omega | (show _ ≤ _ + n; omega))) (by rfl) T.g__law_drawn_steps T.F__law_drawn_steps.kp T.b__law_drawn_steps .nil pass0 (pa_cons (pv 0) (pa_cons (pv 2) pa_nil))))
      (pss_cons (ps_if (PW.pt (pw_or (pt_not (pt_val (pe_callG (ok__law_right T) hg (hr.mono (by first | decide | exact Nat.le_refl _ | omega | (show _ ≤ _ + n; omega))) (by rfl) T.g__law_right T.F__law_right.kp T.b__law_right pass0 (pa_cons (pv 3) pa_nil)))) (pw_or1 (pt_not (pt_val (pe_callG (ok__law_right T) hg (hr.mono (by first | decide | exact Nat.le_refl _ | omega | (show _ ≤ _ + n; omega))) (by rfl) T.g__law_right T.F__law_right.kp T.b__law_right pass0 (pa_cons (pe_slice (r := rSlU K) sl_any (pv 3) po_none (po_some (pe_op op_mod (pe_callTy call_intU (by rfl) T.n_int PyProof.Rows.boot_int (pa_cons (pe_ix (r := rIx K) ix_seq (pv 1) pe_int (fun _ _ => rfl)) pa_nil)) (pe_op (r := rPlus K) op_plus (pv 2) pe_int)))) pa_nil))))))) (pss_one (ps_ret pe_bl)) pss_nil)
      (pss_one (ps_ret (pe_and (pe_callG (ok__law_right T) hg (hr.mono (by first | decide | exact Nat.le_refl _ | omega | (show _ ≤ _ + n; omega))) (by rfl) T.g__law_right T.F__law_right.kp T.b__law_right pass0 (pa_cons (pv 3) pa_nil)) (pe_one (pe_callG (ok__law_right T) hg (hr.mono (by first | decide | exact Nat.le_refl _ | omega | (show _ ≤ _ + n; omega))) (by rfl) T.g__law_right T.F__law_right.kp T.b__law_right pass0 (pa_cons (pe_lst pa_nil) pa_nil)))))))))), ?_⟩
    walk_at "0"
    walk_at "1"
    walk_at "12"
    walk_at "9"
    walk_at "12"
    walk_at "9"
    walk_at "69"
    walk_at "9"
    walk_at "7"
    walk_at "10"
    refine ⟨la, ns, 0, rfl, hS, hn, ⟨by decide, by decide⟩, fun c0 => ?_⟩
    walk_at "9"
    walk_at "34"
    walk_at "9"
    walk_at "7"
    walk_at "9"
    walk_at "7"
    walk_at "10"
    walk_at "82"
    intro p1 H1 n1 x1 e1
    walk_at "10"
    refine ⟨c0, p1, [10, 61], rfl, sql e1, by decide, by decide, fun p2 H2 ds x2 e2 hd => ?_⟩
    obtain ⟨d0, d1, rfl, ⟨b0, c0'⟩, ⟨b1, c1⟩⟩ : ∃ d0 d1 : Int, ds = [d0, d1] ∧ (0 ≤ d0 ∧ d0 < 10) ∧ (0 ≤ d1 ∧ d1 < 61) := by
      obtain ⟨hl, hb⟩ := hd
      match ds, hl with
      | [d0, d1], _ => exact ⟨d0, d1, rfl, hb 0 d0 10 rfl rfl, hb 1 d1 61 rfl rfl⟩
    have a0 : atI (([d0, d1] : List Int).map V.int) 0 = some (.int d0) := rfl
    have a1 : atI (([d0, d1] : List Int).map V.int) 1 = some (.int d1) := rfl
    have hcnt : ∃ c : Nat, c ≤ 60 ∧ atI ([.int 5, .int 8, .int 13, .int 21, .int 34, .int 60, .int 3, .int 2, .int 1, .int 0] : List V) d0 = some (.int (c : Int)) := by
      obtain ⟨k, rfl⟩ := Int.eq_ofNat_of_zero_le b0
      have : k < 10 := by omega
      match k, this with
      | 0, _ => exact ⟨5, by decide, rfl⟩
      | 1, _ => exact ⟨8, by decide, rfl⟩
      | 2, _ => exact ⟨13, by decide, rfl⟩
      | 3, _ => exact ⟨21, by decide, rfl⟩
      | 4, _ => exact ⟨34, by decide, rfl⟩
      | 5, _ => exact ⟨60, by decide, rfl⟩
      | 6, _ => exact ⟨3, by decide, rfl⟩
      | 7, _ => exact ⟨2, by decide, rfl⟩
      | 8, _ => exact ⟨1, by decide, rfl⟩
      | 9, _ => exact ⟨0, by decide, rfl⟩
    obtain ⟨c, hc60, hac⟩ := hcnt
    walk_at "6"
    walk_at "0"
    walk_at "1"
    walk_at "8"
    walk_at "34"
    walk_at "9"
    walk_at "7"
    walk_at "9"
    walk_at "7"
    walk_at "9"
    walk_at "7"
    walk_at "9"
    walk_at "7"
    walk_at "9"
    walk_at "7"
    walk_at "9"
    walk_at "7"
    walk_at "9"
    walk_at "7"
    walk_at "9"
    walk_at "7"
    walk_at "9"
    walk_at "7"
    walk_at "9"
    walk_at "7"
    walk_at "10"
    walk_at "82"
    intro p3 H3 n3 x3 e3
    have e23 := x3 _ _ e2
    have x13 := xtr x1 (xtr x2 x3)
    walk_at "8"
    walk_at "69"
    walk_at "7"
    walk_at "79"
    walk_at "79"
    walk_at "6"
    walk_at "0"
    walk_at "1"
    walk_at "12"
    walk_at "9"
    walk_at "69"
    walk_at "9"
    walk_at "69"
    walk_at "10"
    refine ⟨la, ns, c, rfl, xl x13 hS, hn, hc60, fun p4 H4 l x4 ok hl hp4 => ?_⟩
    have e24 := x4 _ _ e23
    walk_at "6"
    walk_at "0"
    walk_at "4"
    walk_at "18"
    walk_at "16"
    walk_at "15"
    walk_at "12"
    walk_at "9"
    walk_at "69"
    walk_at "10"
    refine ⟨p4, l, rfl, hp4, ok, fun H5 x5 => ?_⟩
    have hp5 := Dp.mono x5 hp4
    have e25 := x5 _ _ e24
    walk_at "88"
    walk_at "89"
    walk_at "16"
    walk_at "15"
    walk_at "12"
    walk_at "9"
    walk_at "48"
    walk_at "69"
    walk_at "49"
    walk_at "50"
    walk_at "8"
    walk_at "11"
    walk_at "9"
    walk_at "8"
    walk_at "69"
    walk_at "7"
    walk_at "79"
    walk_at "10"
    walk_at "57"
    walk_at "8"
    walk_at "69"
    walk_at "7"
    walk_at "56"
    walk_at "70"
    walk_at "88"
    have hk : (d1 % ((c : Int) + 1)) = ((d1.toNat % (c + 1) : Nat) : Int) := by
      obtain ⟨m, rfl⟩ := Int.eq_ofNat_of_zero_le b1
      rfl
    rw [hk]
    generalize d1.toNat % (c + 1) = k
    refine d_cutl hp5 fun p6 H6 n6 x6 hp6 => ?_
    rw [cut_take, ← List.map_take] at hp6
    walk_at "10"
    have okk : StepsOk (l.take k) := ⟨fun s hs => ok.wf s (List.mem_of_mem_take hs), ok.down.take k, by rw [List.length_take]; have := ok.len; omega⟩
    refine ⟨p6, l.take k, rfl, hp6, okk, fun H7 x7 => ?_⟩
    walk_at "88"
    walk_at "89"
    walk_at "5"
    walk_at "2"
    walk_at "19"
    walk_at "12"
    walk_at "9"
    walk_at "69"
    walk_at "10"
    refine ⟨p4, l, rfl, Dp.mono (xtr x6 x7) hp5, ok, fun H8 x8 => ?_⟩
    walk_at "88"
    walk_at "90"
    walk_at "12"
    walk_at "9"
    walk_at "34"
    walk_at "10"
    walk_at "82"
    intro p9 H9 n9 x9 e9
    walk_at "10"
    refine ⟨p9, [], rfl, .of_lst e9 .nil, ⟨(fun s hs => by cases hs), (fun k s hs => by cases hs), by decide⟩, fun H10 x10 => ?_⟩
    exact q H10


end
end K55
namespace K55
open PySem PySem.Spec PyProof.Rows L2 NdefX CW RZ
open PySem.W (fnX)
theorem all_mk {l : PySem.W.OpenLaw} {w : World} {K : PySem.W.Frag} {h : Heap} {mg : Str → Option Value} {fa C_Paper : Addr} (X : K.In h) (G : h.Ns mainGlobals mg) (hfa : mg "law" = some (.ref fa))
    (insv : insB K (addrOf K "Paper") = true)
    (insa : PySem.W.nsIn K mainGlobals "Paper" = some (some (.ref C_Paper)))
    (aC_Paper : PySem.W.nsIn K mainGlobals "Paper" = some (some (.ref C_Paper))) (pg_Paper : PySem.W.plainGet K C_Paper Str.empty = true) (hd_Paper : PySem.W.hasDictIn K C_Paper = true) (po_Paper : PySem.W.plainOver K C_Paper = true) (sa_Paper : PySem.W.findIn K (.ref C_Paper) "__setattr__" = some (some (.builtin "object.__setattr__"))) (mk_Paper : PySem.W.makesIn K C_Paper = true) (kc_Paper : PySem.W.keepIn K (.ref C_Paper) = true)
    (na_Paper_steps : PySem.W.findIn K (.ref C_Paper) "steps" = some none)
    {od0 an0 : Option Addr} {sl0 : Array (Option Value)} {oc0 kV0 dc0 pm0 cd0 ct0 : Value} {f0 : Addr}
    (a0 : PySem.W.nsIn K mainGlobals "is_whole" = some (some (.ref f0)))
    (l0 : K.lookup f0 = some ⟨oc0, od0, .func (PySem.W.fnOf "is_whole" "is_whole" (defArgs s_is_whole) (defBody s_is_whole) (defScope s_is_whole) .none kV0 dc0 pm0 an0 cd0 ct0), sl0⟩) (c0 : PySem.W.codeIn K cd0 "is_whole" = true) (k0 : PySem.W.keepIn K (.ref f0) = true)
    {od1 an1 : Option Addr} {sl1 : Array (Option Value)} {oc1 kV1 dc1 pm1 cd1 ct1 : Value} {f1 : Addr}
    (a1 : PySem.W.findIn K (.ref C_Paper) "__init__" = some (some (.ref f1))) (i1 : PySem.W.isFn K (.ref f1) = true)
    (l1 : K.lookup f1 = some ⟨oc1, od1, .func (PySem.W.fnOf "__init__" "Paper.__init__" (defArgs s_Paper___init__) (defBody s_Paper___init__) (defScope s_Paper___init__) .none kV1 dc1 pm1 an1 cd1 ct1), sl1⟩) (c1 : PySem.W.codeIn K cd1 "Paper.__init__" = true) (k1 : PySem.W.keepIn K (.ref f1) = true)
    {od2 an2 : Option Addr} {sl2 : Array (Option Value)} {oc2 kV2 dc2 pm2 cd2 ct2 : Value} {f2 : Addr}
    (a2 : PySem.W.nsIn K mainGlobals "lines_used" = some (some (.ref f2)))
    (l2 : K.lookup f2 = some ⟨oc2, od2, .func (PySem.W.fnOf "lines_used" "lines_used" (defArgs s_lines_used) (defBody s_lines_used) (defScope s_lines_used) .none kV2 dc2 pm2 an2 cd2 ct2), sl2⟩) (c2 : PySem.W.codeIn K cd2 "lines_used" = true) (k2 : PySem.W.keepIn K (.ref f2) = true)
    {od3 an3 : Option Addr} {sl3 : Array (Option Value)} {oc3 kV3 dc3 pm3 cd3 ct3 : Value} {f3 : Addr}
    (a3 : PySem.W.nsIn K mainGlobals "with_lines" = some (some (.ref f3)))
    (l3 : K.lookup f3 = some ⟨oc3, od3, .func (PySem.W.fnOf "with_lines" "with_lines" (defArgs s_with_lines) (defBody s_with_lines) (defScope s_with_lines) .none kV3 dc3 pm3 an3 cd3 ct3), sl3⟩) (c3 : PySem.W.codeIn K cd3 "with_lines" = true) (k3 : PySem.W.keepIn K (.ref f3) = true)
    {od4 an4 : Option Addr} {sl4 : Array (Option Value)} {oc4 kV4 dc4 pm4 cd4 ct4 : Value} {f4 : Addr}
    (a4 : PySem.W.nsIn K mainGlobals "_line_items" = some (some (.ref f4)))
    (l4 : K.lookup f4 = some ⟨oc4, od4, .func (PySem.W.fnOf "_line_items" "_line_items" (defArgs s__line_items) (defBody s__line_items) (defScope s__line_items) .none kV4 dc4 pm4 an4 cd4 ct4), sl4⟩) (c4 : PySem.W.codeIn K cd4 "_line_items" = true) (k4 : PySem.W.keepIn K (.ref f4) = true)
    {od5 an5 : Option Addr} {sl5 : Array (Option Value)} {oc5 kV5 dc5 pm5 cd5 ct5 : Value} {f5 : Addr}
    (a5 : PySem.W.nsIn K mainGlobals "needed_lines" = some (some (.ref f5)))
    (l5 : K.lookup f5 = some ⟨oc5, od5, .func (PySem.W.fnOf "needed_lines" "needed_lines" (defArgs s_needed_lines) (defBody s_needed_lines) (defScope s_needed_lines) .none kV5 dc5 pm5 an5 cd5 ct5), sl5⟩) (c5 : PySem.W.codeIn K cd5 "needed_lines" = true) (k5 : PySem.W.keepIn K (.ref f5) = true)
    {od6 an6 : Option Addr} {sl6 : Array (Option Value)} {oc6 kV6 dc6 pm6 cd6 ct6 : Value} {f6 : Addr}
    (a6 : PySem.W.nsIn K mainGlobals "needed_steps" = some (some (.ref f6)))
    (l6 : K.lookup f6 = some ⟨oc6, od6, .func (PySem.W.fnOf "needed_steps" "needed_steps" (defArgs s_needed_steps) (defBody s_needed_steps) (defScope s_needed_steps) .none kV6 dc6 pm6 an6 cd6 ct6), sl6⟩) (c6 : PySem.W.codeIn K cd6 "needed_steps" = true) (k6 : PySem.W.keepIn K (.ref f6) = true)
    {od7 an7 : Option Addr} {sl7 : Array (Option Value)} {oc7 kV7 dc7 pm7 cd7 ct7 : Value} {f7 : Addr}
    (a7 : PySem.W.nsIn K mainGlobals "trimmed_paper" = some (some (.ref f7)))
    (l7 : K.lookup f7 = some ⟨oc7, od7, .func (PySem.W.fnOf "trimmed_paper" "trimmed_paper" (defArgs s_trimmed_paper) (defBody s_trimmed_paper) (defScope s_trimmed_paper) .none kV7 dc7 pm7 an7 cd7 ct7), sl7⟩) (c7 : PySem.W.codeIn K cd7 "trimmed_paper" = true) (k7 : PySem.W.keepIn K (.ref f7) = true)
    {od8 an8 : Option Addr} {sl8 : Array (Option Value)} {oc8 kV8 dc8 pm8 cd8 ct8 : Value} {f8 : Addr}
    (a8 : PySem.W.nsIn K mainGlobals "_step_key" = some (some (.ref f8)))
    (l8 : K.lookup f8 = some ⟨oc8, od8, .func (PySem.W.fnOf "_step_key" "_step_key" (defArgs s__step_key) (defBody s__step_key) (defScope s__step_key) .none kV8 dc8 pm8 an8 cd8 ct8), sl8⟩) (c8 : PySem.W.codeIn K cd8 "_step_key" = true) (k8 : PySem.W.keepIn K (.ref f8) = true)
    {od9 an9 : Option Addr} {sl9 : Array (Option Value)} {oc9 kV9 dc9 pm9 cd9 ct9 : Value} {f9 : Addr}
    (a9 : PySem.W.nsIn K mainGlobals "_law_cell" = some (some (.ref f9)))
    (l9 : K.lookup f9 = some ⟨oc9, od9, .func (PySem.W.fnOf "_law_cell" "_law_cell" (defArgs s__law_cell) (defBody s__law_cell) (defScope s__law_cell) .none kV9 dc9 pm9 an9 cd9 ct9), sl9⟩) (c9 : PySem.W.codeIn K cd9 "_law_cell" = true) (k9 : PySem.W.keepIn K (.ref f9) = true)
    {od10 an10 : Option Addr} {sl10 : Array (Option Value)} {oc10 kV10 dc10 pm10 cd10 ct10 : Value} {f10 : Addr}
    (a10 : PySem.W.nsIn K mainGlobals "_law_digits" = some (some (.ref f10)))
    (l10 : K.lookup f10 = some ⟨oc10, od10, .func (PySem.W.fnOf "_law_digits" "_law_digits" (defArgs s__law_digits) (defBody s__law_digits) (defScope s__law_digits) .none kV10 dc10 pm10 an10 cd10 ct10), sl10⟩) (c10 : PySem.W.codeIn K cd10 "_law_digits" = true) (k10 : PySem.W.keepIn K (.ref f10) = true)
    {od11 an11 : Option Addr} {sl11 : Array (Option Value)} {oc11 kV11 dc11 pm11 cd11 ct11 : Value} {f11 : Addr}
    (a11 : PySem.W.nsIn K mainGlobals "_law_earlier" = some (some (.ref f11)))
    (l11 : K.lookup f11 = some ⟨oc11, od11, .func (PySem.W.fnOf "_law_earlier" "_law_earlier" (defArgs s__law_earlier) (defBody s__law_earlier) (defScope s__law_earlier) .none kV11 dc11 pm11 an11 cd11 ct11), sl11⟩) (c11 : PySem.W.codeIn K cd11 "_law_earlier" = true) (k11 : PySem.W.keepIn K (.ref f11) = true)
    {od12 an12 : Option Addr} {sl12 : Array (Option Value)} {oc12 kV12 dc12 pm12 cd12 ct12 : Value} {f12 : Addr}
    (a12 : PySem.W.nsIn K mainGlobals "_law_drawn_step" = some (some (.ref f12)))
    (l12 : K.lookup f12 = some ⟨oc12, od12, .func (PySem.W.fnOf "_law_drawn_step" "_law_drawn_step" (defArgs s__law_drawn_step) (defBody s__law_drawn_step) (defScope s__law_drawn_step) .none kV12 dc12 pm12 an12 cd12 ct12), sl12⟩) (c12 : PySem.W.codeIn K cd12 "_law_drawn_step" = true) (k12 : PySem.W.keepIn K (.ref f12) = true)
    {od13 an13 : Option Addr} {sl13 : Array (Option Value)} {oc13 kV13 dc13 pm13 cd13 ct13 : Value} {f13 : Addr}
    (a13 : PySem.W.nsIn K mainGlobals "_law_drawn_steps" = some (some (.ref f13)))
    (l13 : K.lookup f13 = some ⟨oc13, od13, .func (PySem.W.fnOf "_law_drawn_steps" "_law_drawn_steps" (defArgs s__law_drawn_steps) (defBody s__law_drawn_steps) (defScope s__law_drawn_steps) .none kV13 dc13 pm13 an13 cd13 ct13), sl13⟩) (c13 : PySem.W.codeIn K cd13 "_law_drawn_steps" = true) (k13 : PySem.W.keepIn K (.ref f13) = true)
    {od14 an14 : Option Addr} {sl14 : Array (Option Value)} {oc14 kV14 dc14 pm14 cd14 ct14 : Value} {f14 : Addr}
    (a14 : PySem.W.nsIn K mainGlobals "_law_moved" = some (some (.ref f14)))
    (l14 : K.lookup f14 = some ⟨oc14, od14, .func (PySem.W.fnOf "_law_moved" "_law_moved" (defArgs s__law_moved) (defBody s__law_moved) (defScope s__law_moved) .none kV14 dc14 pm14 an14 cd14 ct14), sl14⟩) (c14 : PySem.W.codeIn K cd14 "_law_moved" = true) (k14 : PySem.W.keepIn K (.ref f14) = true)
    {od15 an15 : Option Addr} {sl15 : Array (Option Value)} {oc15 kV15 dc15 pm15 cd15 ct15 : Value} {f15 : Addr}
    (a15 : PySem.W.nsIn K mainGlobals "_law_used" = some (some (.ref f15)))
    (l15 : K.lookup f15 = some ⟨oc15, od15, .func (PySem.W.fnOf "_law_used" "_law_used" (defArgs s__law_used) (defBody s__law_used) (defScope s__law_used) .none kV15 dc15 pm15 an15 cd15 ct15), sl15⟩) (c15 : PySem.W.codeIn K cd15 "_law_used" = true) (k15 : PySem.W.keepIn K (.ref f15) = true)
    {od16 an16 : Option Addr} {sl16 : Array (Option Value)} {oc16 kV16 dc16 pm16 cd16 ct16 : Value} {f16 : Addr}
    (a16 : PySem.W.nsIn K mainGlobals "_law_trimmed" = some (some (.ref f16)))
    (l16 : K.lookup f16 = some ⟨oc16, od16, .func (PySem.W.fnOf "_law_trimmed" "_law_trimmed" (defArgs s__law_trimmed) (defBody s__law_trimmed) (defScope s__law_trimmed) .none kV16 dc16 pm16 an16 cd16 ct16), sl16⟩) (c16 : PySem.W.codeIn K cd16 "_law_trimmed" = true) (k16 : PySem.W.keepIn K (.ref f16) = true)
    {od17 an17 : Option Addr} {sl17 : Array (Option Value)} {oc17 kV17 dc17 pm17 cd17 ct17 : Value} {f17 : Addr}
    (a17 : PySem.W.nsIn K mainGlobals "_law_right" = some (some (.ref f17)))
    (l17 : K.lookup f17 = some ⟨oc17, od17, .func (PySem.W.fnOf "_law_right" "_law_right" (defArgs s__law_right) (defBody s__law_right) (defScope s__law_right) .none kV17 dc17 pm17 an17 cd17 ct17), sl17⟩) (c17 : PySem.W.codeIn K cd17 "_law_right" = true) (k17 : PySem.W.keepIn K (.ref f17) = true)
    {od18 an18 : Option Addr} {sl18 : Array (Option Value)} {oc18 kV18 dc18 pm18 cd18 ct18 : Value} {f18 : Addr}
    (a18 : PySem.W.nsIn K mainGlobals "law" = some (some (.ref f18)))
    (l18 : K.lookup f18 = some ⟨oc18, od18, .func (PySem.W.fnOf "law" "law" (defArgs s_law) (defBody s_law) (defScope s_law) .none kV18 dc18 pm18 an18 cd18 ct18), sl18⟩) (c18 : PySem.W.codeIn K cd18 "law" = true) (k18 : PySem.W.keepIn K (.ref f18) = true)
    (n_bool : PySem.W.nsIn K mainGlobals "bool" = some none)
    (n_int : PySem.W.nsIn K mainGlobals "int" = some none)
    (n_isinstance : PySem.W.nsIn K mainGlobals "isinstance" = some none)
    (n_len : PySem.W.nsIn K mainGlobals "len" = some none)
    (n_list : PySem.W.nsIn K mainGlobals "list" = some none)
    (n_max : PySem.W.nsIn K mainGlobals "max" = some none)
    (n_range : PySem.W.nsIn K mainGlobals "range" = some none)
    (n_repr : PySem.W.nsIn K mainGlobals "repr" = some none)
    (n_reversed : PySem.W.nsIn K mainGlobals "reversed" = some none)
    (n_sorted : PySem.W.nsIn K mainGlobals "sorted" = some none)
    (n_str : PySem.W.nsIn K mainGlobals "str" = some none)
    (n_tuple : PySem.W.nsIn K mainGlobals "tuple" = some none)
    {a_LINE_ITEMS : Addr} (z_LINE_ITEMS : PySem.W.nsIn K mainGlobals "LINE_ITEMS" = some (some (.ref a_LINE_ITEMS))) (d_LINE_ITEMS : He.dicW K a_LINE_ITEMS = some (He.keysIn w.params ["given", "same", "either", "fill", "more", "drop", "replace"]))
    {b_given : Addr} {oc_given : Value} {od_given : Option Addr} {it_given : Array Value} {nn_given : Nat} {sl_given : Array (Option Value)} (n_given : PySem.W.nsIn K a_LINE_ITEMS "given" = some (some (.ref b_given))) (l_given : K.lookup b_given = some ⟨oc_given, od_given, .seq it_given nn_given, sl_given⟩) (v1_given : oc_given = .type "tuple") (v2_given : it_given.size ≤ sizeLine) (v3_given : it_given.toList.map absV = ([] : List V).map some)
    {b_same : Addr} {oc_same : Value} {od_same : Option Addr} {it_same : Array Value} {nn_same : Nat} {sl_same : Array (Option Value)} (n_same : PySem.W.nsIn K a_LINE_ITEMS "same" = some (some (.ref b_same))) (l_same : K.lookup b_same = some ⟨oc_same, od_same, .seq it_same nn_same, sl_same⟩) (v1_same : oc_same = .type "tuple") (v2_same : it_same.size ≤ sizeLine) (v3_same : it_same.toList.map absV = ([] : List V).map some)
    {b_either : Addr} {oc_either : Value} {od_either : Option Addr} {it_either : Array Value} {nn_either : Nat} {sl_either : Array (Option Value)} (n_either : PySem.W.nsIn K a_LINE_ITEMS "either" = some (some (.ref b_either))) (l_either : K.lookup b_either = some ⟨oc_either, od_either, .seq it_either nn_either, sl_either⟩) (v1_either : oc_either = .type "tuple") (v2_either : it_either.size ≤ sizeLine) (v3_either : it_either.toList.map absV = ([] : List V).map some)
    {b_fill : Addr} {oc_fill : Value} {od_fill : Option Addr} {it_fill : Array Value} {nn_fill : Nat} {sl_fill : Array (Option Value)} (n_fill : PySem.W.nsIn K a_LINE_ITEMS "fill" = some (some (.ref b_fill))) (l_fill : K.lookup b_fill = some ⟨oc_fill, od_fill, .seq it_fill nn_fill, sl_fill⟩) (v1_fill : oc_fill = .type "tuple") (v2_fill : it_fill.size ≤ sizeLine) (v3_fill : it_fill.toList.map absV = ([.int 1] : List V).map some)
    {b_more : Addr} {oc_more : Value} {od_more : Option Addr} {it_more : Array Value} {nn_more : Nat} {sl_more : Array (Option Value)} (n_more : PySem.W.nsIn K a_LINE_ITEMS "more" = some (some (.ref b_more))) (l_more : K.lookup b_more = some ⟨oc_more, od_more, .seq it_more nn_more, sl_more⟩) (v1_more : oc_more = .type "tuple") (v2_more : it_more.size ≤ sizeLine) (v3_more : it_more.toList.map absV = ([.int 1] : List V).map some)
    {b_drop : Addr} {oc_drop : Value} {od_drop : Option Addr} {it_drop : Array Value} {nn_drop : Nat} {sl_drop : Array (Option Value)} (n_drop : PySem.W.nsIn K a_LINE_ITEMS "drop" = some (some (.ref b_drop))) (l_drop : K.lookup b_drop = some ⟨oc_drop, od_drop, .seq it_drop nn_drop, sl_drop⟩) (v1_drop : oc_drop = .type "tuple") (v2_drop : it_drop.size ≤ sizeLine) (v3_drop : it_drop.toList.map absV = ([.int 1] : List V).map some)
    {b_replace : Addr} {oc_replace : Value} {od_replace : Option Addr} {it_replace : Array Value} {nn_replace : Nat} {sl_replace : Array (Option Value)} (n_replace : PySem.W.nsIn K a_LINE_ITEMS "replace" = some (some (.ref b_replace))) (l_replace : K.lookup b_replace = some ⟨oc_replace, od_replace, .seq it_replace nn_replace, sl_replace⟩) (v1_replace : oc_replace = .type "tuple") (v2_replace : it_replace.size ≤ sizeLine) (v3_replace : it_replace.toList.map absV = ([.int 1, .int 4] : List V).map some)
    : ∃ fd : FuncData, (∀ (s : Shared) (v : Value), BindsTo s fd ⟨[v], []⟩ [("script", v)]) ∧ ∀ base : Heap, K.In base → base.Ns mainGlobals mg → FnOkG l.prog w K mg base CX0 8 fa fd ["script"] (sp_lawK K) := by
  have e := hfa.symm.trans (PySem.W.mg_of X G a18)
  cases e
  have F0 := fun_mk (st := s_is_whole) l0 c0 k0
  have F1 := fun_mk (st := s_Paper___init__) l1 c1 k1
  have F2 := fun_mk (st := s_lines_used) l2 c2 k2
  have F3 := fun_mk (st := s_with_lines) l3 c3 k3
  have F4 := fun_mk (st := s__line_items) l4 c4 k4
  have F5 := fun_mk (st := s_needed_lines) l5 c5 k5
  have F6 := fun_mk (st := s_needed_steps) l6 c6 k6
  have F7 := fun_mk (st := s_trimmed_paper) l7 c7 k7
  have F8 := fun_mk (st := s__step_key) l8 c8 k8
  have F9 := fun_mk (st := s__law_cell) l9 c9 k9
  have F10 := fun_mk (st := s__law_digits) l10 c10 k10
  have F11 := fun_mk (st := s__law_earlier) l11 c11 k11
  have F12 := fun_mk (st := s__law_drawn_step) l12 c12 k12
  have F13 := fun_mk (st := s__law_drawn_steps) l13 c13 k13
  have F14 := fun_mk (st := s__law_moved) l14 c14 k14
  have F15 := fun_mk (st := s__law_used) l15 c15 k15
  have F16 := fun_mk (st := s__law_trimmed) l16 c16 k16
  have F17 := fun_mk (st := s__law_right) l17 c17 k17
  have F18 := fun_mk (st := s_law) l18 c18 k18
  let T : TopW w l.prog K mg := { a_LINE_ITEMS := a_LINE_ITEMS, c_LINE_ITEMS := PySem.W.mg_of X G z_LINE_ITEMS, d_LINE_ITEMS := d_LINE_ITEMS, b_given := b_given, n_given := n_given, q_given := fun H => sqt_K l_given v1_given v2_given v3_given H, b_same := b_same, n_same := n_same, q_same := fun H => sqt_K l_same v1_same v2_same v3_same H, b_either := b_either, n_either := n_either, q_either := fun H => sqt_K l_either v1_either v2_either v3_either H, b_fill := b_fill, n_fill := n_fill, q_fill := fun H => sqt_K l_fill v1_fill v2_fill v3_fill H, b_more := b_more, n_more := n_more, q_more := fun H => sqt_K l_more v1_more v2_more v3_more H, b_drop := b_drop, n_drop := n_drop, q_drop := fun H => sqt_K l_drop v1_drop v2_drop v3_drop H, b_replace := b_replace, n_replace := n_replace, q_replace := fun H => sqt_K l_replace v1_replace v2_replace v3_replace H, C_Paper := C_Paper, cl_Paper := ⟨pg_Paper, hd_Paper, po_Paper, sa_Paper⟩, g_Paper := PySem.W.mg_of X G aC_Paper, na_Paper_steps := na_Paper_steps, mk_Paper := ⟨mk_Paper, a1, i1, kc_Paper⟩, insv := insv, insa := insa, f_is_whole := f0, fd_is_whole := _, F_is_whole := F0, b_is_whole := F0.binds (ps := ["value"]) (fun _ _ _ _ _ _ us hl => match us, hl with | [_], _ => rfl), g_is_whole := PySem.W.mg_of X G a0, f_Paper___init__ := f1, fd_Paper___init__ := _, F_Paper___init__ := F1, b_Paper___init__ := F1.binds (ps := ["self", "steps"]) (fun _ _ _ _ _ _ us hl => match us, hl with | [_, _], _ => rfl), f_lines_used := f2, fd_lines_used := _, F_lines_used := F2, b_lines_used := F2.binds (ps := ["step"]) (fun _ _ _ _ _ _ us hl => match us, hl with | [_], _ => rfl), g_lines_used := PySem.W.mg_of X G a2, f_with_lines := f3, fd_with_lines := _, F_with_lines := F3, b_with_lines := F3.binds (ps := ["step", "numbers"]) (fun _ _ _ _ _ _ us hl => match us, hl with | [_, _], _ => rfl), g_with_lines := PySem.W.mg_of X G a3, f__line_items := f4, fd__line_items := _, F__line_items := F4, b__line_items := F4.binds (ps := ["step"]) (fun _ _ _ _ _ _ us hl => match us, hl with | [_], _ => rfl), g__line_items := PySem.W.mg_of X G a4, f_needed_lines := f5, fd_needed_lines := _, F_needed_lines := F5, b_needed_lines := F5.binds (ps := ["steps"]) (fun _ _ _ _ _ _ us hl => match us, hl with | [_], _ => rfl), g_needed_lines := PySem.W.mg_of X G a5, f_needed_steps := f6, fd_needed_steps := _, F_needed_steps := F6, b_needed_steps := F6.binds (ps := ["steps"]) (fun _ _ _ _ _ _ us hl => match us, hl with | [_], _ => rfl), g_needed_steps := PySem.W.mg_of X G a6, f_trimmed_paper := f7, fd_trimmed_paper := _, F_trimmed_paper := F7, b_trimmed_paper := F7.binds (ps := ["paper"]) (fun _ _ _ _ _ _ us hl => match us, hl with | [_], _ => rfl), g_trimmed_paper := PySem.W.mg_of X G a7, f__step_key := f8, fd__step_key := _, F__step_key := F8, b__step_key := F8.binds (ps := ["step"]) (fun _ _ _ _ _ _ us hl => match us, hl with | [_], _ => rfl), g__step_key := PySem.W.mg_of X G a8, f__law_cell := f9, fd__law_cell := _, F__law_cell := F9, b__law_cell := F9.binds (ps := ["script", "k"]) (fun _ _ _ _ _ _ us hl => match us, hl with | [_, _], _ => rfl), g__law_cell := PySem.W.mg_of X G a9, f__law_digits := f10, fd__law_digits := _, F__law_digits := F10, b__law_digits := F10.binds (ps := ["cell", "sizes"]) (fun _ _ _ _ _ _ us hl => match us, hl with | [_, _], _ => rfl), g__law_digits := PySem.W.mg_of X G a10, f__law_earlier := f11, fd__law_earlier := _, F__law_earlier := F11, b__law_earlier := F11.binds (ps := ["k", "digit"]) (fun _ _ _ _ _ _ us hl => match us, hl with | [_, _], _ => rfl), g__law_earlier := PySem.W.mg_of X G a11, f__law_drawn_step := f12, fd__law_drawn_step := _, F__law_drawn_step := F12, b__law_drawn_step := F12.binds (ps := ["row", "k"]) (fun _ _ _ _ _ _ us hl => match us, hl with | [_, _], _ => rfl), g__law_drawn_step := PySem.W.mg_of X G a12, f__law_drawn_steps := f13, fd__law_drawn_steps := _, F__law_drawn_steps := F13, b__law_drawn_steps := F13.binds (ps := ["script", "count"]) (fun _ _ _ _ _ _ us hl => match us, hl with | [_, _], _ => rfl), g__law_drawn_steps := PySem.W.mg_of X G a13, f__law_moved := f14, fd__law_moved := _, F__law_moved := F14, b__law_moved := F14.binds (ps := ["step", "numbers"]) (fun _ _ _ _ _ _ us hl => match us, hl with | [_, _], _ => rfl), g__law_moved := PySem.W.mg_of X G a14, f__law_used := f15, fd__law_used := _, F__law_used := F15, b__law_used := F15.binds (ps := ["step"]) (fun _ _ _ _ _ _ us hl => match us, hl with | [_], _ => rfl), g__law_used := PySem.W.mg_of X G a15, f__law_trimmed := f16, fd__law_trimmed := _, F__law_trimmed := F16, b__law_trimmed := F16.binds (ps := ["steps"]) (fun _ _ _ _ _ _ us hl => match us, hl with | [_], _ => rfl), g__law_trimmed := PySem.W.mg_of X G a16, f__law_right := f17, fd__law_right := _, F__law_right := F17, b__law_right := F17.binds (ps := ["steps"]) (fun _ _ _ _ _ _ us hl => match us, hl with | [_], _ => rfl), g__law_right := PySem.W.mg_of X G a17, f_law := fa, fd_law := _, F_law := F18, b_law := F18.binds (ps := ["script"]) (fun _ _ _ _ _ _ us hl => match us, hl with | [_], _ => rfl), g_law := PySem.W.mg_of X G a18, n_bool := PySem.W.mg_none_of X G n_bool, n_int := PySem.W.mg_none_of X G n_int, n_isinstance := PySem.W.mg_none_of X G n_isinstance, n_len := PySem.W.mg_none_of X G n_len, n_list := PySem.W.mg_none_of X G n_list, n_max := PySem.W.mg_none_of X G n_max, n_range := PySem.W.mg_none_of X G n_range, n_repr := PySem.W.mg_none_of X G n_repr, n_reversed := PySem.W.mg_none_of X G n_reversed, n_sorted := PySem.W.mg_none_of X G n_sorted, n_str := PySem.W.mg_none_of X G n_str, n_tuple := PySem.W.mg_none_of X G n_tuple }
  exact ⟨_, fun s v => .of_eq rfl, fun base _ _ => ok_law T⟩
end K55

open PySem PySem.W PyProof.Rows

set_option maxRecDepth 100000 in
set_option maxHeartbeats 0 in
theorem PySem.Challenge.cw_claimworlds_k55_trimmed_holds : PySem.Challenge.rw_claimworlds_k55_trimmed.Holds := by
  w_on; o_law; k_head; (case hw => w_witness2)
  k_fill
  refine CW.walk_ofG (l := PySem.Challenge.rw_claimworlds_k55_trimmed) (n := 63) (k := 8) (x := "script") (sp := fun w => K55.sp_lawK _) rfl (by decide) rfl ⟨rfl, by decide, by decide⟩ (fun w h Y => PySem.W.kIn_of Y) ?F (fun _ _ a ns hl _ hS => ⟨a, ns, rfl, hS, hl, fun _ => rfl⟩)
  case F =>
    intro w mg fa h KX G hmg
    refine' K55.all_mk (l := PySem.Challenge.rw_claimworlds_k55_trimmed) KX G hmg ?insv ?insa ?aC_Paper ?pg_Paper ?hd_Paper ?po_Paper ?sa_Paper ?mk_Paper ?kc_Paper ?na_Paper_steps ?a0 ?l0 ?c0 ?k0 ?a1 ?i1 ?l1 ?c1 ?k1 ?a2 ?l2 ?c2 ?k2 ?a3 ?l3 ?c3 ?k3 ?a4 ?l4 ?c4 ?k4 ?a5 ?l5 ?c5 ?k5 ?a6 ?l6 ?c6 ?k6 ?a7 ?l7 ?c7 ?k7 ?a8 ?l8 ?c8 ?k8 ?a9 ?l9 ?c9 ?k9 ?a10 ?l10 ?c10 ?k10 ?a11 ?l11 ?c11 ?k11 ?a12 ?l12 ?c12 ?k12 ?a13 ?l13 ?c13 ?k13 ?a14 ?l14 ?c14 ?k14 ?a15 ?l15 ?c15 ?k15 ?a16 ?l16 ?c16 ?k16 ?a17 ?l17 ?c17 ?k17 ?a18 ?l18 ?c18 ?k18 ?n_bool ?n_int ?n_isinstance ?n_len ?n_list ?n_max ?n_range ?n_repr ?n_reversed ?n_sorted ?n_str ?n_tuple ?z_LINE_ITEMS ?d_LINE_ITEMS ?n_given ?l_given ?v1_given ?v2_given ?v3_given ?n_same ?l_same ?v1_same ?v2_same ?v3_same ?n_either ?l_either ?v1_either ?v2_either ?v3_either ?n_fill ?l_fill ?v1_fill ?v2_fill ?v3_fill ?n_more ?l_more ?v1_more ?v2_more ?v3_more ?n_drop ?l_drop ?v1_drop ?v2_drop ?v3_drop ?n_replace ?l_replace ?v1_replace ?v2_replace ?v3_replace
    (case insa => as_aux_lemma => k_is)
    (case aC_Paper => as_aux_lemma => k_is)
    (case pg_Paper => as_aux_lemma => k_is)
    (case hd_Paper => as_aux_lemma => k_is)
    (case po_Paper => as_aux_lemma => k_is)
    (case sa_Paper => as_aux_lemma => k_is)
    (case mk_Paper => as_aux_lemma => k_is)
    (case kc_Paper => as_aux_lemma => k_is)
    (case na_Paper_steps => as_aux_lemma => k_is)
    (case a0 => as_aux_lemma => k_is)
    (case l0 => as_aux_lemma => k_is)
    (case c0 => as_aux_lemma => k_is)
    (case k0 => as_aux_lemma => k_is)
    (case a1 => as_aux_lemma => k_is)
    (case i1 => as_aux_lemma => k_is)
    (case l1 => as_aux_lemma => k_is)
    (case c1 => as_aux_lemma => k_is)
    (case k1 => as_aux_lemma => k_is)
    (case a2 => as_aux_lemma => k_is)
    (case l2 => as_aux_lemma => k_is)
    (case c2 => as_aux_lemma => k_is)
    (case k2 => as_aux_lemma => k_is)
    (case a3 => as_aux_lemma => k_is)
    (case l3 => as_aux_lemma => k_is)
    (case c3 => as_aux_lemma => k_is)
    (case k3 => as_aux_lemma => k_is)
    (case a4 => as_aux_lemma => k_is)
    (case l4 => as_aux_lemma => k_is)
    (case c4 => as_aux_lemma => k_is)
    (case k4 => as_aux_lemma => k_is)
    (case a5 => as_aux_lemma => k_is)
    (case l5 => as_aux_lemma => k_is)
    (case c5 => as_aux_lemma => k_is)
    (case k5 => as_aux_lemma => k_is)
    (case a6 => as_aux_lemma => k_is)
    (case l6 => as_aux_lemma => k_is)
    (case c6 => as_aux_lemma => k_is)
    (case k6 => as_aux_lemma => k_is)
    (case a7 => as_aux_lemma => k_is)
    (case l7 => as_aux_lemma => k_is)
    (case c7 => as_aux_lemma => k_is)
    (case k7 => as_aux_lemma => k_is)
    (case a8 => as_aux_lemma => k_is)
    (case l8 => as_aux_lemma => k_is)
    (case c8 => as_aux_lemma => k_is)
    (case k8 => as_aux_lemma => k_is)
    (case a9 => as_aux_lemma => k_is)
    (case l9 => as_aux_lemma => k_is)
    (case c9 => as_aux_lemma => k_is)
    (case k9 => as_aux_lemma => k_is)
    (case a10 => as_aux_lemma => k_is)
    (case l10 => as_aux_lemma => k_is)
    (case c10 => as_aux_lemma => k_is)
    (case k10 => as_aux_lemma => k_is)
    (case a11 => as_aux_lemma => k_is)
    (case l11 => as_aux_lemma => k_is)
    (case c11 => as_aux_lemma => k_is)
    (case k11 => as_aux_lemma => k_is)
    (case a12 => as_aux_lemma => k_is)
    (case l12 => as_aux_lemma => k_is)
    (case c12 => as_aux_lemma => k_is)
    (case k12 => as_aux_lemma => k_is)
    (case a13 => as_aux_lemma => k_is)
    (case l13 => as_aux_lemma => k_is)
    (case c13 => as_aux_lemma => k_is)
    (case k13 => as_aux_lemma => k_is)
    (case a14 => as_aux_lemma => k_is)
    (case l14 => as_aux_lemma => k_is)
    (case c14 => as_aux_lemma => k_is)
    (case k14 => as_aux_lemma => k_is)
    (case a15 => as_aux_lemma => k_is)
    (case l15 => as_aux_lemma => k_is)
    (case c15 => as_aux_lemma => k_is)
    (case k15 => as_aux_lemma => k_is)
    (case a16 => as_aux_lemma => k_is)
    (case l16 => as_aux_lemma => k_is)
    (case c16 => as_aux_lemma => k_is)
    (case k16 => as_aux_lemma => k_is)
    (case a17 => as_aux_lemma => k_is)
    (case l17 => as_aux_lemma => k_is)
    (case c17 => as_aux_lemma => k_is)
    (case k17 => as_aux_lemma => k_is)
    (case a18 => as_aux_lemma => k_is)
    (case l18 => as_aux_lemma => k_is)
    (case c18 => as_aux_lemma => k_is)
    (case k18 => as_aux_lemma => k_is)
    (case n_bool => as_aux_lemma => k_is)
    (case n_int => as_aux_lemma => k_is)
    (case n_isinstance => as_aux_lemma => k_is)
    (case n_len => as_aux_lemma => k_is)
    (case n_list => as_aux_lemma => k_is)
    (case n_max => as_aux_lemma => k_is)
    (case n_range => as_aux_lemma => k_is)
    (case n_repr => as_aux_lemma => k_is)
    (case n_reversed => as_aux_lemma => k_is)
    (case n_sorted => as_aux_lemma => k_is)
    (case n_str => as_aux_lemma => k_is)
    (case n_tuple => as_aux_lemma => k_is)
    (case insv => kernel_rfl)
    (case z_LINE_ITEMS => as_aux_lemma => k_is)
    (case n_given => as_aux_lemma => k_is)
    (case l_given => as_aux_lemma => k_is)
    (case n_same => as_aux_lemma => k_is)
    (case l_same => as_aux_lemma => k_is)
    (case n_either => as_aux_lemma => k_is)
    (case l_either => as_aux_lemma => k_is)
    (case n_fill => as_aux_lemma => k_is)
    (case l_fill => as_aux_lemma => k_is)
    (case n_more => as_aux_lemma => k_is)
    (case l_more => as_aux_lemma => k_is)
    (case n_drop => as_aux_lemma => k_is)
    (case l_drop => as_aux_lemma => k_is)
    (case n_replace => as_aux_lemma => k_is)
    (case l_replace => as_aux_lemma => k_is)
    (case d_LINE_ITEMS => kernel_rfl)
    (case v1_given => rfl)
    (case v2_given => decide)
    (case v3_given => rfl)
    (case v1_same => rfl)
    (case v2_same => decide)
    (case v3_same => rfl)
    (case v1_either => rfl)
    (case v2_either => decide)
    (case v3_either => rfl)
    (case v1_fill => rfl)
    (case v2_fill => decide)
    (case v3_fill => rfl)
    (case v1_more => rfl)
    (case v2_more => decide)
    (case v3_more => rfl)
    (case v1_drop => rfl)
    (case v2_drop => decide)
    (case v3_drop => rfl)
    (case v1_replace => rfl)
    (case v2_replace => decide)
    (case v3_replace => rfl)

